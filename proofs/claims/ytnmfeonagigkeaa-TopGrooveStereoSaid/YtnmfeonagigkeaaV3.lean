import Derived.Test.YtnmfeonagigkeaaV1
namespace Go.Proofs.Ytnmfeonagigkeaa
open Go.RowKit

theorem firstE_step (f : Nat → Int) (k n : Nat) (h : k < n) : firstE f k (n - k) = if f k = 0 then firstE f (k + 1) (n - (k + 1)) else f k := by
  obtain ⟨m, hm⟩ : ∃ m, n - k = m + 1 := ⟨n - k - 1, by omega⟩
  rw [hm, show n - (k + 1) = m by omega]
  rfl
theorem stepE_bad (s : Int) (v : List Int) (k : Nat) (h : fromB (-2000000) 2000000 [v.getD k 0] = false) : stepE s v k = 2 := by unfold stepE; rw [if_neg (by rw [h]; decide)]
theorem stepE_next (s : Int) (v : List Int) (k : Nat) (h : fromB (-2000000) 2000000 [v.getD k 0] = true) : stepE s v k = if fromB (-1000000) 1000000 [posAt s v (k + 1)] = true then 0 else 23 := by unfold stepE; rw [if_pos h]
theorem psE_loop {s : Int} {v : List Int} {n : Nat} (h1 : fromB (-1000000) 1000000 [s] = true) (hl : v.length = n) (h2 : n < 200) : psE s v = firstE (stepE s v) 0 (n - 0) := by
  unfold psE; rw [if_pos h1, hl, if_pos h2]; rfl


set_option maxRecDepth 100000 in
set_option maxHeartbeats 4000000 in
theorem PositionsOf_any (s : Int) (A : Option Addr) (n c : Nat) (v : List Int) (w : World) (hr : RdI w A n v) (hn : n ≤ 1000000) :
    Calls Try.prog 11 #[.int .i64 s, .slice A n c] w (OwnRes w (psE s v) (psL s v)) := by
  have C0 := Lib.hid (areAtMost_any (some ⟨w.heap.size, 0, none⟩) 1 1 [s] 1000000 (w.alloc (.cells #[.int .i64 s] 3)) (lit1 _ _ _ (by simp [go_sem])) (by omega) (by omega))
  have HR := Lib.hid hr
  have HLN : Hid (v.length = n) := hr.1
  clear hr
  obtain ⟨i0, hi0, hz0, hz1, hz2⟩ := info_parts intInfo'
  cases hs : fromB (-1000000) 1000000 [s] with
  | false =>
    rw [hs] at C0
    have HE : Hid (psE s v = 2) := by show _ = _; unfold psE; rw [if_neg (by rw [hs]; decide)]
    clear hs
    rw [psL_err (by rw [HE.out]; decide), HE.out]
    go_enter Try.func11, Try.ntmps11
    go_wp2_with (go_at_call 23; refine C0.out.mono ?_; rintro e w' ⟨rfl, rfl⟩)
    go_ret2
    exact OwnRes.none_ ((Below.refl _ w).alloc (Nat.le_refl _) _)
  | true =>
    rw [hs] at C0
    have hsb := fromB_one.1 hs
    by_cases h2 : n < 200
    · have h2I : (n : Int) < 200 := by omega
      have HPE := Lib.hid (psE_loop hs HLN.out h2)
      clear hs
      go_enter Try.func11, Try.ntmps11
      go_wp2_with (go_at_call 23; refine C0.out.mono ?_; rintro e w' ⟨rfl, rfl⟩)
      go_loopw [6, 23] (fun p i wr => ∃ k : Nat, k ≤ n ∧ i = .int .i64 k ∧ Hid (psE s v = firstE (stepE s v) k (n - k)) ∧ Hid (wr.ownsRow w.heap.size 3 1 p (k + 1) ((posTo s v (k + 1)).map (Value.int .i64)) ∧ Below w.heap.size w wr ∧ -1000000 ≤ posAt s v k ∧ posAt s v k ≤ 1000000)) (fun _ i _ => n - (intOf i).toNat)
      case atStart =>
        refine ⟨0, Nat.zero_le _, rfl, HPE.out, ?_, ((Below.refl _ w).alloc (Nat.le_refl _) _).alloc (by simp) _, hsb⟩
        have := own_of_bk (w := (w.alloc (.cells #[.int .i64 s] 3)).alloc (.cells #[.int .i64 s] 3)) (base := w.heap.size) (g := (w.alloc (.cells #[.int .i64 s] 3)).heap.size) (xs := [s]) 1 (Bk.new (w.alloc (.cells #[.int .i64 s] 3)) 3 #[.int .i64 s]) rfl (by simp) (by omega)
        simpa [posTo, posAt] using this
      case round =>
        obtain ⟨k, hk, rfl, HF, HI⟩ := hrel
        by_cases hlt : k < n
        · have hkI : (k : Int) < (n : Int) := by omega
          have hk0 : (0 : Int) ≤ (k : Int) := by omega
          have hst := firstE_step (stepE s v) k n hlt
          obtain ⟨ad, ha, hadb, hc⟩ := HR.out.2 (by omega)
          have hck := (HI.out.2.1.cell (p := ad.add k) (by rw [addBlock]; exact hadb)).trans (hc k hlt)
          clear hc
          subst ha
          obtain ⟨g, cap, hp⟩ := ownsRow_succ HI.out.1
          subst hp
          have hpc : wr.cell? ⟨g, k, none⟩ = some (.int .i64 (posAt s v k)) := by
            have := HI.out.1.cellAt k (by omega)
            rw [this, List.getElem?_map, posTo_at s v (k + 1) k (by omega)]; rfl
          have hgw := (HI.out.1.lt g rfl).2
          have hpb := HI.out.2.2
          have hnx : posAt s v (k + 1) = posAt s v k + v.getD k 0 := rfl
          have hbad := stepE_bad s v k
          have hnext := stepE_next s v k
          have hsucc := posTo_succ s v (k + 1)
          rw [hnx] at hnext hsucc
          obtain ⟨x, hx⟩ : ∃ x, v.getD k 0 = x := ⟨_, rfl⟩
          obtain ⟨y, hy⟩ : ∃ y, posAt s v k = y := ⟨_, rfl⟩
          rw [hx] at hck hbad hnext hsucc hnx
          rw [hy] at hpc hpb hnext hsucc hnx
          have HBAD := Lib.hid hbad
          have HNEXT := Lib.hid hnext
          have HSUCC := Lib.hid hsucc
          have HNX := Lib.hid hnx
          have HST := Lib.hid hst
          clear hbad hnext hsucc hnx hst hx hy
          cases hfx : fromB (-2000000) 2000000 [x] with
          | false =>
            have HEE : Hid (psE s v = 2) := by show _ = _; rw [HF.out, HST.out, HBAD.out hfx]; rfl
            have CX := Lib.hid (areAtMost_any (some ⟨wr.heap.size, 0, none⟩) 1 1 [x] 2000000 (wr.alloc (.cells #[.int .i64 x] 3)) (lit1 _ _ _ (by simp [go_sem])) (by omega) (by omega))
            rw [hfx] at CX
            clear hfx
            go_wp2_with (go_at_call 23; refine CX.out.mono ?_; rintro e w' ⟨rfl, rfl⟩)
            go_ret2
            rw [psL_err (by rw [HEE.out]; decide), HEE.out]
            exact OwnRes.none_ (HI.out.2.1.alloc HI.out.2.1.size _)
          | true =>
            have hxb := fromB_one.1 hfx
            have HN2 := Lib.hid (HNEXT.out hfx)
            have CX := Lib.hid (areAtMost_any (some ⟨wr.heap.size, 0, none⟩) 1 1 [x] 2000000 (wr.alloc (.cells #[.int .i64 x] 3)) (lit1 _ _ _ (by simp [go_sem])) (by omega) (by omega))
            rw [hfx] at CX
            clear hfx
            have hwxy : IntKind.i64.wrap (y + x) = y + x := IntWalk.i64_in _ (by omega)
            cases hfy : fromB (-1000000) 1000000 [y + x] with
            | false =>
              have HEE : Hid (psE s v = 23) := by show _ = _; rw [HF.out, HST.out, HN2.out]; simp [hfy]
              have CY := Lib.hid (areAtMost_any (some ⟨wr.heap.size + 1, 0, none⟩) 1 1 [y + x] 1000000 ((wr.alloc (.cells #[.int .i64 x] 3)).alloc (.cells #[.int .i64 (y + x)] 3)) (lit1 _ _ _ (by simp [go_sem])) (by omega) (by omega))
              rw [hfy] at CY
              clear hfy
              go_wp2_with fail
              refine CX.out.mono ?_
              rintro e w' ⟨rfl, rfl⟩
              clear CX
              go_wp2_with (go_at_call 23; refine CY.out.mono ?_; rintro e w' ⟨rfl, rfl⟩)
              go_ret2
              rw [psL_err (by rw [HEE.out]; decide), HEE.out]
              exact OwnRes.none_ ((HI.out.2.1.alloc HI.out.2.1.size _).alloc (by have := HI.out.2.1.size; simp; omega) _)
            | true =>
              have hyb := fromB_one.1 hfy
              have HEE : Hid (psE s v = firstE (stepE s v) (k + 1) (n - (k + 1))) := by show _ = _; rw [HF.out, HST.out, HN2.out, if_pos hfy, if_pos rfl]
              have CY := Lib.hid (areAtMost_any (some ⟨wr.heap.size + 1, 0, none⟩) 1 1 [y + x] 1000000 ((wr.alloc (.cells #[.int .i64 x] 3)).alloc (.cells #[.int .i64 (y + x)] 3)) (lit1 _ _ _ (by simp [go_sem])) (by omega) (by omega))
              rw [hfy] at CY
              clear hfy
              go_wp2_with fail
              refine CX.out.mono ?_
              rintro e w' ⟨rfl, rfl⟩
              clear CX
              go_wp2_with fail
              refine CY.out.mono ?_
              rintro e w' ⟨rfl, rfl⟩
              clear CY hck hpc
              have HO2 : Hid (((wr.alloc (.cells #[.int .i64 x] 3)).alloc (.cells #[.int .i64 (y + x)] 3)).ownsRow w.heap.size 3 1 (.slice (some ⟨g, 0, none⟩) (k + 1) cap) (k + 1) ((posTo s v (k + 1)).map (Value.int .i64))) := (HI.out.1.alloc _).alloc _
              have HB2 : Hid (Below w.heap.size w ((wr.alloc (.cells #[.int .i64 x] 3)).alloc (.cells #[.int .i64 (y + x)] 3))) := (HI.out.2.1.alloc HI.out.2.1.size _).alloc (by have := HI.out.2.1.size; simp; omega) _
              obtain ⟨W2, hW2⟩ : ∃ W2, ((wr.alloc (.cells #[.int .i64 x] 3)).alloc (.cells #[.int .i64 (y + x)] 3)) = W2 := ⟨_, rfl⟩
              rw [hW2] at HO2 HB2 ⊢
              clear hW2
              have hzW : w.heap.size ≤ W2.heap.size := HB2.out.size
              go_wp2_with (at_builtin; refine wpList_append_own _ rfl (.tmp 42) (.tmp 44) 30 rfl w.heap.size 3 i0 _ 1 8 Try.underlying30 hi0 hz0 hz1 hz2 rfl (by decide) _ _ _ rfl (HO2.out.alloc _) ⟨W2.heap.size, 0, none⟩ 1 1 [.int .i64 (y + x)] rfl rfl (cell_one_new _ _ _) (by simp [Value.oneCell']) (by unfold maxLen; omega) (by omega) (by simp; omega) ?_)
              intro v' w4 hown' hgrow _
              have HFIN : Hid (w4.ownsRow w.heap.size 3 1 v' (k + 1 + 1) ((posTo s v (k + 1 + 1)).map (Value.int .i64)) ∧ Below w.heap.size w w4 ∧ -1000000 ≤ posAt s v (k + 1) ∧ posAt s v (k + 1) ≤ 1000000) := by
                refine ⟨by rw [HSUCC.out, List.map_append]; exact hown', (HB2.out.alloc HB2.out.size _).grown hgrow (by simp; omega) (fun z e => (HO2.out.lt z e).1), by rw [HNX.out]; exact hyb⟩
              clear hown' hgrow
              go_wp2
              go_roundw
              case rel => exact ⟨k + 1, by omega, by go_num, HEE.out, HFIN.out⟩
              case measure => simp [intOf]; omega
        · obtain rfl : k = n := by omega
          have HEE : Hid (psE s v = 0) := by show _ = _; rw [HF.out, Nat.sub_self]; rfl
          have HLL : Hid (psL s v = posTo s v (k + 1)) := by show _ = _; unfold psL; rw [if_pos HEE.out, HLN.out]
          go_wp2
          go_ret2
          rw [HLL.out, HEE.out]
          exact ⟨⟨_, rfl, by rw [posTo_length]; exact HI.out.1⟩, HI.out.2.1⟩
    · have h2I : ¬ (n : Int) < 200 := by omega
      have HE : Hid (psE s v = 8) := by show _ = _; unfold psE; rw [if_pos hs, if_neg (by rw [HLN.out]; exact h2)]
      clear hs
      rw [psL_err (by rw [HE.out]; decide), HE.out]
      go_enter Try.func11, Try.ntmps11
      go_wp2_with (go_at_call 23; refine C0.out.mono ?_; rintro e w' ⟨rfl, rfl⟩)
      go_ret2
      exact OwnRes.none_ ((Below.refl _ w).alloc (Nat.le_refl _) _)

end Go.Proofs.Ytnmfeonagigkeaa
