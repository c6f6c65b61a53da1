import Derived.Test.YtnmfeonagigkeaaDoorV1
namespace Go.Proofs.YtnmfeonagigkeaaDoor
open Go.RowKit

theorem jmpTo_step (xs : List Int) (limit : Int) (q : Nat) : jmpTo xs limit (q + 1 + 1) = if jmpB xs limit (q + 1) = true then jmpTo xs limit (q + 1) ++ [((q + 1 : Nat) : Int)] else jmpTo xs limit (q + 1) := by
  show (if (q + 1) ≠ 0 ∧ jmpB xs limit (q + 1) = true then _ else _) = _
  by_cases h : jmpB xs limit (q + 1) = true
  · rw [if_pos ⟨by omega, h⟩, if_pos h]
  · rw [if_neg (fun h' => h h'.2), if_neg h]
theorem jmpTo_one (xs : List Int) (limit : Int) : jmpTo xs limit 1 = [] := rfl

set_option maxRecDepth 100000 in
set_option maxHeartbeats 4000000 in
theorem JumpsIn_any (A : Option Addr) (n c : Nat) (xs : List Int) (limit : Int) (w : World) (hr : RdI w A n xs) (hn : n ≤ 1000000) :
    Calls Tryd.prog 33 #[.slice A n c, .int .i64 limit] w (OwnRes w (jmpE xs limit) (jmpL xs limit)) := by
  have C1 := Lib.hid (checkPositions_any A n c xs w hr (by omega))
  have C2 := Lib.hid (checkLimit_any limit w)
  have HR := Lib.hid hr
  have HLN : Hid (xs.length = n) := hr.1
  clear hr
  obtain ⟨i0, hi0, hz0, hz1, hz2⟩ := info_parts intInfo'
  by_cases hE1 : posE xs = 0
  · rw [hE1] at C1
    have hje : jmpE xs limit = limE limit := by unfold jmpE; rw [if_pos hE1]
    have HSM := Lib.hid (pos_ok hE1)
    clear hE1
    by_cases hE2 : limE limit = 0
    · rw [hE2] at C2 hje
      have hlb : 0 ≤ limit ∧ limit ≤ 2000000 := by
        unfold limE at hE2
        by_cases h : fromB 0 2000000 [limit] = true
        · exact fromB_one.1 h
        · rw [if_neg h] at hE2; omega
      have HL : Hid (jmpL xs limit = jmpTo xs limit n) := by show _ = _; unfold jmpL; rw [if_pos hje, HLN.out]
      rw [hje, HL.out]
      clear hE2 hje HL
      go_enter Tryd.func33, Tryd.ntmps33
      go_wp2_with fail
      refine C1.out.mono ?_
      rintro e w' ⟨rfl, rfl⟩
      go_wp2_with fail
      refine C2.out.mono ?_
      rintro e w0 ⟨rfl, hb0⟩
      have HB0 := Lib.hid hb0
      clear C1 C2 hb0
      go_wp2
      go_loopw [8, 9] (fun p i wr => ∃ k : Nat, 1 ≤ k ∧ (k ≤ n ∨ k = 1) ∧ i = .int .i64 k ∧ Hid (wr.ownsRow w.heap.size 3 1 p (jmpTo xs limit k).length ((jmpTo xs limit k).map (Value.int .i64)) ∧ Below w.heap.size w wr)) (fun _ i _ => n + 1 - (intOf i).toNat)
      case atStart => exact ⟨1, Nat.le_refl _, .inr rfl, rfl, World.ownsRow_nil _ _ _ _, HB0.out⟩
      case round =>
        obtain ⟨k, hk1, hk, rfl, HI⟩ := hrel
        by_cases hlt : k < n
        · have hkI : (k : Int) < (n : Int) := by omega
          obtain ⟨q, hq⟩ : ∃ q, k = q + 1 := ⟨k - 1, by omega⟩
          obtain ⟨ad, ha, hadb, hc⟩ := HR.out.2 (by omega)
          have h2 := (HI.out.2.cell (p := ad.add k) (by rw [addBlock]; exact hadb)).trans (hc k hlt)
          have h1 := (HI.out.2.cell (p := ad.add q) (by rw [addBlock]; exact hadb)).trans (hc q (by omega))
          clear hc
          subst ha
          have hx := HSM.out.2.at_ q
          have hy := HSM.out.2.at_ k
          have hjs := jmpTo_step xs limit q
          rw [← hq] at hjs
          have hjb : jmpB xs limit k = !fromB (-limit) limit [xs.getD k 0 - xs.getD q 0] := by unfold jmpB; rw [show k - 1 = q by omega]
          have hjl := jmpTo_length xs limit k
          obtain ⟨x, hxe⟩ : ∃ x, xs.getD q 0 = x := ⟨_, rfl⟩
          obtain ⟨y, hye⟩ : ∃ y, xs.getD k 0 = y := ⟨_, rfl⟩
          rw [hxe] at h1 hx hjb
          rw [hye] at h2 hy hjb
          have HS0 : Hid ((fun w' : World => w'.cell? (ad.add k) = some (.int .i64 y) ∧ w'.cell? (ad.add q) = some (.int .i64 x) ∧ Below wr.heap.size wr w') wr.drew) := ⟨h2, h1, (Below.refl _ _).drew⟩
          have HSA : Hid (∀ (W : World) (o : Obj), (fun w' : World => w'.cell? (ad.add k) = some (.int .i64 y) ∧ w'.cell? (ad.add q) = some (.int .i64 x) ∧ Below wr.heap.size wr w') W → (fun w' : World => w'.cell? (ad.add k) = some (.int .i64 y) ∧ w'.cell? (ad.add q) = some (.int .i64 x) ∧ Below wr.heap.size wr w') (W.alloc o)) := fun W o h => ⟨cellA o h.1, cellA o h.2.1, h.2.2.alloc h.2.2.size o⟩
          have hz1' : IntKind.i64.wrap ((k : Int) - 1) = (q : Int) := by rw [show (k : Int) - 1 = (q : Int) by omega]; exact IntWalk.i64_in _ (by omega)
          have hz2' : (0 : Int) ≤ (q : Int) := by omega
          have hz3' : (q : Int) < (n : Int) := by omega
          have hz4' : IntKind.i64.wrap (y - x) = y - x := IntWalk.i64_in _ (by omega)
          have hz5' : (0 : Int) ≤ (k : Int) := by omega
          have HJB := Lib.hid hjb
          have HJS := Lib.hid hjs
          have HQ := Lib.hid hq
          clear hxe hye h1 h2 hjb hjs hq
          cases hjt : jmpB xs limit k with
          | true =>
            have HJ : Hid (jmpTo xs limit (k + 1) = jmpTo xs limit k ++ [(k : Int)]) := by
              show _ = _
              rw [HJS.out, if_pos hjt]
            have HTV : Hid (fromB (-limit) limit [y - x] = false) := by show _ = _; have h := HJB.out; rw [hjt] at h; cases hh : fromB (-limit) limit [y - x] with | false => rfl | true => rw [hh] at h; cases h
            have HT : Hid (fromB (-limit) limit [y - x] = false) := HTV.out
            clear hjt HJS
            go_wp2_with fail
            refine wp_region_held_drew (S := (fun w' : World => w'.cell? (ad.add k) = some (.int .i64 y) ∧ w'.cell? (ad.add q) = some (.int .i64 x) ∧ Below wr.heap.size wr w')) (by kernel_rfl) ?_ ?_
            · first | (with_reducible assumption) | exact HS0.out | exact HSA.out _ _ hHeld
            intro hHeld
            refine wpAnyH_take (i := 0) (v := ?_) rfl (by kernel_rfl) (by kernel_rfl) (by kernel_rfl) (fun _ _ _ h => h) (Or.inl ⟨by rfl, ?_⟩) (by assumption) ?_
            rotate_left
            · intro w hSw; (try dsimp only at hSw); go_simp; (try (with_reducible rfl))
            try simp only [List.getElem_toArray, List.getElem_cons_succ, List.getElem_cons_zero, Act.put, List.setIfInBounds_toArray, List.set_cons_zero, List.set_cons_succ]
            refine wpAnyH_take (i := 1) (v := ?_) rfl (by kernel_rfl) (by kernel_rfl) (by kernel_rfl) (fun _ _ _ h => h) (Or.inl ⟨by rfl, ?_⟩) (by assumption) ?_
            rotate_left
            · intro w hSw; (try dsimp only at hSw); go_simp; (try (with_reducible rfl))
            try simp only [List.getElem_toArray, List.getElem_cons_succ, List.getElem_cons_zero, Act.put, List.setIfInBounds_toArray, List.set_cons_zero, List.set_cons_succ]
            refine wpAnyH_take (i := 2) (v := ?_) rfl (by kernel_rfl) (by kernel_rfl) (by kernel_rfl) (fun _ _ _ h => h) (Or.inl ⟨by rfl, ?_⟩) (by assumption) ?_
            rotate_left
            · intro w hSw; (try dsimp only at hSw); go_simp; (try (with_reducible rfl))
            try simp only [List.getElem_toArray, List.getElem_cons_succ, List.getElem_cons_zero, Act.put, List.setIfInBounds_toArray, List.set_cons_zero, List.set_cons_succ]
            refine wpAnyH_take (i := 3) (v := ?_) rfl (by kernel_rfl) (by kernel_rfl) (by kernel_rfl) (fun _ _ _ h => h) (Or.inl ⟨by rfl, ?_⟩) (by assumption) ?_
            rotate_left
            · intro w hSw; (try dsimp only at hSw); go_simp; (try (with_reducible rfl))
            try simp only [List.getElem_toArray, List.getElem_cons_succ, List.getElem_cons_zero, Act.put, List.setIfInBounds_toArray, List.set_cons_zero, List.set_cons_succ]
            refine wpAnyH_take (i := 4) (v := ?_) rfl (by kernel_rfl) (by kernel_rfl) (by kernel_rfl) (fun _ _ _ h => h) (Or.inl ⟨by rfl, ?_⟩) (by assumption) ?_
            rotate_left
            · intro w hSw; (try dsimp only at hSw); go_simp; (try (with_reducible rfl))
            try simp only [List.getElem_toArray, List.getElem_cons_succ, List.getElem_cons_zero, Act.put, List.setIfInBounds_toArray, List.set_cons_zero, List.set_cons_succ]
            refine wpAnyH_take (i := 5) (v := ?_) rfl (by kernel_rfl) (by kernel_rfl) (by kernel_rfl) (fun _ _ _ h => h) (Or.inl ⟨by rfl, ?_⟩) (by assumption) ?_
            rotate_left
            · intro w hSw; (try dsimp only at hSw); go_simp; (try (with_reducible rfl))
            try simp only [List.getElem_toArray, List.getElem_cons_succ, List.getElem_cons_zero, Act.put, List.setIfInBounds_toArray, List.set_cons_zero, List.set_cons_succ]
            refine wpAnyH_take (i := 6) (v := ?_) rfl (by kernel_rfl) (by kernel_rfl) (by kernel_rfl) (fun _ _ _ h => h) (Or.inl ⟨by rfl, ?_⟩) (by assumption) ?_
            rotate_left
            · intro w hSw; (try dsimp only at hSw); go_simp; (try (with_reducible rfl))
            try simp only [List.getElem_toArray, List.getElem_cons_succ, List.getElem_cons_zero, Act.put, List.setIfInBounds_toArray, List.set_cons_zero, List.set_cons_succ]
            refine wpAnyH_take (i := 7) (v := ?_) rfl (by kernel_rfl) (by kernel_rfl) (by kernel_rfl) (fun _ _ _ h => h) (Or.inl ⟨by rfl, ?_⟩) (by assumption) ?_
            rotate_left
            · intro w hSw; (try dsimp only at hSw); go_simp; (try (with_reducible rfl))
            try simp only [List.getElem_toArray, List.getElem_cons_succ, List.getElem_cons_zero, Act.put, List.setIfInBounds_toArray, List.set_cons_zero, List.set_cons_succ]
            refine wpAnyH_take (i := 8) (v := ?_) rfl (by kernel_rfl) (by kernel_rfl) (by kernel_rfl) (fun _ _ _ h => h) (Or.inl ⟨by rfl, ?_⟩) (by assumption) ?_
            rotate_left
            · intro w hSw; (try dsimp only at hSw); go_simp; (try (with_reducible rfl))
            try simp only [List.getElem_toArray, List.getElem_cons_succ, List.getElem_cons_zero, Act.put, List.setIfInBounds_toArray, List.set_cons_zero, List.set_cons_succ]
            refine wpAnyH_take (i := 9) (v := ?_) rfl (by kernel_rfl) (by kernel_rfl) (by kernel_rfl) (fun _ _ _ h => h) (Or.inl ⟨by rfl, ?_⟩) (by assumption) ?_
            rotate_left
            · intro w hSw; (try dsimp only at hSw); go_simp; (try (with_reducible rfl))
            try simp only [List.getElem_toArray, List.getElem_cons_succ, List.getElem_cons_zero, Act.put, List.setIfInBounds_toArray, List.set_cons_zero, List.set_cons_succ]
            refine wpAnyH_take (i := 10) (v := ?_) rfl (by kernel_rfl) (by kernel_rfl) (by kernel_rfl) (fun _ _ _ h => h) (Or.inl ⟨by rfl, ?_⟩) (by assumption) ?_
            rotate_left
            · intro w hSw; (try dsimp only at hSw); go_simp; (try (with_reducible rfl))
            try simp only [List.getElem_toArray, List.getElem_cons_succ, List.getElem_cons_zero, Act.put, List.setIfInBounds_toArray, List.set_cons_zero, List.set_cons_succ]
            refine wpAnyH_ready (rs := [11]) (by kernel_rfl) (by simp) ?_
            refine AllReadyH.cons rfl (fun K hK => ?_) AllReadyH.nil
            go_simp
            refine hK.out _ _ ?_ (fun hHeld => ?_)
            · clear hK K; first | (with_reducible assumption) | exact HS0.out | exact HSA.out _ _ hHeld
            clear hK K
            try simp only [List.getElem_toArray, List.getElem_cons_succ, List.getElem_cons_zero, Act.put, List.setIfInBounds_toArray, List.set_cons_zero, List.set_cons_succ]
            refine wpAnyH_ready (rs := [12]) (by kernel_rfl) (by simp) ?_
            refine AllReadyH.cons rfl (fun K hK => ?_) AllReadyH.nil
            go_simp
            have hHeldOld := hHeld; go_at_call 49; refine (areAtMost_any _ _ _ [y - x] _ _ (lit1 _ _ _ (by simp [go_sem])) (by omega) (by omega)).mono ?_; rintro e w' ⟨rfl, rfl⟩; rw [HT.out]
            go_wp2_with fail
            refine hK.out _ _ ?_ (fun hHeld => ?_)
            · clear hK K; first | (with_reducible assumption) | exact HS0.out | exact HSA.out _ _ hHeld
            clear hK K
            try simp only [List.getElem_toArray, List.getElem_cons_succ, List.getElem_cons_zero, Act.put, List.setIfInBounds_toArray, List.set_cons_zero, List.set_cons_succ]
            refine wpAnyH_take (i := 13) (v := ?_) rfl (by kernel_rfl) (by kernel_rfl) (by kernel_rfl) (fun _ _ _ h => h) (Or.inl ⟨by rfl, ?_⟩) (by assumption) ?_
            rotate_left
            · intro w hSw; (try dsimp only at hSw); go_simp; (try (with_reducible rfl))
            try simp only [List.getElem_toArray, List.getElem_cons_succ, List.getElem_cons_zero, Act.put, List.setIfInBounds_toArray, List.set_cons_zero, List.set_cons_succ]
            refine wpAnyH_done (by kernel_rfl) ?_ _
            have HBW := Lib.hid hHeld.2.2
            clear hHeld HS0 HSA hz1' hz2' hz3' hz4'
            have HO2 := Lib.hid (ownLater HI.out.1 HBW.out)
            have HB2 := Lib.hid (HI.out.2.trans (HBW.out.mono HI.out.2.size))
            obtain ⟨W2, hW2⟩ : ∃ W2, (wr.alloc (.cells #[.int .i64 (y - x)] 3)).drew = W2 := ⟨_, rfl⟩
            rw [hW2] at HO2 HB2 ⊢
            clear hW2 HBW
            have hzW : w.heap.size ≤ W2.heap.size := HB2.out.size
            go_wp2_with (at_builtin; refine wpList_append_own _ rfl (.tmp 40) (.tmp 42) 38 rfl w.heap.size 3 i0 _ 1 8 Tryd.underlying38 hi0 hz0 hz1 hz2 rfl (by decide) _ _ _ rfl (HO2.out.alloc _) ⟨W2.heap.size, 0, none⟩ 1 1 [.int .i64 k] rfl rfl (cell_one_new _ _ _) (by simp [Value.oneCell']) (by unfold maxLen; omega) (by omega) (by simp; omega) ?_)
            intro v' w4 hown' hgrow _
            have HFIN : Hid (w4.ownsRow w.heap.size 3 1 v' (jmpTo xs limit (k + 1)).length ((jmpTo xs limit (k + 1)).map (Value.int .i64)) ∧ Below w.heap.size w w4) := by
              refine ⟨by rw [HJ.out, List.map_append, List.length_append]; exact hown', (HB2.out.alloc HB2.out.size _).grown hgrow (by simp; omega) (fun z e => (HO2.out.lt z e).1)⟩
            clear hown' hgrow
            go_wp2
            go_roundw
            case rel => exact ⟨k + 1, by omega, by omega, by go_num, HFIN.out⟩
            case measure => simp [intOf]; omega
          | false =>
            have HJ : Hid (jmpTo xs limit (k + 1) = jmpTo xs limit k) := by
              show _ = _
              rw [HJS.out, if_neg (by rw [hjt]; decide)]
            have HTV : Hid (fromB (-limit) limit [y - x] = true) := by show _ = _; have h := HJB.out; rw [hjt] at h; cases hh : fromB (-limit) limit [y - x] with | true => rfl | false => rw [hh] at h; cases h
            have HT : Hid (fromB (-limit) limit [y - x] = true) := HTV.out
            clear hjt HJS
            go_wp2_with fail
            refine wp_region_held_drew (S := (fun w' : World => w'.cell? (ad.add k) = some (.int .i64 y) ∧ w'.cell? (ad.add q) = some (.int .i64 x) ∧ Below wr.heap.size wr w')) (by kernel_rfl) ?_ ?_
            · first | (with_reducible assumption) | exact HS0.out | exact HSA.out _ _ hHeld
            intro hHeld
            refine wpAnyH_take (i := 0) (v := ?_) rfl (by kernel_rfl) (by kernel_rfl) (by kernel_rfl) (fun _ _ _ h => h) (Or.inl ⟨by rfl, ?_⟩) (by assumption) ?_
            rotate_left
            · intro w hSw; (try dsimp only at hSw); go_simp; (try (with_reducible rfl))
            try simp only [List.getElem_toArray, List.getElem_cons_succ, List.getElem_cons_zero, Act.put, List.setIfInBounds_toArray, List.set_cons_zero, List.set_cons_succ]
            refine wpAnyH_take (i := 1) (v := ?_) rfl (by kernel_rfl) (by kernel_rfl) (by kernel_rfl) (fun _ _ _ h => h) (Or.inl ⟨by rfl, ?_⟩) (by assumption) ?_
            rotate_left
            · intro w hSw; (try dsimp only at hSw); go_simp; (try (with_reducible rfl))
            try simp only [List.getElem_toArray, List.getElem_cons_succ, List.getElem_cons_zero, Act.put, List.setIfInBounds_toArray, List.set_cons_zero, List.set_cons_succ]
            refine wpAnyH_take (i := 2) (v := ?_) rfl (by kernel_rfl) (by kernel_rfl) (by kernel_rfl) (fun _ _ _ h => h) (Or.inl ⟨by rfl, ?_⟩) (by assumption) ?_
            rotate_left
            · intro w hSw; (try dsimp only at hSw); go_simp; (try (with_reducible rfl))
            try simp only [List.getElem_toArray, List.getElem_cons_succ, List.getElem_cons_zero, Act.put, List.setIfInBounds_toArray, List.set_cons_zero, List.set_cons_succ]
            refine wpAnyH_take (i := 3) (v := ?_) rfl (by kernel_rfl) (by kernel_rfl) (by kernel_rfl) (fun _ _ _ h => h) (Or.inl ⟨by rfl, ?_⟩) (by assumption) ?_
            rotate_left
            · intro w hSw; (try dsimp only at hSw); go_simp; (try (with_reducible rfl))
            try simp only [List.getElem_toArray, List.getElem_cons_succ, List.getElem_cons_zero, Act.put, List.setIfInBounds_toArray, List.set_cons_zero, List.set_cons_succ]
            refine wpAnyH_take (i := 4) (v := ?_) rfl (by kernel_rfl) (by kernel_rfl) (by kernel_rfl) (fun _ _ _ h => h) (Or.inl ⟨by rfl, ?_⟩) (by assumption) ?_
            rotate_left
            · intro w hSw; (try dsimp only at hSw); go_simp; (try (with_reducible rfl))
            try simp only [List.getElem_toArray, List.getElem_cons_succ, List.getElem_cons_zero, Act.put, List.setIfInBounds_toArray, List.set_cons_zero, List.set_cons_succ]
            refine wpAnyH_take (i := 5) (v := ?_) rfl (by kernel_rfl) (by kernel_rfl) (by kernel_rfl) (fun _ _ _ h => h) (Or.inl ⟨by rfl, ?_⟩) (by assumption) ?_
            rotate_left
            · intro w hSw; (try dsimp only at hSw); go_simp; (try (with_reducible rfl))
            try simp only [List.getElem_toArray, List.getElem_cons_succ, List.getElem_cons_zero, Act.put, List.setIfInBounds_toArray, List.set_cons_zero, List.set_cons_succ]
            refine wpAnyH_take (i := 6) (v := ?_) rfl (by kernel_rfl) (by kernel_rfl) (by kernel_rfl) (fun _ _ _ h => h) (Or.inl ⟨by rfl, ?_⟩) (by assumption) ?_
            rotate_left
            · intro w hSw; (try dsimp only at hSw); go_simp; (try (with_reducible rfl))
            try simp only [List.getElem_toArray, List.getElem_cons_succ, List.getElem_cons_zero, Act.put, List.setIfInBounds_toArray, List.set_cons_zero, List.set_cons_succ]
            refine wpAnyH_take (i := 7) (v := ?_) rfl (by kernel_rfl) (by kernel_rfl) (by kernel_rfl) (fun _ _ _ h => h) (Or.inl ⟨by rfl, ?_⟩) (by assumption) ?_
            rotate_left
            · intro w hSw; (try dsimp only at hSw); go_simp; (try (with_reducible rfl))
            try simp only [List.getElem_toArray, List.getElem_cons_succ, List.getElem_cons_zero, Act.put, List.setIfInBounds_toArray, List.set_cons_zero, List.set_cons_succ]
            refine wpAnyH_take (i := 8) (v := ?_) rfl (by kernel_rfl) (by kernel_rfl) (by kernel_rfl) (fun _ _ _ h => h) (Or.inl ⟨by rfl, ?_⟩) (by assumption) ?_
            rotate_left
            · intro w hSw; (try dsimp only at hSw); go_simp; (try (with_reducible rfl))
            try simp only [List.getElem_toArray, List.getElem_cons_succ, List.getElem_cons_zero, Act.put, List.setIfInBounds_toArray, List.set_cons_zero, List.set_cons_succ]
            refine wpAnyH_take (i := 9) (v := ?_) rfl (by kernel_rfl) (by kernel_rfl) (by kernel_rfl) (fun _ _ _ h => h) (Or.inl ⟨by rfl, ?_⟩) (by assumption) ?_
            rotate_left
            · intro w hSw; (try dsimp only at hSw); go_simp; (try (with_reducible rfl))
            try simp only [List.getElem_toArray, List.getElem_cons_succ, List.getElem_cons_zero, Act.put, List.setIfInBounds_toArray, List.set_cons_zero, List.set_cons_succ]
            refine wpAnyH_take (i := 10) (v := ?_) rfl (by kernel_rfl) (by kernel_rfl) (by kernel_rfl) (fun _ _ _ h => h) (Or.inl ⟨by rfl, ?_⟩) (by assumption) ?_
            rotate_left
            · intro w hSw; (try dsimp only at hSw); go_simp; (try (with_reducible rfl))
            try simp only [List.getElem_toArray, List.getElem_cons_succ, List.getElem_cons_zero, Act.put, List.setIfInBounds_toArray, List.set_cons_zero, List.set_cons_succ]
            refine wpAnyH_ready (rs := [11]) (by kernel_rfl) (by simp) ?_
            refine AllReadyH.cons rfl (fun K hK => ?_) AllReadyH.nil
            go_simp
            refine hK.out _ _ ?_ (fun hHeld => ?_)
            · clear hK K; first | (with_reducible assumption) | exact HS0.out | exact HSA.out _ _ hHeld
            clear hK K
            try simp only [List.getElem_toArray, List.getElem_cons_succ, List.getElem_cons_zero, Act.put, List.setIfInBounds_toArray, List.set_cons_zero, List.set_cons_succ]
            refine wpAnyH_ready (rs := [12]) (by kernel_rfl) (by simp) ?_
            refine AllReadyH.cons rfl (fun K hK => ?_) AllReadyH.nil
            go_simp
            have hHeldOld := hHeld; go_at_call 49; refine (areAtMost_any _ _ _ [y - x] _ _ (lit1 _ _ _ (by simp [go_sem])) (by omega) (by omega)).mono ?_; rintro e w' ⟨rfl, rfl⟩; rw [HT.out]
            go_wp2_with fail
            refine hK.out _ _ ?_ (fun hHeld => ?_)
            · clear hK K; first | (with_reducible assumption) | exact HS0.out | exact HSA.out _ _ hHeld
            clear hK K
            try simp only [List.getElem_toArray, List.getElem_cons_succ, List.getElem_cons_zero, Act.put, List.setIfInBounds_toArray, List.set_cons_zero, List.set_cons_succ]
            refine wpAnyH_take (i := 13) (v := ?_) rfl (by kernel_rfl) (by kernel_rfl) (by kernel_rfl) (fun _ _ _ h => h) (Or.inl ⟨by rfl, ?_⟩) (by assumption) ?_
            rotate_left
            · intro w hSw; (try dsimp only at hSw); go_simp; (try (with_reducible rfl))
            try simp only [List.getElem_toArray, List.getElem_cons_succ, List.getElem_cons_zero, Act.put, List.setIfInBounds_toArray, List.set_cons_zero, List.set_cons_succ]
            refine wpAnyH_done (by kernel_rfl) ?_ _
            have HBW := Lib.hid hHeld.2.2
            clear hHeld HS0 HSA hz1' hz2' hz3' hz4'
            have HFIN : Hid (_ ∧ _) := ⟨ownLater HI.out.1 HBW.out, HI.out.2.trans (HBW.out.mono HI.out.2.size)⟩
            rw [← HJ.out] at HFIN
            go_wp2
            go_roundw
            case rel => exact ⟨k + 1, by omega, by omega, by go_num, HFIN.out⟩
            case measure => simp [intOf]; omega
        · have hE : Hid (jmpTo xs limit k = jmpTo xs limit n) := by
            show _ = _
            rcases hk with h | rfl
            · rw [show k = n by omega]
            · rcases (by omega : n = 0 ∨ n = 1) with rfl | rfl <;> rfl
          go_wp2
          go_ret2
          have h := HI.out
          rw [hE.out] at h
          exact ⟨⟨_, rfl, h.1⟩, h.2⟩
    · have HL : Hid (jmpL xs limit = []) := by show _ = _; unfold jmpL; rw [if_neg (by rw [hje]; exact hE2)]
      rw [HL.out, hje]
      obtain ⟨E, hEe⟩ : ∃ E, limE limit = E := ⟨_, rfl⟩
      rw [hEe] at hE2 C2 ⊢
      have h1 : (E != 0) = true := by simpa using hE2
      clear hE2 hEe hje HL
      go_enter Tryd.func33, Tryd.ntmps33
      go_wp2_with fail
      refine C1.out.mono ?_
      rintro e w' ⟨rfl, rfl⟩
      go_wp2_with fail
      refine C2.out.mono ?_
      rintro e w0 ⟨rfl, hb0⟩
      have HB0 := Lib.hid hb0
      clear C1 C2 hb0
      go_wp2
      go_ret2
      exact OwnRes.none_ HB0.out
  · have hje : jmpE xs limit = posE xs := by unfold jmpE; rw [if_neg hE1]
    have HL : Hid (jmpL xs limit = []) := by show _ = _; unfold jmpL; rw [if_neg (by rw [hje]; exact hE1)]
    rw [HL.out, hje]
    obtain ⟨E, hEe⟩ : ∃ E, posE xs = E := ⟨_, rfl⟩
    rw [hEe] at hE1 C1 ⊢
    have h1 : (E != 0) = true := by simpa using hE1
    clear hE1 hEe hje HL C2
    go_enter Tryd.func33, Tryd.ntmps33
    go_wp2_with (go_at_call 53; refine C1.out.mono ?_; rintro e w' ⟨rfl, rfl⟩)
    go_ret2
    exact OwnRes.none_ (Below.refl _ _)

end Go.Proofs.YtnmfeonagigkeaaDoor
