import Derived.Test.YtdfaeoamighcgaaDoorT0
namespace Go.Proofs.YtdfaeoamighcgaaDoor
open Go.RowKit

theorem row_parts {w wr : World} {n : Nat} {rows : List (List Int)} {ad : Addr} (hb : Below w.heap.size w wr) (hadb : ad.block < w.heap.size)
    (hc : ∀ j, j < n → ∃ B m c, w.cell? (ad.add j) = some (.slice B m c) ∧ RdI w B m (rows.getD j []) ∧ m ≤ 9223372036854775806 ∧ (B = none → m = 0 ∧ c = 0)) (k : Nat) (hk : k < n) (h0 : 0 < (rows.getD k []).length) :
    ∃ b m c, m = (rows.getD k []).length ∧ wr.cell? (ad.add k) = some (.slice (some b) m c) ∧ wr.cell? b = some (.int .i64 ((rows.getD k []).getD 0 0)) ∧ wr.cell? (b.add (m - 1)) = some (.int .i64 ((rows.getD k []).getD (m - 1) 0)) := by
  obtain ⟨B, m, c, h1, h2, _, _⟩ := hc k hk
  obtain ⟨b, rfl, hbb, hcc⟩ := h2.2 (by rw [← h2.1]; exact h0)
  refine ⟨b, m, c, h2.1.symm, (hb.cell (by rw [addBlock]; exact hadb)).trans h1, ?_, ?_⟩
  · have := hcc 0 (by rw [← h2.1]; exact h0)
    rw [addZ] at this
    exact (hb.cell hbb).trans this
  · exact (hb.cell (by rw [addBlock]; exact hbb)).trans (hcc (m - 1) (by rw [← h2.1]; omega))

set_option maxRecDepth 100000 in
set_option maxHeartbeats 8000000 in
theorem BreaksBetween_any (A : Option Addr) (n c : Nat) (rows : List (List Int)) (limit : Int) (w : World) (hr : RdGN w A n rows) (hn : n ≤ 1000000) :
    Calls Tryd.prog 71 #[.slice A n c, .int .i64 limit] w (OwnRes w (brkE rows limit) (brkL rows limit)) := by
  have C2 := Lib.hid (checkLimit_any limit w)
  have HR := Lib.hid hr
  have HLN : Hid (rows.length = n) := hr.1
  clear hr
  obtain ⟨i0, hi0, hz0, hz1, hz2⟩ := info_parts intInfo'
  obtain ⟨E, hE⟩ : ∃ E, brkE rows limit = E := ⟨_, rfl⟩
  obtain ⟨L, hL⟩ : ∃ L, brkL rows limit = L := ⟨_, rfl⟩
  rw [hE, hL]
  have HE0 := Lib.hid hE
  have HL0 := Lib.hid hL
  clear hE hL
  by_cases h20 : 20 < n
  · have h1I : (20 : Int) < (n : Int) := by omega
    have ht : turnsE rows = 8 := by unfold turnsE; rw [if_pos (by rw [HLN.out]; exact h20)]
    have hEv : Hid (E = 8) := by show _ = _; rw [← HE0.out]; unfold brkE; rw [if_neg (by rw [ht]; decide)]; exact ht
    have hLv : Hid (L = []) := by show _ = _; rw [← HL0.out]; unfold brkL; rw [if_neg (by rw [HE0.out, hEv.out]; decide)]
    clear HE0 HL0 ht
    go_enter Tryd.func71, Tryd.ntmps71
    go_wp2
    go_ret2
    rw [hEv.out, hLv.out]
    exact OwnRes.none_ (Below.refl _ _)
  · have h1I : ¬ (20 : Int) < (n : Int) := by omega
    have HTE : Hid (turnsE rows = turnsE1 rows) := by show _ = _; unfold turnsE; rw [if_neg (by rw [HLN.out]; exact h20)]
    clear h20
    go_enter Tryd.func71, Tryd.ntmps71
    go_wp2
    go_loop [18] (fun i => ∃ k : Nat, k ≤ n ∧ i = .int .i64 k ∧ Hid (turnsE1 rows = turnsE1 (rows.drop k))) (fun i => n - (intOf i).toNat)
    case atStart => exact ⟨0, Nat.zero_le _, rfl, rfl⟩
    case round =>
      obtain ⟨k, hk, rfl, HE⟩ := hrel
      by_cases hlt : k < n
      · obtain ⟨ad, ha, _, hc⟩ := HR.out.2 (by omega)
        obtain ⟨B, m, c', hck, hrow, hm, _⟩ := hc k hlt
        clear hc
        subst ha
        have hs := turnsE1_step rows k (by have := HR.out.1; omega)
        have C := Lib.hid (checkTurn_any B m c' _ w hrow hm)
        clear hrow
        obtain ⟨t, ht⟩ : ∃ t, turnErr (rows.getD k []) = t := ⟨_, rfl⟩
        rw [ht] at C hs
        have HS := Lib.hid hs; clear hs ht
        have hkI : (k : Int) < (n : Int) := by omega
        by_cases h0 : t = 0
        · subst h0
          go_wp2_with (go_at_call 105; refine C.out.mono ?_; rintro e w' ⟨rfl, rfl⟩)
          go_round
          case rel => exact ⟨k + 1, by omega, by go_num, by show _ = _; rw [HE.out, HS.out]; simp⟩
          case measure => simp [intOf]; omega
        · have htb : (t != 0) = true := by rw [bne_iff_ne]; exact h0
          have ht2 : turnsE rows = t := by rw [HTE.out, HE.out, HS.out]; simp [h0]
          have hEv : Hid (E = t) := by show _ = _; rw [← HE0.out]; unfold brkE; rw [if_neg (by rw [ht2]; exact h0)]; exact ht2
          have hLv : Hid (L = []) := by show _ = _; rw [← HL0.out]; unfold brkL; rw [if_neg (by rw [HE0.out, hEv.out]; exact h0)]
          clear HE0 HL0 ht2 HS HE
          go_wp2_with (go_at_call 105; refine C.out.mono ?_; rintro e w' ⟨rfl, rfl⟩)
          go_ret2
          rw [hEv.out, hLv.out]
          exact OwnRes.none_ (Below.refl _ _)
      · obtain rfl : n = k := by omega
        have ht0 : turnsE rows = 0 := by rw [HTE.out, HE.out, List.drop_eq_nil_of_le (by have := HR.out.1; omega)]; rfl
        have HOK := Lib.hid (turnsE_ok ht0)
        have hEv : Hid (E = limE limit) := by show _ = _; rw [← HE0.out]; unfold brkE; rw [if_pos ht0]
        clear ht0 HE HTE hlt hk
        by_cases hE2 : limE limit = 0
        · rw [hE2] at C2 hEv
          have hlb : 0 ≤ limit ∧ limit ≤ 2000000 := by
            unfold limE at hE2
            by_cases h : fromB 0 2000000 [limit] = true
            · exact fromB_one.1 h
            · rw [if_neg h] at hE2; omega
          have hLv : Hid (L = brkTo rows limit n) := by show _ = _; rw [← HL0.out]; unfold brkL; rw [if_pos (HE0.out.trans hEv.out), HLN.out]
          clear hE2 HE0 HL0
          go_wp2_with fail
          refine C2.out.mono ?_
          rintro e w0 ⟨rfl, hb0⟩
          have HB0 := Lib.hid hb0
          clear C2 hb0
          go_wp2
          go_loopw [10, 11] (fun p i wr => ∃ k : Nat, 1 ≤ k ∧ (k ≤ n ∨ k = 1) ∧ i = .int .i64 k ∧ Hid (wr.ownsRow w.heap.size 3 1 p (brkTo rows limit k).length ((brkTo rows limit k).map (Value.int .i64)) ∧ Below w.heap.size w wr)) (fun _ i _ => n + 1 - (intOf i).toNat)
          case atStart => exact ⟨1, Nat.le_refl _, .inr rfl, rfl, World.ownsRow_nil _ _ _ _, HB0.out⟩
          case round =>
            obtain ⟨k, hk1, hk, rfl, HI⟩ := hrel
            by_cases hlt : k < n
            · have hkI : (k : Int) < (n : Int) := by omega
              obtain ⟨q, hq⟩ : ∃ q, k = q + 1 := ⟨k - 1, by omega⟩
              obtain ⟨ad, ha, hadb, hc⟩ := HR.out.2 (by omega)
              have hOk := HOK.out.2 k (by rw [HLN.out]; exact hlt)
              have hOq := HOK.out.2 q (by rw [HLN.out]; omega)
              obtain ⟨bk, mk, ck, hmk, hk1', hk2', _⟩ := row_parts HI.out.2 hadb hc k hlt hOk.2.1
              obtain ⟨bq, mq, cq, hmq, hq1', _, hq2'⟩ := row_parts HI.out.2 hadb hc q (by omega) hOq.2.1
              clear hc
              subst ha
              have hy := hOk.1.at_ 0
              obtain ⟨lq, hlq⟩ : ∃ lq, mq - 1 = lq := ⟨_, rfl⟩
              rw [hlq] at hq2'
              have hx := hOq.1.at_ lq
              have hjs := brkTo_step rows limit q
              rw [← hq] at hjs
              have hjb : brkB rows limit k = !fromB (-limit) limit [(rows.getD k []).getD 0 0 - (rows.getD q []).getD lq 0] := by unfold brkB brkD; rw [show k - 1 = q by omega, ← hmq, hlq]
              have hjl := brkTo_length rows limit k
              obtain ⟨x, hxe⟩ : ∃ x, (rows.getD q []).getD lq 0 = x := ⟨_, rfl⟩
              obtain ⟨y, hye⟩ : ∃ y, (rows.getD k []).getD 0 0 = y := ⟨_, rfl⟩
              rw [hxe] at hq2' hx hjb
              rw [hye] at hk2' hy hjb
              have hmk0 : 0 < mk := by have := hOk.2.1; omega
              have hmqb : 0 < mq ∧ mq ≤ 200 := by have := hOq.2; omega
              have HS0 : Hid ((fun w' : World => w'.cell? (ad.add k) = some (.slice (some bk) mk ck) ∧ w'.cell? bk = some (.int .i64 y) ∧ w'.cell? (ad.add q) = some (.slice (some bq) mq cq) ∧ w'.cell? (bq.add lq) = some (.int .i64 x) ∧ Below wr.heap.size wr w') wr.drew) := ⟨hk1', hk2', hq1', hq2', (Below.refl _ _).drew⟩
              have HSA : Hid (∀ (W : World) (o : Obj), (fun w' : World => w'.cell? (ad.add k) = some (.slice (some bk) mk ck) ∧ w'.cell? bk = some (.int .i64 y) ∧ w'.cell? (ad.add q) = some (.slice (some bq) mq cq) ∧ w'.cell? (bq.add lq) = some (.int .i64 x) ∧ Below wr.heap.size wr w') W → (fun w' : World => w'.cell? (ad.add k) = some (.slice (some bk) mk ck) ∧ w'.cell? bk = some (.int .i64 y) ∧ w'.cell? (ad.add q) = some (.slice (some bq) mq cq) ∧ w'.cell? (bq.add lq) = some (.int .i64 x) ∧ Below wr.heap.size wr w') (W.alloc o)) := fun W o h => ⟨cellA o h.1, cellA o h.2.1, cellA o h.2.2.1, cellA o h.2.2.2.1, h.2.2.2.2.alloc h.2.2.2.2.size o⟩
              have hz1' : IntKind.i64.wrap ((k : Int) - 1) = (q : Int) := by rw [show (k : Int) - 1 = (q : Int) by omega]; exact IntWalk.i64_in _ (by omega)
              have hz2' : (0 : Int) ≤ (q : Int) := by omega
              have hz3' : (q : Int) < (n : Int) := by omega
              have hz4' : IntKind.i64.wrap (y - x) = y - x := IntWalk.i64_in _ (by omega)
              have hz5' : (0 : Int) ≤ (k : Int) := by omega
              have hz6' : IntKind.i64.wrap ((mq : Int) - 1) = (lq : Int) := by rw [show (mq : Int) - 1 = (lq : Int) by omega]; exact IntWalk.i64_in _ (by omega)
              have hz7' : (0 : Int) ≤ (lq : Int) := by omega
              have hz8' : (lq : Int) < (mq : Int) := by omega
              have HJB := Lib.hid hjb
              have HJS := Lib.hid hjs
              have HQ := Lib.hid hq
              clear hxe hye hk1' hk2' hq2' hjb hjs hq hmk hmq hlq hOk hOq hmqb
              cases hjt : brkB rows limit k with
              | true =>
                have HJ : Hid (brkTo rows limit (k + 1) = brkTo rows limit k ++ [(k : Int)]) := by
                  show _ = _
                  rw [HJS.out, if_pos hjt]
                have HTV : Hid (fromB (-limit) limit [y - x] = false) := by show _ = _; have h := HJB.out; rw [hjt] at h; cases hh : fromB (-limit) limit [y - x] with | false => rfl | true => rw [hh] at h; cases h
                have HT : Hid (fromB (-limit) limit [y - x] = false) := HTV.out
                clear hjt HJS
                go_wp2_with fail
                refine wp_region_held_drew (S := (fun w' : World => w'.cell? (ad.add k) = some (.slice (some bk) mk ck) ∧ w'.cell? bk = some (.int .i64 y) ∧ w'.cell? (ad.add q) = some (.slice (some bq) mq cq) ∧ w'.cell? (bq.add lq) = some (.int .i64 x) ∧ Below wr.heap.size wr w')) (by kernel_rfl) ?_ ?_
                · first | (with_reducible assumption) | exact HS0.out | exact HSA.out _ _ hHeld
                intro hHeld
                refine wpAnyH_take (i := 0) (v := ?_) rfl (by kernel_rfl) (by kernel_rfl) (by kernel_rfl) (fun _ _ _ h => h) (Or.inl ⟨by rfl, ?_⟩) (by assumption) ?_
                rotate_left
                · intro w hSw; (try dsimp only at hSw); go_simp; (try (with_reducible rfl))
                try simp only [List.getElem_toArray, List.getElem_cons_succ, List.getElem_cons_zero, Act.put, List.setIfInBounds_toArray, List.set_cons_zero, List.set_cons_succ]
                refine wpAnyH_take (i := 1) (v := ?_) rfl (by kernel_rfl) (by kernel_rfl) (by kernel_rfl) (fun _ _ _ h => h) (Or.inl ⟨by rfl, ?_⟩) (by assumption) ?_
                rotate_left
                · intro w hSw; (try dsimp only at hSw); go_simp; (try (with_reducible rfl))
                try simp only [List.getElem_toArray, List.getElem_cons_succ, List.getElem_cons_zero, Act.put, List.setIfInBounds_toArray, List.set_cons_zero, List.set_cons_succ]
                refine wpAnyH_take (i := 2) (v := ?_) rfl (by kernel_rfl) (by kernel_rfl) (by kernel_rfl) (fun _ _ _ h => h) (Or.inl ⟨by rfl, ?_⟩) (by assumption) ?_
                rotate_left
                · intro w hSw; (try dsimp only at hSw); go_simp; (try (with_reducible rfl))
                try simp only [List.getElem_toArray, List.getElem_cons_succ, List.getElem_cons_zero, Act.put, List.setIfInBounds_toArray, List.set_cons_zero, List.set_cons_succ]
                refine wpAnyH_take (i := 3) (v := ?_) rfl (by kernel_rfl) (by kernel_rfl) (by kernel_rfl) (fun _ _ _ h => h) (Or.inl ⟨by rfl, ?_⟩) (by assumption) ?_
                rotate_left
                · intro w hSw; (try dsimp only at hSw); go_simp; (try (with_reducible rfl))
                try simp only [List.getElem_toArray, List.getElem_cons_succ, List.getElem_cons_zero, Act.put, List.setIfInBounds_toArray, List.set_cons_zero, List.set_cons_succ]
                refine wpAnyH_take (i := 4) (v := ?_) rfl (by kernel_rfl) (by kernel_rfl) (by kernel_rfl) (fun _ _ _ h => h) (Or.inl ⟨by rfl, ?_⟩) (by assumption) ?_
                rotate_left
                · intro w hSw; (try dsimp only at hSw); go_simp; (try (with_reducible rfl))
                try simp only [List.getElem_toArray, List.getElem_cons_succ, List.getElem_cons_zero, Act.put, List.setIfInBounds_toArray, List.set_cons_zero, List.set_cons_succ]
                refine wpAnyH_take (i := 5) (v := ?_) rfl (by kernel_rfl) (by kernel_rfl) (by kernel_rfl) (fun _ _ _ h => h) (Or.inl ⟨by rfl, ?_⟩) (by assumption) ?_
                rotate_left
                · intro w hSw; (try dsimp only at hSw); go_simp; (try (with_reducible rfl))
                try simp only [List.getElem_toArray, List.getElem_cons_succ, List.getElem_cons_zero, Act.put, List.setIfInBounds_toArray, List.set_cons_zero, List.set_cons_succ]
                refine wpAnyH_take (i := 6) (v := ?_) rfl (by kernel_rfl) (by kernel_rfl) (by kernel_rfl) (fun _ _ _ h => h) (Or.inl ⟨by rfl, ?_⟩) (by assumption) ?_
                rotate_left
                · intro w hSw; (try dsimp only at hSw); go_simp; (try (with_reducible rfl))
                try simp only [List.getElem_toArray, List.getElem_cons_succ, List.getElem_cons_zero, Act.put, List.setIfInBounds_toArray, List.set_cons_zero, List.set_cons_succ]
                refine wpAnyH_take (i := 7) (v := ?_) rfl (by kernel_rfl) (by kernel_rfl) (by kernel_rfl) (fun _ _ _ h => h) (Or.inl ⟨by rfl, ?_⟩) (by assumption) ?_
                rotate_left
                · intro w hSw; (try dsimp only at hSw); go_simp; (try (with_reducible rfl))
                try simp only [List.getElem_toArray, List.getElem_cons_succ, List.getElem_cons_zero, Act.put, List.setIfInBounds_toArray, List.set_cons_zero, List.set_cons_succ]
                refine wpAnyH_take (i := 8) (v := ?_) rfl (by kernel_rfl) (by kernel_rfl) (by kernel_rfl) (fun _ _ _ h => h) (Or.inl ⟨by rfl, ?_⟩) (by assumption) ?_
                rotate_left
                · intro w hSw; (try dsimp only at hSw); go_simp; (try (with_reducible rfl))
                try simp only [List.getElem_toArray, List.getElem_cons_succ, List.getElem_cons_zero, Act.put, List.setIfInBounds_toArray, List.set_cons_zero, List.set_cons_succ]
                refine wpAnyH_take (i := 9) (v := ?_) rfl (by kernel_rfl) (by kernel_rfl) (by kernel_rfl) (fun _ _ _ h => h) (Or.inl ⟨by rfl, ?_⟩) (by assumption) ?_
                rotate_left
                · intro w hSw; (try dsimp only at hSw); go_simp; (try (with_reducible rfl))
                try simp only [List.getElem_toArray, List.getElem_cons_succ, List.getElem_cons_zero, Act.put, List.setIfInBounds_toArray, List.set_cons_zero, List.set_cons_succ]
                refine wpAnyH_take (i := 10) (v := ?_) rfl (by kernel_rfl) (by kernel_rfl) (by kernel_rfl) (fun _ _ _ h => h) (Or.inl ⟨by rfl, ?_⟩) (by assumption) ?_
                rotate_left
                · intro w hSw; (try dsimp only at hSw); go_simp; (try (with_reducible rfl))
                try simp only [List.getElem_toArray, List.getElem_cons_succ, List.getElem_cons_zero, Act.put, List.setIfInBounds_toArray, List.set_cons_zero, List.set_cons_succ]
                refine wpAnyH_take (i := 11) (v := ?_) rfl (by kernel_rfl) (by kernel_rfl) (by kernel_rfl) (fun _ _ _ h => h) (Or.inl ⟨by rfl, ?_⟩) (by assumption) ?_
                rotate_left
                · intro w hSw; (try dsimp only at hSw); go_simp; (try (with_reducible rfl))
                try simp only [List.getElem_toArray, List.getElem_cons_succ, List.getElem_cons_zero, Act.put, List.setIfInBounds_toArray, List.set_cons_zero, List.set_cons_succ]
                refine wpAnyH_take (i := 12) (v := ?_) rfl (by kernel_rfl) (by kernel_rfl) (by kernel_rfl) (fun _ _ _ h => h) (Or.inl ⟨by rfl, ?_⟩) (by assumption) ?_
                rotate_left
                · intro w hSw; (try dsimp only at hSw); go_simp; (try (with_reducible rfl))
                try simp only [List.getElem_toArray, List.getElem_cons_succ, List.getElem_cons_zero, Act.put, List.setIfInBounds_toArray, List.set_cons_zero, List.set_cons_succ]
                refine wpAnyH_take (i := 13) (v := ?_) rfl (by kernel_rfl) (by kernel_rfl) (by kernel_rfl) (fun _ _ _ h => h) (Or.inl ⟨by rfl, ?_⟩) (by assumption) ?_
                rotate_left
                · intro w hSw; (try dsimp only at hSw); go_simp; (try (with_reducible rfl))
                try simp only [List.getElem_toArray, List.getElem_cons_succ, List.getElem_cons_zero, Act.put, List.setIfInBounds_toArray, List.set_cons_zero, List.set_cons_succ]
                refine wpAnyH_ready (rs := [14]) (by kernel_rfl) (by simp) ?_
                refine AllReadyH.cons rfl (fun K hK => ?_) AllReadyH.nil
                go_simp
                refine hK.out _ _ ?_ (fun hHeld => ?_)
                · clear hK K; first | (with_reducible assumption) | exact HS0.out | exact HSA.out _ _ hHeld
                clear hK K
                try simp only [List.getElem_toArray, List.getElem_cons_succ, List.getElem_cons_zero, Act.put, List.setIfInBounds_toArray, List.set_cons_zero, List.set_cons_succ]
                refine wpAnyH_ready (rs := [15]) (by kernel_rfl) (by simp) ?_
                refine AllReadyH.cons rfl (fun K hK => ?_) AllReadyH.nil
                go_simp
                have hHeldOld := hHeld; go_at_call 99; refine (areAtMost_any _ _ _ [y - x] _ _ (lit1 _ _ _ (by simp [go_sem])) (by omega) (by omega)).mono ?_; rintro e w' ⟨rfl, rfl⟩; rw [HT.out]
                go_wp2_with fail
                refine hK.out _ _ ?_ (fun hHeld => ?_)
                · clear hK K; first | (with_reducible assumption) | exact HS0.out | exact HSA.out _ _ hHeld
                clear hK K
                try simp only [List.getElem_toArray, List.getElem_cons_succ, List.getElem_cons_zero, Act.put, List.setIfInBounds_toArray, List.set_cons_zero, List.set_cons_succ]
                refine wpAnyH_take (i := 16) (v := ?_) rfl (by kernel_rfl) (by kernel_rfl) (by kernel_rfl) (fun _ _ _ h => h) (Or.inl ⟨by rfl, ?_⟩) (by assumption) ?_
                rotate_left
                · intro w hSw; (try dsimp only at hSw); go_simp; (try (with_reducible rfl))
                try simp only [List.getElem_toArray, List.getElem_cons_succ, List.getElem_cons_zero, Act.put, List.setIfInBounds_toArray, List.set_cons_zero, List.set_cons_succ]
                refine wpAnyH_done (by kernel_rfl) ?_ _
                have HBW := Lib.hid hHeld.2.2.2.2
                clear hHeld HS0 HSA hz1' hz2' hz3' hz4' hz6' hz7' hz8' hmk0
                have HO2 := Lib.hid (ownLater HI.out.1 HBW.out)
                have HB2 := Lib.hid (HI.out.2.trans (HBW.out.mono HI.out.2.size))
                obtain ⟨W2, hW2⟩ : ∃ W2, (wr.alloc (.cells #[.int .i64 (y - x)] 3)).drew = W2 := ⟨_, rfl⟩
                rw [hW2] at HO2 HB2 ⊢
                clear hW2 HBW
                have hzW : w.heap.size ≤ W2.heap.size := HB2.out.size
                go_wp2_with (at_builtin; refine wpList_append_own _ rfl (.tmp 61) (.tmp 63) 38 rfl w.heap.size 3 i0 _ 1 8 Tryd.underlying38 hi0 hz0 hz1 hz2 rfl (by decide) _ _ _ rfl (HO2.out.alloc _) ⟨W2.heap.size, 0, none⟩ 1 1 [.int .i64 k] rfl rfl (cell_one_new _ _ _) (by simp [Value.oneCell']) (by unfold maxLen; omega) (by omega) (by simp; omega) ?_)
                intro v' w4 hown' hgrow _
                have HFIN : Hid (w4.ownsRow w.heap.size 3 1 v' (brkTo rows limit (k + 1)).length ((brkTo rows limit (k + 1)).map (Value.int .i64)) ∧ Below w.heap.size w w4) := by
                  refine ⟨by rw [HJ.out, List.map_append, List.length_append]; exact hown', (HB2.out.alloc HB2.out.size _).grown hgrow (by simp; omega) (fun z e => (HO2.out.lt z e).1)⟩
                clear hown' hgrow
                go_wp2
                go_roundw
                case rel => exact ⟨k + 1, by omega, by omega, by go_num, HFIN.out⟩
                case measure => simp [intOf]; omega
              | false =>
                have HJ : Hid (brkTo rows limit (k + 1) = brkTo rows limit k) := by
                  show _ = _
                  rw [HJS.out, if_neg (by rw [hjt]; decide)]
                have HTV : Hid (fromB (-limit) limit [y - x] = true) := by show _ = _; have h := HJB.out; rw [hjt] at h; cases hh : fromB (-limit) limit [y - x] with | true => rfl | false => rw [hh] at h; cases h
                have HT : Hid (fromB (-limit) limit [y - x] = true) := HTV.out
                clear hjt HJS
                go_wp2_with fail
                refine wp_region_held_drew (S := (fun w' : World => w'.cell? (ad.add k) = some (.slice (some bk) mk ck) ∧ w'.cell? bk = some (.int .i64 y) ∧ w'.cell? (ad.add q) = some (.slice (some bq) mq cq) ∧ w'.cell? (bq.add lq) = some (.int .i64 x) ∧ Below wr.heap.size wr w')) (by kernel_rfl) ?_ ?_
                · first | (with_reducible assumption) | exact HS0.out | exact HSA.out _ _ hHeld
                intro hHeld
                refine wpAnyH_take (i := 0) (v := ?_) rfl (by kernel_rfl) (by kernel_rfl) (by kernel_rfl) (fun _ _ _ h => h) (Or.inl ⟨by rfl, ?_⟩) (by assumption) ?_
                rotate_left
                · intro w hSw; (try dsimp only at hSw); go_simp; (try (with_reducible rfl))
                try simp only [List.getElem_toArray, List.getElem_cons_succ, List.getElem_cons_zero, Act.put, List.setIfInBounds_toArray, List.set_cons_zero, List.set_cons_succ]
                refine wpAnyH_take (i := 1) (v := ?_) rfl (by kernel_rfl) (by kernel_rfl) (by kernel_rfl) (fun _ _ _ h => h) (Or.inl ⟨by rfl, ?_⟩) (by assumption) ?_
                rotate_left
                · intro w hSw; (try dsimp only at hSw); go_simp; (try (with_reducible rfl))
                try simp only [List.getElem_toArray, List.getElem_cons_succ, List.getElem_cons_zero, Act.put, List.setIfInBounds_toArray, List.set_cons_zero, List.set_cons_succ]
                refine wpAnyH_take (i := 2) (v := ?_) rfl (by kernel_rfl) (by kernel_rfl) (by kernel_rfl) (fun _ _ _ h => h) (Or.inl ⟨by rfl, ?_⟩) (by assumption) ?_
                rotate_left
                · intro w hSw; (try dsimp only at hSw); go_simp; (try (with_reducible rfl))
                try simp only [List.getElem_toArray, List.getElem_cons_succ, List.getElem_cons_zero, Act.put, List.setIfInBounds_toArray, List.set_cons_zero, List.set_cons_succ]
                refine wpAnyH_take (i := 3) (v := ?_) rfl (by kernel_rfl) (by kernel_rfl) (by kernel_rfl) (fun _ _ _ h => h) (Or.inl ⟨by rfl, ?_⟩) (by assumption) ?_
                rotate_left
                · intro w hSw; (try dsimp only at hSw); go_simp; (try (with_reducible rfl))
                try simp only [List.getElem_toArray, List.getElem_cons_succ, List.getElem_cons_zero, Act.put, List.setIfInBounds_toArray, List.set_cons_zero, List.set_cons_succ]
                refine wpAnyH_take (i := 4) (v := ?_) rfl (by kernel_rfl) (by kernel_rfl) (by kernel_rfl) (fun _ _ _ h => h) (Or.inl ⟨by rfl, ?_⟩) (by assumption) ?_
                rotate_left
                · intro w hSw; (try dsimp only at hSw); go_simp; (try (with_reducible rfl))
                try simp only [List.getElem_toArray, List.getElem_cons_succ, List.getElem_cons_zero, Act.put, List.setIfInBounds_toArray, List.set_cons_zero, List.set_cons_succ]
                refine wpAnyH_take (i := 5) (v := ?_) rfl (by kernel_rfl) (by kernel_rfl) (by kernel_rfl) (fun _ _ _ h => h) (Or.inl ⟨by rfl, ?_⟩) (by assumption) ?_
                rotate_left
                · intro w hSw; (try dsimp only at hSw); go_simp; (try (with_reducible rfl))
                try simp only [List.getElem_toArray, List.getElem_cons_succ, List.getElem_cons_zero, Act.put, List.setIfInBounds_toArray, List.set_cons_zero, List.set_cons_succ]
                refine wpAnyH_take (i := 6) (v := ?_) rfl (by kernel_rfl) (by kernel_rfl) (by kernel_rfl) (fun _ _ _ h => h) (Or.inl ⟨by rfl, ?_⟩) (by assumption) ?_
                rotate_left
                · intro w hSw; (try dsimp only at hSw); go_simp; (try (with_reducible rfl))
                try simp only [List.getElem_toArray, List.getElem_cons_succ, List.getElem_cons_zero, Act.put, List.setIfInBounds_toArray, List.set_cons_zero, List.set_cons_succ]
                refine wpAnyH_take (i := 7) (v := ?_) rfl (by kernel_rfl) (by kernel_rfl) (by kernel_rfl) (fun _ _ _ h => h) (Or.inl ⟨by rfl, ?_⟩) (by assumption) ?_
                rotate_left
                · intro w hSw; (try dsimp only at hSw); go_simp; (try (with_reducible rfl))
                try simp only [List.getElem_toArray, List.getElem_cons_succ, List.getElem_cons_zero, Act.put, List.setIfInBounds_toArray, List.set_cons_zero, List.set_cons_succ]
                refine wpAnyH_take (i := 8) (v := ?_) rfl (by kernel_rfl) (by kernel_rfl) (by kernel_rfl) (fun _ _ _ h => h) (Or.inl ⟨by rfl, ?_⟩) (by assumption) ?_
                rotate_left
                · intro w hSw; (try dsimp only at hSw); go_simp; (try (with_reducible rfl))
                try simp only [List.getElem_toArray, List.getElem_cons_succ, List.getElem_cons_zero, Act.put, List.setIfInBounds_toArray, List.set_cons_zero, List.set_cons_succ]
                refine wpAnyH_take (i := 9) (v := ?_) rfl (by kernel_rfl) (by kernel_rfl) (by kernel_rfl) (fun _ _ _ h => h) (Or.inl ⟨by rfl, ?_⟩) (by assumption) ?_
                rotate_left
                · intro w hSw; (try dsimp only at hSw); go_simp; (try (with_reducible rfl))
                try simp only [List.getElem_toArray, List.getElem_cons_succ, List.getElem_cons_zero, Act.put, List.setIfInBounds_toArray, List.set_cons_zero, List.set_cons_succ]
                refine wpAnyH_take (i := 10) (v := ?_) rfl (by kernel_rfl) (by kernel_rfl) (by kernel_rfl) (fun _ _ _ h => h) (Or.inl ⟨by rfl, ?_⟩) (by assumption) ?_
                rotate_left
                · intro w hSw; (try dsimp only at hSw); go_simp; (try (with_reducible rfl))
                try simp only [List.getElem_toArray, List.getElem_cons_succ, List.getElem_cons_zero, Act.put, List.setIfInBounds_toArray, List.set_cons_zero, List.set_cons_succ]
                refine wpAnyH_take (i := 11) (v := ?_) rfl (by kernel_rfl) (by kernel_rfl) (by kernel_rfl) (fun _ _ _ h => h) (Or.inl ⟨by rfl, ?_⟩) (by assumption) ?_
                rotate_left
                · intro w hSw; (try dsimp only at hSw); go_simp; (try (with_reducible rfl))
                try simp only [List.getElem_toArray, List.getElem_cons_succ, List.getElem_cons_zero, Act.put, List.setIfInBounds_toArray, List.set_cons_zero, List.set_cons_succ]
                refine wpAnyH_take (i := 12) (v := ?_) rfl (by kernel_rfl) (by kernel_rfl) (by kernel_rfl) (fun _ _ _ h => h) (Or.inl ⟨by rfl, ?_⟩) (by assumption) ?_
                rotate_left
                · intro w hSw; (try dsimp only at hSw); go_simp; (try (with_reducible rfl))
                try simp only [List.getElem_toArray, List.getElem_cons_succ, List.getElem_cons_zero, Act.put, List.setIfInBounds_toArray, List.set_cons_zero, List.set_cons_succ]
                refine wpAnyH_take (i := 13) (v := ?_) rfl (by kernel_rfl) (by kernel_rfl) (by kernel_rfl) (fun _ _ _ h => h) (Or.inl ⟨by rfl, ?_⟩) (by assumption) ?_
                rotate_left
                · intro w hSw; (try dsimp only at hSw); go_simp; (try (with_reducible rfl))
                try simp only [List.getElem_toArray, List.getElem_cons_succ, List.getElem_cons_zero, Act.put, List.setIfInBounds_toArray, List.set_cons_zero, List.set_cons_succ]
                refine wpAnyH_ready (rs := [14]) (by kernel_rfl) (by simp) ?_
                refine AllReadyH.cons rfl (fun K hK => ?_) AllReadyH.nil
                go_simp
                refine hK.out _ _ ?_ (fun hHeld => ?_)
                · clear hK K; first | (with_reducible assumption) | exact HS0.out | exact HSA.out _ _ hHeld
                clear hK K
                try simp only [List.getElem_toArray, List.getElem_cons_succ, List.getElem_cons_zero, Act.put, List.setIfInBounds_toArray, List.set_cons_zero, List.set_cons_succ]
                refine wpAnyH_ready (rs := [15]) (by kernel_rfl) (by simp) ?_
                refine AllReadyH.cons rfl (fun K hK => ?_) AllReadyH.nil
                go_simp
                have hHeldOld := hHeld; go_at_call 99; refine (areAtMost_any _ _ _ [y - x] _ _ (lit1 _ _ _ (by simp [go_sem])) (by omega) (by omega)).mono ?_; rintro e w' ⟨rfl, rfl⟩; rw [HT.out]
                go_wp2_with fail
                refine hK.out _ _ ?_ (fun hHeld => ?_)
                · clear hK K; first | (with_reducible assumption) | exact HS0.out | exact HSA.out _ _ hHeld
                clear hK K
                try simp only [List.getElem_toArray, List.getElem_cons_succ, List.getElem_cons_zero, Act.put, List.setIfInBounds_toArray, List.set_cons_zero, List.set_cons_succ]
                refine wpAnyH_take (i := 16) (v := ?_) rfl (by kernel_rfl) (by kernel_rfl) (by kernel_rfl) (fun _ _ _ h => h) (Or.inl ⟨by rfl, ?_⟩) (by assumption) ?_
                rotate_left
                · intro w hSw; (try dsimp only at hSw); go_simp; (try (with_reducible rfl))
                try simp only [List.getElem_toArray, List.getElem_cons_succ, List.getElem_cons_zero, Act.put, List.setIfInBounds_toArray, List.set_cons_zero, List.set_cons_succ]
                refine wpAnyH_done (by kernel_rfl) ?_ _
                have HBW := Lib.hid hHeld.2.2.2.2
                clear hHeld HS0 HSA hz1' hz2' hz3' hz4' hz6' hz7' hz8' hmk0
                have HFIN : Hid (_ ∧ _) := ⟨ownLater HI.out.1 HBW.out, HI.out.2.trans (HBW.out.mono HI.out.2.size)⟩
                rw [← HJ.out] at HFIN
                go_wp2
                go_roundw
                case rel => exact ⟨k + 1, by omega, by omega, by go_num, HFIN.out⟩
                case measure => simp [intOf]; omega
            · have hE : Hid (brkTo rows limit k = brkTo rows limit n) := by
                show _ = _
                rcases hk with h | rfl
                · rw [show k = n by omega]
                · rcases (by omega : n = 0 ∨ n = 1) with rfl | rfl <;> rfl
              go_wp2
              go_ret2
              have h := HI.out
              rw [hE.out] at h
              rw [hEv.out, hLv.out]
              exact ⟨⟨_, rfl, h.1⟩, h.2⟩
        · obtain ⟨F, hF⟩ : ∃ F, limE limit = F := ⟨_, rfl⟩
          rw [hF] at hE2 C2 hEv
          have hLv : Hid (L = []) := by show _ = _; rw [← HL0.out]; unfold brkL; rw [if_neg (by rw [HE0.out, hEv.out]; exact hE2)]
          have h1 : (F != 0) = true := by simpa using hE2
          clear hE2 hF HE0 HL0
          go_wp2_with fail
          refine C2.out.mono ?_
          rintro e w0 ⟨rfl, hb0⟩
          have HB0 := Lib.hid hb0
          clear C2 hb0
          go_wp2
          go_ret2
          rw [hEv.out, hLv.out]
          exact OwnRes.none_ HB0.out

end Go.Proofs.YtdfaeoamighcgaaDoor
