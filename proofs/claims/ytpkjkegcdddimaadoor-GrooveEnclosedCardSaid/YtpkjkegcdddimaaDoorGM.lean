import Derived.Test.YtpkjkegcdddimaaDoorGI
import Derived.Test.YtpkjkegcdddimaaDoorJ1
namespace Go.Proofs.YtpkjkegcdddimaaDoor
open Go.RowKit

theorem cell_two_new (w : World) (x y : Value) (t : TypeId) : ∀ j u, [x, y][j]? = some u → (w.alloc (.cells #[x, y] t)).cell? ((⟨w.heap.size, 0, none⟩ : Addr).add j) = some u := by
  intro j u hj
  match j, hj with
  | 0, hj => simp at hj; subst hj; simp [go_sem]
  | 1, hj => simp at hj; subst hj; simp [go_sem]
def flatP : List (Int × Int) → List Int
  | [] => []
  | p :: l => p.1 :: p.2 :: flatP l
theorem flatP_append (a b : List (Int × Int)) : flatP (a ++ b) = flatP a ++ flatP b := by
  induction a with
  | nil => rfl
  | cons p t ih => show p.1 :: p.2 :: flatP (t ++ b) = _; rw [ih]; rfl
theorem flatP_length (l : List (Int × Int)) : (flatP l).length = 2 * l.length := by
  induction l with
  | nil => rfl
  | cons p t ih => show (flatP t).length + 1 + 1 = 2 * (t.length + 1); omega
theorem take_snocP (ps : List (Int × Int)) (k : Nat) (h : k < ps.length) : ps.take (k + 1) = ps.take k ++ [ps.getD k (0, 0)] := by
  rw [List.take_add_one, List.getD_eq_getElem?_getD, List.getElem?_eq_getElem h]; rfl
def endL (ps : List (Int × Int)) (xl xh yl yh : Int) (k : Nat) : List Int := [xl, xh, yl, yh] ++ flatP (ps.take k)
theorem endL_length (ps : List (Int × Int)) (xl xh yl yh : Int) (k : Nat) (h : k ≤ ps.length) : (endL ps xl xh yl yh k).length = 4 + 2 * k := by
  unfold endL
  rw [List.length_append, flatP_length, List.length_take, Nat.min_eq_left h]; rfl
theorem endL_succ (ps : List (Int × Int)) (xl xh yl yh : Int) (k : Nat) (h : k < ps.length) : endL ps xl xh yl yh (k + 1) = endL ps xl xh yl yh k ++ [(ps.getD k (0, 0)).1, (ps.getD k (0, 0)).2] := by
  unfold endL
  rw [take_snocP ps k h, flatP_append, List.append_assoc]; rfl
theorem fromB_app (lo hi : Int) (a b : List Int) : fromB lo hi (a ++ b) = (fromB lo hi a && fromB lo hi b) := by unfold fromB; rw [List.all_append]
theorem flat_take (ps : List (Int × Int)) : ∀ k, k ≤ ps.length → fromB (-1000) 1000 (flatP (ps.take k)) = decide (fstF (fun i => !ptB ps i) k = -1)
  | 0, _ => by simp [flatP, fstF, fromB]
  | k + 1, h => by
    rw [take_snocP ps k (by omega), flatP_append, fromB_app, flat_take ps k (by omega)]
    have e : fromB (-1000) 1000 (flatP [ps.getD k (0, 0)]) = ptB ps k := rfl
    rw [e]
    have e2 : fstF (fun i => !ptB ps i) (k + 1) = if fstF (fun i => !ptB ps i) k = -1 then (if (!ptB ps k) = true then (k : Int) else -1) else fstF (fun i => !ptB ps i) k := rfl
    rw [e2]
    by_cases h1 : fstF (fun i => !ptB ps i) k = -1
    · rw [if_pos h1, decide_eq_true h1]
      cases ptB ps k with
      | true => simp
      | false => simp
    · rw [if_neg h1, decide_eq_false h1]; rfl
theorem ends_flat (ps : List (Int × Int)) (xl xh yl yh : Int) : endsB ps xl xh yl yh = fromB (-1000) 1000 (endL ps xl xh yl yh ps.length) := by
  unfold endsB endL
  rw [fromB_app, flat_take ps _ (Nat.le_refl _), Bool.and_comm]

set_option maxRecDepth 100000 in
set_option maxHeartbeats 4000000 in
theorem refCircle_any (A : Option Addr) (n c : Nat) (rl rh xl xh yl yh : Int) (ps : List (Int × Int)) (w : World) (hr : RdP w A n ps) (hn : n ≤ 1000000) :
    Calls Tryd.prog 15 #[.agg #[.slice A n c, .int .i64 rl, .int .i64 rh, .int .i64 xl, .int .i64 xh, .int .i64 yl, .int .i64 yh]] w fun e w' => e = .returned (.int .i64 (circE ps rl rh xl xh yl yh)) ∧ Below w.heap.size w w' := by
  have hE : circE ps rl rh xl xh yl yh = if n = 0 then 10 else if 20 < n then 8 else if endsB ps xl xh yl yh = true ∧ fromB 0 1000 [rl, rh] = true then (if rh < rl ∨ xh < xl ∨ yh < yl then 9 else if 30 < xh - xl + 1 ∨ 30 < yh - yl + 1 then 8 else 0) else 2 := by unfold circE; rw [hr.1]
  have hends : endsB ps xl xh yl yh = fromB (-1000) 1000 (endL ps xl xh yl yh n) := by rw [ends_flat, hr.1]
  rw [hE, hends]
  obtain ⟨L, hL⟩ : ∃ L, endL ps xl xh yl yh n = L := ⟨_, rfl⟩
  obtain ⟨FB, hFB⟩ : ∃ b, fromB (-1000) 1000 (endL ps xl xh yl yh n) = b := ⟨_, rfl⟩
  rw [hFB]
  obtain ⟨E, hEE⟩ : ∃ E, (if n = 0 then 10 else if 20 < n then 8 else if FB = true ∧ fromB 0 1000 [rl, rh] = true then (if rh < rl ∨ xh < xl ∨ yh < yl then 9 else if 30 < xh - xl + 1 ∨ 30 < yh - yl + 1 then 8 else 0) else 2 : Int) = E := ⟨_, rfl⟩
  rw [hEE]
  have HE := Lib.hid hEE
  have HFB := Lib.hid hFB
  have HENDS : Hid (FB = true → fromB (-1000) 1000 [xl, xh, yl, yh] = true) := Lib.hid (fun h => by rw [← hFB] at h; unfold endL at h; rw [fromB_app, Bool.and_eq_true] at h; exact h.1)
  have hb0 : Below w.heap.size w (w.alloc (.cells #[.slice A n c, .int .i64 rl, .int .i64 rh, .int .i64 xl, .int .i64 xh, .int .i64 yl, .int .i64 yh] 39)) := (Below.refl _ _).alloc (Nat.le_refl _) _
  have HRP := Lib.hid (hr.below hb0)
  have CW := Lib.hid (fun W a lo hi => within_any a lo hi W)
  obtain ⟨i0, hi0, hz0, hz1, hz2⟩ := info_parts intInfo'
  clear hE hends hL hr hEE hFB
  go_enter Tryd.func15, Tryd.ntmps15
  go_upto_region 1 with (fail)
  obtain ⟨W1, hW1⟩ : ∃ W, w.alloc (.cells #[.slice A n c, .int .i64 rl, .int .i64 rh, .int .i64 xl, .int .i64 xh, .int .i64 yl, .int .i64 yh] 39) = W := ⟨_, rfl⟩
  have HBX : Hid (Bk W1 w.heap.size 39 #[.slice A n c, .int .i64 rl, .int .i64 rh, .int .i64 xl, .int .i64 xh, .int .i64 yl, .int .i64 yh]) := by rw [← hW1]; exact Bk.new _ _ _
  have hsz : W1.heap.size = w.heap.size + 1 := by rw [← hW1]; simp
  rw [hW1] at hb0 HRP
  have HB := Lib.hid hb0
  rw [hW1]
  have HBs : Hid (Below (w.heap.size + 1) W1 W1) := Lib.hid (Below.refl _ _)
  have HK : Hid (∀ W, Below (w.heap.size + 1) W1 W → (W.cell? ⟨w.heap.size, 0, none⟩ = some (.slice A n c) ∧ W.cell? ⟨w.heap.size, 1, none⟩ = some (.int .i64 rl) ∧ W.cell? ⟨w.heap.size, 2, none⟩ = some (.int .i64 rh) ∧ W.cell? ⟨w.heap.size, 3, none⟩ = some (.int .i64 xl) ∧ W.cell? ⟨w.heap.size, 4, none⟩ = some (.int .i64 xh) ∧ W.cell? ⟨w.heap.size, 5, none⟩ = some (.int .i64 yl) ∧ W.cell? ⟨w.heap.size, 6, none⟩ = some (.int .i64 yh))) := fun W hb => by
    have h := HBX.out.below hb (Nat.lt_succ_self _)
    exact ⟨by rw [h.cell]; rfl, by rw [h.cell]; rfl, by rw [h.cell]; rfl, by rw [h.cell]; rfl, by rw [h.cell]; rfl, by rw [h.cell]; rfl, by rw [h.cell]; rfl⟩
  have HSZ := Lib.hid hsz
  clear hb0 hW1 HBX hsz
  obtain ⟨c0, c1, c2, c3, c4, c5, c6⟩ := HK.out _ HBs.out
  by_cases h0 : n = 0
  · subst h0
    go_wp2
    go_ret
    exact ⟨by rw [← HE.out, if_pos trivial]; rfl, HB.out⟩
  · have h0I : ((n : Int) == 0) = false := by simp; omega
    have h0J : ¬ (n : Int) = 0 := by omega
    by_cases h1 : 20 < n
    · have h1I : (20 : Int) < (n : Int) := by omega
      go_wp2
      go_ret
      exact ⟨by rw [← HE.out, if_neg h0, if_pos h1]; rfl, HB.out⟩
    · have h1I : ¬ (20 : Int) < (n : Int) := by omega
      go_upto_region 6 with (fail)
      obtain ⟨W2, hW2⟩ : ∃ W, W1.alloc (.cells #[.int .i64 xl, .int .i64 xh, .int .i64 yl, .int .i64 yh] 3) = W := ⟨_, rfl⟩
      have HB2 : Hid (Below (w.heap.size + 1) W1 W2) := Lib.hid (by rw [← hW2]; exact HBs.out.alloc (by rw [HSZ.out]; exact Nat.le_refl _) _)
      have HOW : Hid (W2.ownsRow W1.heap.size 3 1 (.slice (some ⟨W1.heap.size, 0, none⟩) 4 4) 4 ((endL ps xl xh yl yh 0).map (Value.int .i64))) := by
        rw [← hW2]
        exact World.ownsRow_lit W1 #[.int .i64 xl, .int .i64 xh, .int .i64 yl, .int .i64 yh] 4 (Nat.le_refl _) (by unfold maxLen; omega) rfl
      have hs2 : W2.heap.size = w.heap.size + 2 := by rw [← hW2]; have := HSZ.out; simp; omega
      rw [hW2]
      rw [HSZ.out] at HOW ⊢
      obtain ⟨gB, hgB⟩ : ∃ g, w.heap.size + 1 = g := ⟨_, rfl⟩
      rw [hgB] at HOW HB2 HK ⊢
      have hgb2 : gB ≤ W2.heap.size := by omega
      have HGB := Lib.hid hgB
      clear hW2 hgB hs2 c0 c1 c2 c3 c4 c5 c6
      obtain ⟨ad, hA, hadb, hcp⟩ := HRP.out.2 (by omega)
      subst hA
      have hlenP := HRP.out.1
      have hadw : ad.block < gB := by rw [← HGB.out, ← HSZ.out]; exact hadb
      have HCP : Hid (∀ W, Below gB W1 W → ∀ j, j < n → W.cell? (ad.add (j * 2)) = some (.int .i64 (ps.getD j (0, 0)).1) ∧ W.cell? ((ad.add (j * 2)).add 1) = some (.int .i64 (ps.getD j (0, 0)).2)) := Lib.hid (fun W hb j hj => ⟨(hb.cell (p := ad.add (j * 2)) (by rw [addBlock]; exact hadw)).trans (hcp j hj).1, (hb.cell (p := (ad.add (j * 2)).add 1) (by rw [addBlock, addBlock]; exact hadw)).trans (hcp j hj).2⟩)
      have HLP := Lib.hid hlenP
      clear hcp hadb hadw HRP hlenP
      go_wp2
      go_loopw [3, 4] (fun v i wr => ∃ k : Nat, k ≤ n ∧ i = .int .i64 (k : Int) ∧ Hid (wr.ownsRow gB 3 1 v (4 + 2 * k) ((endL ps xl xh yl yh k).map (Value.int .i64)) ∧ Below gB W2 wr)) (fun _ i _ => n - (intOf i).toNat)
      case atStart => exact ⟨0, Nat.zero_le _, rfl, HOW.out, Below.refl _ _⟩
      case round =>
        obtain ⟨k, hk, rfl, HI⟩ := hrel
        have HO := Lib.hid HI.out.1
        have HBr := Lib.hid HI.out.2
        clear HI
        obtain ⟨g2, cap2, hv2⟩ := ownsRow_succ (k := 4 + 2 * k - 1) (by rw [show 4 + 2 * k - 1 + 1 = 4 + 2 * k by omega]; exact HO.out)
        rw [show 4 + 2 * k - 1 + 1 = 4 + 2 * k by omega] at hv2
        subst hv2
        obtain ⟨c0, c1, c2, c3, c4, c5, c6⟩ := HK.out _ (HB2.out.trans (HBr.out.mono (Nat.le_refl _)))
        by_cases hlt : k < n
        · have hkI : (k : Int) < (n : Int) := by omega
          have HEL := Lib.hid (endL_succ ps xl xh yl yh k (by rw [HLP.out]; exact hlt))
          have HSQ : Hid (∀ W, Below gB W2 W → W.cell? ⟨w.heap.size, 0, none⟩ = some (.slice (some ad) n c) ∧ W.cell? (ad.add (k * 2)) = some (.int .i64 (ps.getD k (0, 0)).1) ∧ W.cell? ((ad.add (k * 2)).add 1) = some (.int .i64 (ps.getD k (0, 0)).2)) := Lib.hid (fun W hb => by
            have hb1 := HB2.out.trans (hb.mono (Nat.le_refl _))
            exact ⟨(HK.out W hb1).1, HCP.out W hb1 k hlt⟩)
          obtain ⟨px, hpx⟩ : ∃ x, (ps.getD k (0, 0)).1 = x := ⟨_, rfl⟩
          obtain ⟨py, hpy⟩ : ∃ x, (ps.getD k (0, 0)).2 = x := ⟨_, rfl⟩
          obtain ⟨ak, hak⟩ : ∃ x, ad.add (k * 2) = x := ⟨_, rfl⟩
          obtain ⟨ak1, hak1⟩ : ∃ x, ak.add 1 = x := ⟨_, rfl⟩
          have addZk : ak.add 0 = ak := addZ ak
          rw [hpx, hpy] at HEL
          rw [hak, hak1, hpx, hpy] at HSQ
          clear hpx hpy
          go_wp2_with fail
          refine wp_region_held_drew (S := (fun w' : World => w'.cell? ⟨w.heap.size, 0, none⟩ = some (.slice (some ad) n c) ∧ w'.cell? ak = some (.int .i64 px) ∧ w'.cell? ak1 = some (.int .i64 py))) (by kernel_rfl) ?_ ?_
          · exact HSQ.out _ (HBr.out.drew)
          intro hHeld
          refine wpAnyH_take (i := 0) (v := ?_) rfl (by kernel_rfl) (by kernel_rfl) (by kernel_rfl) (fun _ _ _ h => h) (Or.inl ⟨by rfl, ?_⟩) (by assumption) ?_
          rotate_left
          · intro w hSw; (try dsimp only at hSw); go_simp; (try (with_reducible rfl))
          try simp only [List.getElem_toArray, List.getElem_cons_succ, List.getElem_cons_zero, Act.put, List.setIfInBounds_toArray, List.set_cons_zero, List.set_cons_succ]
          refine wpAnyH_take (i := 1) (v := ?_) rfl (by kernel_rfl) (by kernel_rfl) (by kernel_rfl) (fun _ _ _ h => h) (Or.inl ⟨by rfl, ?_⟩) (by assumption) ?_
          rotate_left
          · intro w hSw; (try dsimp only at hSw); go_simp; (try (with_reducible rfl))
          try simp only [List.getElem_toArray, List.getElem_cons_succ, List.getElem_cons_zero, Act.put, List.setIfInBounds_toArray, List.set_cons_zero, List.set_cons_succ]
          refine wpAnyH_take (i := 2) (v := ?_) rfl (by kernel_rfl) (by kernel_rfl) (by kernel_rfl) (fun _ _ _ h => h) (Or.inl ⟨by rfl, ?_⟩) (by assumption) ?_
          rotate_left
          · intro w hSw; (try dsimp only at hSw); go_simp; (try (with_reducible rfl))
          try simp only [List.getElem_toArray, List.getElem_cons_succ, List.getElem_cons_zero, Act.put, List.setIfInBounds_toArray, List.set_cons_zero, List.set_cons_succ]
          refine wpAnyH_take (i := 3) (v := ?_) rfl (by kernel_rfl) (by kernel_rfl) (by kernel_rfl) (fun _ _ _ h => h) (Or.inl ⟨by rfl, ?_⟩) (by assumption) ?_
          rotate_left
          · intro w hSw; (try dsimp only at hSw); go_simp; (try (with_reducible rfl))
          try simp only [List.getElem_toArray, List.getElem_cons_succ, List.getElem_cons_zero, Act.put, List.setIfInBounds_toArray, List.set_cons_zero, List.set_cons_succ]
          refine wpAnyH_take (i := 4) (v := ?_) rfl (by kernel_rfl) (by kernel_rfl) (by kernel_rfl) (fun _ _ _ h => h) (Or.inl ⟨by rfl, ?_⟩) (by assumption) ?_
          rotate_left
          · intro w hSw; (try dsimp only at hSw); go_simp; (try (with_reducible rfl))
          try simp only [List.getElem_toArray, List.getElem_cons_succ, List.getElem_cons_zero, Act.put, List.setIfInBounds_toArray, List.set_cons_zero, List.set_cons_succ]
          refine wpAnyH_take (i := 5) (v := ?_) rfl (by kernel_rfl) (by kernel_rfl) (by kernel_rfl) (fun _ _ _ h => h) (Or.inl ⟨by rfl, ?_⟩) (by assumption) ?_
          rotate_left
          · intro w hSw; (try dsimp only at hSw); go_simp; (try (with_reducible rfl))
          try simp only [List.getElem_toArray, List.getElem_cons_succ, List.getElem_cons_zero, Act.put, List.setIfInBounds_toArray, List.set_cons_zero, List.set_cons_succ]
          refine wpAnyH_take (i := 6) (v := ?_) rfl (by kernel_rfl) (by kernel_rfl) (by kernel_rfl) (fun _ _ _ h => h) (Or.inl ⟨by rfl, ?_⟩) (by assumption) ?_
          rotate_left
          · intro w hSw; (try dsimp only at hSw); go_simp; (try (with_reducible rfl))
          try simp only [List.getElem_toArray, List.getElem_cons_succ, List.getElem_cons_zero, Act.put, List.setIfInBounds_toArray, List.set_cons_zero, List.set_cons_succ]
          refine wpAnyH_take (i := 7) (v := ?_) rfl (by kernel_rfl) (by kernel_rfl) (by kernel_rfl) (fun _ _ _ h => h) (Or.inl ⟨by rfl, ?_⟩) (by assumption) ?_
          rotate_left
          · intro w hSw; (try dsimp only at hSw); go_simp; (try (with_reducible rfl))
          try simp only [List.getElem_toArray, List.getElem_cons_succ, List.getElem_cons_zero, Act.put, List.setIfInBounds_toArray, List.set_cons_zero, List.set_cons_succ]
          refine wpAnyH_take (i := 8) (v := ?_) rfl (by kernel_rfl) (by kernel_rfl) (by kernel_rfl) (fun _ _ _ h => h) (Or.inl ⟨by rfl, ?_⟩) (by assumption) ?_
          rotate_left
          · intro w hSw; (try dsimp only at hSw); go_simp; (try (with_reducible rfl))
          try simp only [List.getElem_toArray, List.getElem_cons_succ, List.getElem_cons_zero, Act.put, List.setIfInBounds_toArray, List.set_cons_zero, List.set_cons_succ]
          refine wpAnyH_take (i := 9) (v := ?_) rfl (by kernel_rfl) (by kernel_rfl) (by kernel_rfl) (fun _ _ _ h => h) (Or.inl ⟨by rfl, ?_⟩) (by assumption) ?_
          rotate_left
          · intro w hSw; (try dsimp only at hSw); go_simp; (try (with_reducible rfl))
          try simp only [List.getElem_toArray, List.getElem_cons_succ, List.getElem_cons_zero, Act.put, List.setIfInBounds_toArray, List.set_cons_zero, List.set_cons_succ]
          refine wpAnyH_take (i := 10) (v := ?_) rfl (by kernel_rfl) (by kernel_rfl) (by kernel_rfl) (fun _ _ _ h => h) (Or.inl ⟨by rfl, ?_⟩) (by assumption) ?_
          rotate_left
          · intro w hSw; (try dsimp only at hSw); go_simp; (try (with_reducible rfl))
          try simp only [List.getElem_toArray, List.getElem_cons_succ, List.getElem_cons_zero, Act.put, List.setIfInBounds_toArray, List.set_cons_zero, List.set_cons_succ]
          refine wpAnyH_take (i := 11) (v := ?_) rfl (by kernel_rfl) (by kernel_rfl) (by kernel_rfl) (fun _ _ _ h => h) (Or.inl ⟨by rfl, ?_⟩) (by assumption) ?_
          rotate_left
          · intro w hSw; (try dsimp only at hSw); go_simp; (try (with_reducible rfl))
          try simp only [List.getElem_toArray, List.getElem_cons_succ, List.getElem_cons_zero, Act.put, List.setIfInBounds_toArray, List.set_cons_zero, List.set_cons_succ]
          refine wpAnyH_take (i := 12) (v := ?_) rfl (by kernel_rfl) (by kernel_rfl) (by kernel_rfl) (fun _ _ _ h => h) (Or.inl ⟨by rfl, ?_⟩) (by assumption) ?_
          rotate_left
          · intro w hSw; (try dsimp only at hSw); go_simp; (try (with_reducible rfl))
          try simp only [List.getElem_toArray, List.getElem_cons_succ, List.getElem_cons_zero, Act.put, List.setIfInBounds_toArray, List.set_cons_zero, List.set_cons_succ]
          refine wpAnyH_ready (rs := [13]) (by kernel_rfl) (by simp) ?_
          refine AllReadyH.cons rfl (fun K hK => ?_) AllReadyH.nil
          go_simp
          refine hK.out _ _ ?_ (fun hHeld => ?_)
          · clear hK K; exact HSQ.out _ ((HBr.out.drew).alloc (Nat.le_trans hgb2 (HBr.out.drew).size) _)
          clear hK K
          try simp only [List.getElem_toArray, List.getElem_cons_succ, List.getElem_cons_zero, Act.put, List.setIfInBounds_toArray, List.set_cons_zero, List.set_cons_succ]
          refine wpAnyH_ready (rs := [14]) (by kernel_rfl) (by simp) ?_
          refine AllReadyH.cons rfl (fun K hK => ?_) AllReadyH.nil
          refine step_append_at _ rfl (.tmp 34) (.tmp 47) 28 rfl gB 3 i0 _ 1 8 Tryd.underlying28 hi0 hz0 hz1 hz2 rfl (by decide) _ _ _ rfl ((HO.out.drew).alloc _) ⟨wr.heap.size, 0, none⟩ 2 2 [.int .i64 px, .int .i64 py] rfl rfl (cell_two_new _ _ _ _) (by simp [Value.oneCell']) (by unfold maxLen; omega) (by omega) (by have := (HBr.out.drew).size; simp at this ⊢; omega) ?_
          intro v' w4 hown' hgrow _ hat
          obtain ⟨g', cap', rfl⟩ := ownsRow_succ hown'
          have HB4 : Hid (Below gB W2 w4) := ((HBr.out.drew).alloc (Nat.le_trans hgb2 (HBr.out.drew).size) _).grown hgrow (by have := (HBr.out.drew).size; simp at this ⊢; omega) (fun z e => ((HO.out.drew).lt z e).1)
          have HO4 : Hid (w4.ownsRow gB 3 1 (.slice (some ⟨g', 0, none⟩) (4 + 2 * k + 1 + 1) cap') (4 + 2 * k + 1 + 1) ((endL ps xl xh yl yh (k + 1)).map (Value.int .i64))) := by
            refine Lib.hid ?_
            rw [HEL.out, List.map_append]
            exact hown'
          clear hown' hgrow hat
          refine hK.out _ _ ?_ (fun hHeld => ?_)
          · clear hK K; exact HSQ.out _ HB4.out
          clear hK K
          try simp only [List.getElem_toArray, List.getElem_cons_succ, List.getElem_cons_zero, Act.put, List.setIfInBounds_toArray, List.set_cons_zero, List.set_cons_succ]
          refine wpAnyH_take (i := 15) (v := ?_) rfl (by kernel_rfl) (by kernel_rfl) (by kernel_rfl) (fun _ _ _ h => h) (Or.inl ⟨by rfl, ?_⟩) (by assumption) ?_
          rotate_left
          · intro w hSw; (try dsimp only at hSw); go_simp; (try (with_reducible rfl))
          try simp only [List.getElem_toArray, List.getElem_cons_succ, List.getElem_cons_zero, Act.put, List.setIfInBounds_toArray, List.set_cons_zero, List.set_cons_succ]
          refine wpAnyH_done (by kernel_rfl) ?_ _
          clear hHeld HBr HO
          go_wp2
          go_roundw
          case rel => exact ⟨k + 1, by omega, by go_num, HO4.out, HB4.out⟩
          case measure => simp [intOf]; omega
        · obtain rfl : n = k := by omega
          obtain ⟨m, hm⟩ : ∃ m, 4 + 2 * n = m := ⟨_, rfl⟩
          have hml : (endL ps xl xh yl yh n).length = m := by rw [endL_length _ _ _ _ _ _ (by rw [HLP.out]; exact Nat.le_refl _), hm]
          obtain ⟨M, hM⟩ : ∃ M, endL ps xl xh yl yh n = M := ⟨_, rfl⟩
          rw [hM] at HO HFB hml
          rw [hm] at HO ⊢
          have hmb : m ≤ 100 := by omega
          obtain ⟨A2, c2', hv, _, hrd⟩ := rd_of_own HO.out
          injection hv with hv1 _ hv3
          subst hv1 hv3
          obtain ⟨a2, ha2, h2b, h2c⟩ := hrd.2 (by omega)
          injection ha2 with ha2
          subst ha2
          have HRD : Hid (∀ W, Below wr.heap.size wr W → ∀ j, j < m → W.cell? ((⟨g2, 0, none⟩ : Addr).add j) = some (.int .i64 (M.getD j 0))) := Lib.hid (fun W hb j hj => (hb.cell (p := (⟨g2, 0, none⟩ : Addr).add j) (by rw [addBlock]; exact h2b)).trans (h2c j hj))
          obtain ⟨wo, hwo⟩ : ∃ W, W = wr := ⟨_, rfl⟩
          subst hwo
          obtain ⟨a2, ha2⟩ : ∃ a : Addr, (⟨g2, 0, none⟩ : Addr) = a := ⟨_, rfl⟩
          rw [ha2] at HRD ⊢
          have HML := Lib.hid hml
          have HWO : Hid (∀ W, Below wo.heap.size wo W → Below gB W1 W) := Lib.hid (fun W hb => HB2.out.trans ((HBr.out.trans (hb.mono (by have := HBr.out.size; omega))).mono (Nat.le_refl _)))
          clear hm hM h2c h2b hrd hk HO ha2 hml
          go_wp2
          go_loopw [5] (fun i wr => ∃ k : Nat, k ≤ m ∧ i = .int .i64 (k : Int) ∧ Hid (FB = fromB (-1000) 1000 (M.drop k)) ∧ Hid (Below wo.heap.size wo wr)) (fun i _ => m - (intOf i).toNat)
          case atStart => exact ⟨0, Nat.zero_le _, rfl, HFB.out.symm, Below.refl _ _⟩
          case round =>
            obtain ⟨k, hk, rfl, HF, HBX⟩ := hrel
            have HBG := Lib.hid (HWO.out _ HBX.out)
            have HBW : Hid (Below w.heap.size w wr) := Lib.hid (HB.out.trans (HBG.out.mono (by have := HGB.out; omega)))
            by_cases hlt : k < m
            · have hkI : (k : Int) < (m : Int) := by omega
              have hck := HRD.out _ HBX.out k hlt
              have hst := fromB_step (-1000) 1000 M k (by rw [HML.out]; exact hlt)
              obtain ⟨x, hx⟩ : ∃ x, M.getD k 0 = x := ⟨_, rfl⟩
              rw [hx] at hck hst
              have CX := Lib.hid (CW.out wr x (-1000) 1000)
              cases hb : fromB (-1000) 1000 [x] with
              | false =>
                have HF0 : Hid (FB = false) := Lib.hid (by
                  rw [HF.out, hst]
                  have : (decide (-1000 ≤ x) && decide (x ≤ 1000)) = false := by simpa [fromB] using hb
                  rw [this]; rfl)
                rw [hb] at CX
                clear hb hst hx
                go_wp2_with fail
                refine CX.out.mono ?_
                rintro e w' ⟨rfl, rfl⟩
                go_wp2
                go_ret
                exact ⟨by rw [← HE.out, if_neg h0, if_neg h1, if_neg (fun h => by have := h.1; rw [HF0.out] at this; exact absurd this (by decide))]; rfl, HBW.out⟩
              | true =>
                have HF0 : Hid (FB = fromB (-1000) 1000 (M.drop (k + 1))) := Lib.hid (by
                  rw [HF.out, hst]
                  have : (decide (-1000 ≤ x) && decide (x ≤ 1000)) = true := by simpa [fromB] using hb
                  rw [this]; rfl)
                rw [hb] at CX
                clear hb hst hx
                go_wp2_with fail
                refine CX.out.mono ?_
                rintro e w' ⟨rfl, rfl⟩
                go_wp2
                go_roundw
                case rel => exact ⟨k + 1, by omega, by go_num, HF0.out, HBX.out⟩
                case measure => simp [intOf]; omega
            · obtain rfl : m = k := by omega
              have hft : FB = true := by rw [HF.out, List.drop_of_length_le (by rw [HML.out]; exact Nat.le_refl _)]; rfl
              have HFT := Lib.hid hft
              clear hft HF HRD HFB
              obtain ⟨c0, c1, c2, c3, c4, c5, c6⟩ := HK.out _ HBG.out
              have CR1 := Lib.hid (CW.out wr rl 0 1000)
              have CR2 := Lib.hid (CW.out wr rh 0 1000)
              by_cases hr1 : 0 ≤ rl ∧ rl ≤ 1000
              · skip
                by_cases hr2 : 0 ≤ rh ∧ rh ≤ 1000
                · skip
                  rw [show fromB 0 1000 [rl] = true from fromB_one.2 (by omega)] at CR1
                  rw [show fromB 0 1000 [rh] = true from fromB_one.2 (by omega)] at CR2
                  go_wp2_with fail
                  refine CR1.out.mono ?_
                  rintro e w' ⟨rfl, rfl⟩
                  go_wp2_with fail
                  refine CR2.out.mono ?_
                  rintro e w' ⟨rfl, rfl⟩
                  by_cases h3a : rh < rl
                  · skip
                    go_wp2
                    go_ret
                    exact ⟨by rw [← HE.out, if_neg h0, if_neg h1, if_pos ⟨HFT.out, fromB_two.2 ⟨hr1, hr2⟩⟩, if_pos (.inl h3a)]; rfl, HBW.out⟩
                  · skip
                    by_cases h3b : xh < xl
                    · skip
                      go_wp2
                      go_ret
                      exact ⟨by rw [← HE.out, if_neg h0, if_neg h1, if_pos ⟨HFT.out, fromB_two.2 ⟨hr1, hr2⟩⟩, if_pos (.inr (.inl h3b))]; rfl, HBW.out⟩
                    · skip
                      by_cases h3c : yh < yl
                      · skip
                        go_wp2
                        go_ret
                        exact ⟨by rw [← HE.out, if_neg h0, if_neg h1, if_pos ⟨HFT.out, fromB_two.2 ⟨hr1, hr2⟩⟩, if_pos (.inr (.inr h3c))]; rfl, HBW.out⟩
                      · skip
                        have hbb := fromB_four.1 (HENDS.out HFT.out)
                        have hw1 : IntKind.i64.wrap (xh - xl) = xh - xl := IntWalk.i64_in _ (by omega)
                        have hw2 : IntKind.i64.wrap (yh - yl) = yh - yl := IntWalk.i64_in _ (by omega)
                        have hw3 : IntKind.i64.wrap (xh - xl + 1) = xh - xl + 1 := IntWalk.i64_in _ (by omega)
                        have hw4 : IntKind.i64.wrap (yh - yl + 1) = yh - yl + 1 := IntWalk.i64_in _ (by omega)
                        clear hbb
                        by_cases h4a : 30 < xh - xl + 1
                        · skip
                          go_wp2
                          go_ret
                          exact ⟨by rw [← HE.out, if_neg h0, if_neg h1, if_pos ⟨HFT.out, fromB_two.2 ⟨hr1, hr2⟩⟩, if_neg (by omega), if_pos (.inl h4a)]; rfl, HBW.out⟩
                        · by_cases h4b : 30 < yh - yl + 1
                          · skip
                            go_wp2
                            go_ret
                            exact ⟨by rw [← HE.out, if_neg h0, if_neg h1, if_pos ⟨HFT.out, fromB_two.2 ⟨hr1, hr2⟩⟩, if_neg (by omega), if_pos (.inr h4b)]; rfl, HBW.out⟩
                          · skip
                            go_wp2
                            go_ret
                            exact ⟨by rw [← HE.out, if_neg h0, if_neg h1, if_pos ⟨HFT.out, fromB_two.2 ⟨hr1, hr2⟩⟩, if_neg (by omega), if_neg (by omega)]; rfl, HBW.out⟩
                · skip
                  rw [show fromB 0 1000 [rl] = true from fromB_one.2 (by omega)] at CR1
                  rw [show fromB 0 1000 [rh] = false from by rw [Bool.eq_false_iff]; intro e; rw [fromB_one] at e; omega] at CR2
                  go_wp2_with fail
                  refine CR1.out.mono ?_
                  rintro e w' ⟨rfl, rfl⟩
                  go_wp2_with fail
                  refine CR2.out.mono ?_
                  rintro e w' ⟨rfl, rfl⟩
                  go_wp2
                  go_ret
                  exact ⟨by rw [← HE.out, if_neg h0, if_neg h1, if_neg (fun h => by have := h.2; rw [fromB_two] at this; omega)]; rfl, HBW.out⟩
              · skip
                rw [show fromB 0 1000 [rl] = false from by rw [Bool.eq_false_iff]; intro e; rw [fromB_one] at e; omega] at CR1
                go_wp2_with fail
                refine CR1.out.mono ?_
                rintro e w' ⟨rfl, rfl⟩
                go_wp2
                go_ret
                exact ⟨by rw [← HE.out, if_neg h0, if_neg h1, if_neg (fun h => by have := h.2; rw [fromB_two] at this; omega)]; rfl, HBW.out⟩

end Go.Proofs.YtpkjkegcdddimaaDoor

namespace Go.Proofs.YtpkjkegcdddimaaDoor
open Go.RowKit

theorem offB_eq (rl rh : Int) (ps : List (Int × Int)) (cx cy : Int) (k : Nat) : fromB (rl * rl) (rh * rh) [sqF (cx, cy) (ps.getD k (0, 0))] = !offB rl rh ps (cx, cy) k := by
  unfold offB
  rw [Bool.not_not, sqF_comm]

set_option maxRecDepth 100000 in
set_option maxHeartbeats 4000000 in
theorem center_bad (A : Option Addr) (n c : Nat) (rl rh xl xh yl yh : Int) (ps : List (Int × Int)) (cx cy : Int) (w : World) (hr : RdP w A n ps) (hn : n ≤ 1000000) (E : Int) (hE : circE ps rl rh xl xh yl yh = E) (h0 : E ≠ 0) :
    Calls Tryd.prog 12 #[.agg #[.slice A n c, .int .i64 rl, .int .i64 rh, .int .i64 xl, .int .i64 xh, .int .i64 yl, .int .i64 yh], .agg #[.int .i64 cx, .int .i64 cy]] w fun e w' => e = .returned (.tuple #[.int .i64 (0), .int .i64 (E)]) ∧ Below w.heap.size w w' := by
  obtain ⟨W1, hW1⟩ : ∃ W, (w.alloc (.cells #[.slice A n c, .int .i64 rl, .int .i64 rh, .int .i64 xl, .int .i64 xh, .int .i64 yl, .int .i64 yh] 39)).alloc (.cells #[.int .i64 cx, .int .i64 cy] 30) = W := ⟨_, rfl⟩
  have hb1 : Below w.heap.size w W1 := by rw [← hW1]; exact ((Below.refl _ _).alloc (Nat.le_refl _) _).alloc (by simp) _
  have k0 : Bk W1 w.heap.size 39 #[.slice A n c, .int .i64 rl, .int .i64 rh, .int .i64 xl, .int .i64 xh, .int .i64 yl, .int .i64 yh] := by rw [← hW1]; exact (Bk.new w 39 #[.slice A n c, .int .i64 rl, .int .i64 rh, .int .i64 xl, .int .i64 xh, .int .i64 yl, .int .i64 yh]).alloc _
  have k1 : Bk W1 (w.heap.size + 1) 30 #[.int .i64 cx, .int .i64 cy] := by
    rw [← hW1]
    have := Bk.new (w.alloc (.cells #[.slice A n c, .int .i64 rl, .int .i64 rh, .int .i64 xl, .int .i64 xh, .int .i64 yl, .int .i64 yh] 39)) 30 #[.int .i64 cx, .int .i64 cy]
    simpa using this
  have HK : Hid (∀ W, Below W1.heap.size W1 W → (W.cell? ⟨w.heap.size, 0, none⟩ = some (.slice A n c) ∧ W.cell? ⟨w.heap.size, 1, none⟩ = some (.int .i64 rl) ∧ W.cell? ⟨w.heap.size, 2, none⟩ = some (.int .i64 rh) ∧ W.cell? ⟨w.heap.size, 3, none⟩ = some (.int .i64 xl) ∧ W.cell? ⟨w.heap.size, 4, none⟩ = some (.int .i64 xh) ∧ W.cell? ⟨w.heap.size, 5, none⟩ = some (.int .i64 yl) ∧ W.cell? ⟨w.heap.size, 6, none⟩ = some (.int .i64 yh)) ∧ W.cell? ⟨w.heap.size + 1, 0, none⟩ = some (.int .i64 cx) ∧ W.cell? ⟨w.heap.size + 1, 1, none⟩ = some (.int .i64 cy)) := fun W hb => by
    have h0 := k0.later hb
    have h1 := k1.later hb
    exact ⟨⟨by rw [h0.cell]; rfl, by rw [h0.cell]; rfl, by rw [h0.cell]; rfl, by rw [h0.cell]; rfl, by rw [h0.cell]; rfl, by rw [h0.cell]; rfl, by rw [h0.cell]; rfl⟩, by rw [h1.cell]; rfl, by rw [h1.cell]; rfl⟩
  have HR1 := Lib.hid (hr.below hb1)
  have HB1 := Lib.hid hb1
  have CC := Lib.hid (fun W (h : RdP W A n ps) => checkCircle_any A n c rl rh xl xh yl yh ps W h hn)
  have h0b : (E != 0) = true := by simpa using h0
  rw [hE] at CC
  clear hE h0
  clear hr hb1 k0 k1
  go_enter Tryd.func12, Tryd.ntmps12
  go_upto_region 1 with (fail)
  try rw [hW1]
  clear hW1
  obtain ⟨⟨c0, c1, c2, c3, c4, c5, c6⟩, d0, d1⟩ := HK.out _ (Below.refl _ _)
  go_wp2_with fail
  refine (CC.out _ HR1.out).mono ?_
  rintro e w2 ⟨rfl, hb2⟩
  have HB2 : Hid (Below W1.heap.size W1 w2) := Lib.hid hb2
  have HBW2 : Hid (Below w.heap.size w w2) := Lib.hid (HB1.out.trans (hb2.mono HB1.out.size))
  clear hb2 c0 c1 c2 c3 c4 c5 c6 d0 d1
  obtain ⟨⟨c0, c1, c2, c3, c4, c5, c6⟩, d0, d1⟩ := HK.out _ (HB2.out)
  go_wp2
  go_ret2
  exact ⟨rfl, HBW2.out⟩

set_option maxRecDepth 100000 in
set_option maxHeartbeats 4000000 in
theorem center_x (A : Option Addr) (n c : Nat) (rl rh xl xh yl yh : Int) (ps : List (Int × Int)) (cx cy : Int) (w : World) (hr : RdP w A n ps) (hn : n ≤ 1000000) (hE : circE ps rl rh xl xh yl yh = 0) (hx : fromB xl xh [cx] = false) :
    Calls Tryd.prog 12 #[.agg #[.slice A n c, .int .i64 rl, .int .i64 rh, .int .i64 xl, .int .i64 xh, .int .i64 yl, .int .i64 yh], .agg #[.int .i64 cx, .int .i64 cy]] w fun e w' => e = .returned (.tuple #[.int .i64 (0), .int .i64 (2)]) ∧ Below w.heap.size w w' := by
  obtain ⟨W1, hW1⟩ : ∃ W, (w.alloc (.cells #[.slice A n c, .int .i64 rl, .int .i64 rh, .int .i64 xl, .int .i64 xh, .int .i64 yl, .int .i64 yh] 39)).alloc (.cells #[.int .i64 cx, .int .i64 cy] 30) = W := ⟨_, rfl⟩
  have hb1 : Below w.heap.size w W1 := by rw [← hW1]; exact ((Below.refl _ _).alloc (Nat.le_refl _) _).alloc (by simp) _
  have k0 : Bk W1 w.heap.size 39 #[.slice A n c, .int .i64 rl, .int .i64 rh, .int .i64 xl, .int .i64 xh, .int .i64 yl, .int .i64 yh] := by rw [← hW1]; exact (Bk.new w 39 #[.slice A n c, .int .i64 rl, .int .i64 rh, .int .i64 xl, .int .i64 xh, .int .i64 yl, .int .i64 yh]).alloc _
  have k1 : Bk W1 (w.heap.size + 1) 30 #[.int .i64 cx, .int .i64 cy] := by
    rw [← hW1]
    have := Bk.new (w.alloc (.cells #[.slice A n c, .int .i64 rl, .int .i64 rh, .int .i64 xl, .int .i64 xh, .int .i64 yl, .int .i64 yh] 39)) 30 #[.int .i64 cx, .int .i64 cy]
    simpa using this
  have HK : Hid (∀ W, Below W1.heap.size W1 W → (W.cell? ⟨w.heap.size, 0, none⟩ = some (.slice A n c) ∧ W.cell? ⟨w.heap.size, 1, none⟩ = some (.int .i64 rl) ∧ W.cell? ⟨w.heap.size, 2, none⟩ = some (.int .i64 rh) ∧ W.cell? ⟨w.heap.size, 3, none⟩ = some (.int .i64 xl) ∧ W.cell? ⟨w.heap.size, 4, none⟩ = some (.int .i64 xh) ∧ W.cell? ⟨w.heap.size, 5, none⟩ = some (.int .i64 yl) ∧ W.cell? ⟨w.heap.size, 6, none⟩ = some (.int .i64 yh)) ∧ W.cell? ⟨w.heap.size + 1, 0, none⟩ = some (.int .i64 cx) ∧ W.cell? ⟨w.heap.size + 1, 1, none⟩ = some (.int .i64 cy)) := fun W hb => by
    have h0 := k0.later hb
    have h1 := k1.later hb
    exact ⟨⟨by rw [h0.cell]; rfl, by rw [h0.cell]; rfl, by rw [h0.cell]; rfl, by rw [h0.cell]; rfl, by rw [h0.cell]; rfl, by rw [h0.cell]; rfl, by rw [h0.cell]; rfl⟩, by rw [h1.cell]; rfl, by rw [h1.cell]; rfl⟩
  have HR1 := Lib.hid (hr.below hb1)
  have HB1 := Lib.hid hb1
  have CC := Lib.hid (fun W (h : RdP W A n ps) => checkCircle_any A n c rl rh xl xh yl yh ps W h hn)
  rw [hE] at CC
  have CX := Lib.hid (fun W g c (h : W.cell? ⟨g, 0, none⟩ = some (.int .i64 cx)) => areFrom_any (some ⟨g, 0, none⟩) 1 c [cx] xl xh W (lit1 W g cx h) (by omega))
  rw [show fromB xl xh [cx] = false from hx] at CX
  clear hE hx
  clear hr hb1 k0 k1
  go_enter Tryd.func12, Tryd.ntmps12
  go_upto_region 1 with (fail)
  try rw [hW1]
  clear hW1
  obtain ⟨⟨c0, c1, c2, c3, c4, c5, c6⟩, d0, d1⟩ := HK.out _ (Below.refl _ _)
  go_wp2_with fail
  refine (CC.out _ HR1.out).mono ?_
  rintro e w2 ⟨rfl, hb2⟩
  have HB2 : Hid (Below W1.heap.size W1 w2) := Lib.hid hb2
  have HBW2 : Hid (Below w.heap.size w w2) := Lib.hid (HB1.out.trans (hb2.mono HB1.out.size))
  clear hb2 c0 c1 c2 c3 c4 c5 c6 d0 d1
  obtain ⟨⟨c0, c1, c2, c3, c4, c5, c6⟩, d0, d1⟩ := HK.out _ (HB2.out)
  go_wp2_with fail
  refine (CX.out _ w2.heap.size _ (by simp [go_sem])).mono ?_
  rintro e w' ⟨rfl, rfl⟩
  obtain ⟨W3, hW3⟩ : ∃ W, w2.alloc (.cells #[.int .i64 cx] 3) = W := ⟨_, rfl⟩
  have HB3 : Hid (Below W1.heap.size W1 W3) := Lib.hid (by rw [← hW3]; exact HB2.out.alloc HB2.out.size _)
  have HBW3 : Hid (Below w.heap.size w W3) := Lib.hid (HB1.out.trans (HB3.out.mono HB1.out.size))
  rw [hW3]
  clear hW3 c0 c1 c2 c3 c4 c5 c6 d0 d1
  obtain ⟨⟨c0, c1, c2, c3, c4, c5, c6⟩, d0, d1⟩ := HK.out _ (HB3.out)
  go_wp2
  go_ret2
  exact ⟨rfl, HBW3.out⟩

set_option maxRecDepth 100000 in
set_option maxHeartbeats 4000000 in
theorem center_y (A : Option Addr) (n c : Nat) (rl rh xl xh yl yh : Int) (ps : List (Int × Int)) (cx cy : Int) (w : World) (hr : RdP w A n ps) (hn : n ≤ 1000000) (hE : circE ps rl rh xl xh yl yh = 0) (hx : fromB xl xh [cx] = true) (hy : fromB yl yh [cy] = false) :
    Calls Tryd.prog 12 #[.agg #[.slice A n c, .int .i64 rl, .int .i64 rh, .int .i64 xl, .int .i64 xh, .int .i64 yl, .int .i64 yh], .agg #[.int .i64 cx, .int .i64 cy]] w fun e w' => e = .returned (.tuple #[.int .i64 (0), .int .i64 (2)]) ∧ Below w.heap.size w w' := by
  obtain ⟨W1, hW1⟩ : ∃ W, (w.alloc (.cells #[.slice A n c, .int .i64 rl, .int .i64 rh, .int .i64 xl, .int .i64 xh, .int .i64 yl, .int .i64 yh] 39)).alloc (.cells #[.int .i64 cx, .int .i64 cy] 30) = W := ⟨_, rfl⟩
  have hb1 : Below w.heap.size w W1 := by rw [← hW1]; exact ((Below.refl _ _).alloc (Nat.le_refl _) _).alloc (by simp) _
  have k0 : Bk W1 w.heap.size 39 #[.slice A n c, .int .i64 rl, .int .i64 rh, .int .i64 xl, .int .i64 xh, .int .i64 yl, .int .i64 yh] := by rw [← hW1]; exact (Bk.new w 39 #[.slice A n c, .int .i64 rl, .int .i64 rh, .int .i64 xl, .int .i64 xh, .int .i64 yl, .int .i64 yh]).alloc _
  have k1 : Bk W1 (w.heap.size + 1) 30 #[.int .i64 cx, .int .i64 cy] := by
    rw [← hW1]
    have := Bk.new (w.alloc (.cells #[.slice A n c, .int .i64 rl, .int .i64 rh, .int .i64 xl, .int .i64 xh, .int .i64 yl, .int .i64 yh] 39)) 30 #[.int .i64 cx, .int .i64 cy]
    simpa using this
  have HK : Hid (∀ W, Below W1.heap.size W1 W → (W.cell? ⟨w.heap.size, 0, none⟩ = some (.slice A n c) ∧ W.cell? ⟨w.heap.size, 1, none⟩ = some (.int .i64 rl) ∧ W.cell? ⟨w.heap.size, 2, none⟩ = some (.int .i64 rh) ∧ W.cell? ⟨w.heap.size, 3, none⟩ = some (.int .i64 xl) ∧ W.cell? ⟨w.heap.size, 4, none⟩ = some (.int .i64 xh) ∧ W.cell? ⟨w.heap.size, 5, none⟩ = some (.int .i64 yl) ∧ W.cell? ⟨w.heap.size, 6, none⟩ = some (.int .i64 yh)) ∧ W.cell? ⟨w.heap.size + 1, 0, none⟩ = some (.int .i64 cx) ∧ W.cell? ⟨w.heap.size + 1, 1, none⟩ = some (.int .i64 cy)) := fun W hb => by
    have h0 := k0.later hb
    have h1 := k1.later hb
    exact ⟨⟨by rw [h0.cell]; rfl, by rw [h0.cell]; rfl, by rw [h0.cell]; rfl, by rw [h0.cell]; rfl, by rw [h0.cell]; rfl, by rw [h0.cell]; rfl, by rw [h0.cell]; rfl⟩, by rw [h1.cell]; rfl, by rw [h1.cell]; rfl⟩
  have HR1 := Lib.hid (hr.below hb1)
  have HB1 := Lib.hid hb1
  have CC := Lib.hid (fun W (h : RdP W A n ps) => checkCircle_any A n c rl rh xl xh yl yh ps W h hn)
  rw [hE] at CC
  have CX := Lib.hid (fun W g c (h : W.cell? ⟨g, 0, none⟩ = some (.int .i64 cx)) => areFrom_any (some ⟨g, 0, none⟩) 1 c [cx] xl xh W (lit1 W g cx h) (by omega))
  rw [show fromB xl xh [cx] = true from hx] at CX
  have CY := Lib.hid (fun W g c (h : W.cell? ⟨g, 0, none⟩ = some (.int .i64 cy)) => areFrom_any (some ⟨g, 0, none⟩) 1 c [cy] yl yh W (lit1 W g cy h) (by omega))
  rw [show fromB yl yh [cy] = false from hy] at CY
  clear hE hx hy
  clear hr hb1 k0 k1
  go_enter Tryd.func12, Tryd.ntmps12
  go_upto_region 1 with (fail)
  try rw [hW1]
  clear hW1
  obtain ⟨⟨c0, c1, c2, c3, c4, c5, c6⟩, d0, d1⟩ := HK.out _ (Below.refl _ _)
  go_wp2_with fail
  refine (CC.out _ HR1.out).mono ?_
  rintro e w2 ⟨rfl, hb2⟩
  have HB2 : Hid (Below W1.heap.size W1 w2) := Lib.hid hb2
  have HBW2 : Hid (Below w.heap.size w w2) := Lib.hid (HB1.out.trans (hb2.mono HB1.out.size))
  clear hb2 c0 c1 c2 c3 c4 c5 c6 d0 d1
  obtain ⟨⟨c0, c1, c2, c3, c4, c5, c6⟩, d0, d1⟩ := HK.out _ (HB2.out)
  go_wp2_with fail
  refine (CX.out _ w2.heap.size _ (by simp [go_sem])).mono ?_
  rintro e w' ⟨rfl, rfl⟩
  obtain ⟨W3, hW3⟩ : ∃ W, w2.alloc (.cells #[.int .i64 cx] 3) = W := ⟨_, rfl⟩
  have HB3 : Hid (Below W1.heap.size W1 W3) := Lib.hid (by rw [← hW3]; exact HB2.out.alloc HB2.out.size _)
  have HBW3 : Hid (Below w.heap.size w W3) := Lib.hid (HB1.out.trans (HB3.out.mono HB1.out.size))
  rw [hW3]
  clear hW3 c0 c1 c2 c3 c4 c5 c6 d0 d1
  obtain ⟨⟨c0, c1, c2, c3, c4, c5, c6⟩, d0, d1⟩ := HK.out _ (HB3.out)
  go_wp2_with fail
  refine (CY.out _ W3.heap.size _ (by simp [go_sem])).mono ?_
  rintro e w' ⟨rfl, rfl⟩
  obtain ⟨W4, hW4⟩ : ∃ W, W3.alloc (.cells #[.int .i64 cy] 3) = W := ⟨_, rfl⟩
  have HB4 : Hid (Below W1.heap.size W1 W4) := Lib.hid (by rw [← hW4]; exact HB3.out.alloc HB3.out.size _)
  have HBW4 : Hid (Below w.heap.size w W4) := Lib.hid (HB1.out.trans (HB4.out.mono HB1.out.size))
  rw [hW4]
  clear hW4 c0 c1 c2 c3 c4 c5 c6 d0 d1
  obtain ⟨⟨c0, c1, c2, c3, c4, c5, c6⟩, d0, d1⟩ := HK.out _ (HB4.out)
  go_wp2
  go_ret2
  exact ⟨rfl, HBW4.out⟩

set_option maxRecDepth 100000 in
set_option maxHeartbeats 4000000 in
theorem center_fit (A : Option Addr) (n c : Nat) (rl rh xl xh yl yh : Int) (ps : List (Int × Int)) (cx cy : Int) (w : World) (hr : RdP w A n ps) (hn : n ≤ 1000000) (hE : circE ps rl rh xl xh yl yh = 0) (hx : fromB xl xh [cx] = true) (hy : fromB yl yh [cy] = true) (hM : misI rl rh ps (cx, cy) = -1) :
    Calls Tryd.prog 12 #[.agg #[.slice A n c, .int .i64 rl, .int .i64 rh, .int .i64 xl, .int .i64 xh, .int .i64 yl, .int .i64 yh], .agg #[.int .i64 cx, .int .i64 cy]] w fun e w' => e = .returned (.tuple #[.int .i64 (0), .int .i64 (0)]) ∧ Below w.heap.size w w' := by
  obtain ⟨W1, hW1⟩ : ∃ W, (w.alloc (.cells #[.slice A n c, .int .i64 rl, .int .i64 rh, .int .i64 xl, .int .i64 xh, .int .i64 yl, .int .i64 yh] 39)).alloc (.cells #[.int .i64 cx, .int .i64 cy] 30) = W := ⟨_, rfl⟩
  have hb1 : Below w.heap.size w W1 := by rw [← hW1]; exact ((Below.refl _ _).alloc (Nat.le_refl _) _).alloc (by simp) _
  have k0 : Bk W1 w.heap.size 39 #[.slice A n c, .int .i64 rl, .int .i64 rh, .int .i64 xl, .int .i64 xh, .int .i64 yl, .int .i64 yh] := by rw [← hW1]; exact (Bk.new w 39 #[.slice A n c, .int .i64 rl, .int .i64 rh, .int .i64 xl, .int .i64 xh, .int .i64 yl, .int .i64 yh]).alloc _
  have k1 : Bk W1 (w.heap.size + 1) 30 #[.int .i64 cx, .int .i64 cy] := by
    rw [← hW1]
    have := Bk.new (w.alloc (.cells #[.slice A n c, .int .i64 rl, .int .i64 rh, .int .i64 xl, .int .i64 xh, .int .i64 yl, .int .i64 yh] 39)) 30 #[.int .i64 cx, .int .i64 cy]
    simpa using this
  have HK : Hid (∀ W, Below W1.heap.size W1 W → (W.cell? ⟨w.heap.size, 0, none⟩ = some (.slice A n c) ∧ W.cell? ⟨w.heap.size, 1, none⟩ = some (.int .i64 rl) ∧ W.cell? ⟨w.heap.size, 2, none⟩ = some (.int .i64 rh) ∧ W.cell? ⟨w.heap.size, 3, none⟩ = some (.int .i64 xl) ∧ W.cell? ⟨w.heap.size, 4, none⟩ = some (.int .i64 xh) ∧ W.cell? ⟨w.heap.size, 5, none⟩ = some (.int .i64 yl) ∧ W.cell? ⟨w.heap.size, 6, none⟩ = some (.int .i64 yh)) ∧ W.cell? ⟨w.heap.size + 1, 0, none⟩ = some (.int .i64 cx) ∧ W.cell? ⟨w.heap.size + 1, 1, none⟩ = some (.int .i64 cy)) := fun W hb => by
    have h0 := k0.later hb
    have h1 := k1.later hb
    exact ⟨⟨by rw [h0.cell]; rfl, by rw [h0.cell]; rfl, by rw [h0.cell]; rfl, by rw [h0.cell]; rfl, by rw [h0.cell]; rfl, by rw [h0.cell]; rfl, by rw [h0.cell]; rfl⟩, by rw [h1.cell]; rfl, by rw [h1.cell]; rfl⟩
  have HR1 := Lib.hid (hr.below hb1)
  have HB1 := Lib.hid hb1
  have CC := Lib.hid (fun W (h : RdP W A n ps) => checkCircle_any A n c rl rh xl xh yl yh ps W h hn)
  rw [hE] at CC
  have CX := Lib.hid (fun W g c (h : W.cell? ⟨g, 0, none⟩ = some (.int .i64 cx)) => areFrom_any (some ⟨g, 0, none⟩) 1 c [cx] xl xh W (lit1 W g cx h) (by omega))
  rw [show fromB xl xh [cx] = true from hx] at CX
  have CY := Lib.hid (fun W g c (h : W.cell? ⟨g, 0, none⟩ = some (.int .i64 cy)) => areFrom_any (some ⟨g, 0, none⟩) 1 c [cy] yl yh W (lit1 W g cy h) (by omega))
  rw [show fromB yl yh [cy] = true from hy] at CY
  obtain ⟨g1, g2, g3, g4, g5⟩ := circ_ok hE
  have hx' := fromB_one.1 hx
  have hy' := fromB_one.1 hy
  have CM := Lib.hid (fun W (h : RdP W A n ps) => misfit_any A n c rl rh xl xh yl yh ps cx cy W h hn (fun k hk => g2 k (by rw [hr.1]; exact hk)) (by omega) (by omega))
  obtain ⟨I, hI⟩ : ∃ z, misI rl rh ps (cx, cy) = z := ⟨_, rfl⟩
  have hIb := fstF_bd (offB rl rh ps (cx, cy)) ps.length
  rw [show fstF (offB rl rh ps (cx, cy)) ps.length = I from hI] at hIb
  rw [hI] at CM hM
  have hn0 : decide (0 ≤ I) = false := decide_eq_false (by omega)
  have hn1 : ¬ 0 ≤ I := by omega
  clear hE hx hy g1 g2 g3 g4 g5 hx' hy' hM hI hIb
  clear hr hb1 k0 k1
  go_enter Tryd.func12, Tryd.ntmps12
  go_upto_region 1 with (fail)
  try rw [hW1]
  clear hW1
  obtain ⟨⟨c0, c1, c2, c3, c4, c5, c6⟩, d0, d1⟩ := HK.out _ (Below.refl _ _)
  go_wp2_with fail
  refine (CC.out _ HR1.out).mono ?_
  rintro e w2 ⟨rfl, hb2⟩
  have HB2 : Hid (Below W1.heap.size W1 w2) := Lib.hid hb2
  have HBW2 : Hid (Below w.heap.size w w2) := Lib.hid (HB1.out.trans (hb2.mono HB1.out.size))
  clear hb2 c0 c1 c2 c3 c4 c5 c6 d0 d1
  obtain ⟨⟨c0, c1, c2, c3, c4, c5, c6⟩, d0, d1⟩ := HK.out _ (HB2.out)
  go_wp2_with fail
  refine (CX.out _ w2.heap.size _ (by simp [go_sem])).mono ?_
  rintro e w' ⟨rfl, rfl⟩
  obtain ⟨W3, hW3⟩ : ∃ W, w2.alloc (.cells #[.int .i64 cx] 3) = W := ⟨_, rfl⟩
  have HB3 : Hid (Below W1.heap.size W1 W3) := Lib.hid (by rw [← hW3]; exact HB2.out.alloc HB2.out.size _)
  have HBW3 : Hid (Below w.heap.size w W3) := Lib.hid (HB1.out.trans (HB3.out.mono HB1.out.size))
  rw [hW3]
  clear hW3 c0 c1 c2 c3 c4 c5 c6 d0 d1
  obtain ⟨⟨c0, c1, c2, c3, c4, c5, c6⟩, d0, d1⟩ := HK.out _ (HB3.out)
  go_wp2_with fail
  refine (CY.out _ W3.heap.size _ (by simp [go_sem])).mono ?_
  rintro e w' ⟨rfl, rfl⟩
  obtain ⟨W4, hW4⟩ : ∃ W, W3.alloc (.cells #[.int .i64 cy] 3) = W := ⟨_, rfl⟩
  have HB4 : Hid (Below W1.heap.size W1 W4) := Lib.hid (by rw [← hW4]; exact HB3.out.alloc HB3.out.size _)
  have HBW4 : Hid (Below w.heap.size w W4) := Lib.hid (HB1.out.trans (HB4.out.mono HB1.out.size))
  rw [hW4]
  clear hW4 c0 c1 c2 c3 c4 c5 c6 d0 d1
  obtain ⟨⟨c0, c1, c2, c3, c4, c5, c6⟩, d0, d1⟩ := HK.out _ (HB4.out)
  go_wp2_with fail
  refine (CM.out _ (HR1.out.below HB4.out)).mono ?_
  rintro e w5 ⟨rfl, hb5⟩
  have HBW5 : Hid (Below w.heap.size w w5) := Lib.hid (HBW4.out.trans (hb5.mono HBW4.out.size))
  clear hb5
  go_wp2
  go_ret2
  exact ⟨rfl, HBW5.out⟩

set_option maxRecDepth 100000 in
set_option maxHeartbeats 4000000 in
theorem center_off (A : Option Addr) (n c : Nat) (rl rh xl xh yl yh : Int) (ps : List (Int × Int)) (cx cy : Int) (w : World) (hr : RdP w A n ps) (hn : n ≤ 1000000) (hE : circE ps rl rh xl xh yl yh = 0) (hx : fromB xl xh [cx] = true) (hy : fromB yl yh [cy] = true) (hM : misI rl rh ps (cx, cy) ≠ -1) :
    Calls Tryd.prog 12 #[.agg #[.slice A n c, .int .i64 rl, .int .i64 rh, .int .i64 xl, .int .i64 xh, .int .i64 yl, .int .i64 yh], .agg #[.int .i64 cx, .int .i64 cy]] w fun e w' => e = .returned (.tuple #[.int .i64 (misI rl rh ps (cx, cy)), .int .i64 (19)]) ∧ Below w.heap.size w w' := by
  obtain ⟨W1, hW1⟩ : ∃ W, (w.alloc (.cells #[.slice A n c, .int .i64 rl, .int .i64 rh, .int .i64 xl, .int .i64 xh, .int .i64 yl, .int .i64 yh] 39)).alloc (.cells #[.int .i64 cx, .int .i64 cy] 30) = W := ⟨_, rfl⟩
  have hb1 : Below w.heap.size w W1 := by rw [← hW1]; exact ((Below.refl _ _).alloc (Nat.le_refl _) _).alloc (by simp) _
  have k0 : Bk W1 w.heap.size 39 #[.slice A n c, .int .i64 rl, .int .i64 rh, .int .i64 xl, .int .i64 xh, .int .i64 yl, .int .i64 yh] := by rw [← hW1]; exact (Bk.new w 39 #[.slice A n c, .int .i64 rl, .int .i64 rh, .int .i64 xl, .int .i64 xh, .int .i64 yl, .int .i64 yh]).alloc _
  have k1 : Bk W1 (w.heap.size + 1) 30 #[.int .i64 cx, .int .i64 cy] := by
    rw [← hW1]
    have := Bk.new (w.alloc (.cells #[.slice A n c, .int .i64 rl, .int .i64 rh, .int .i64 xl, .int .i64 xh, .int .i64 yl, .int .i64 yh] 39)) 30 #[.int .i64 cx, .int .i64 cy]
    simpa using this
  have HK : Hid (∀ W, Below W1.heap.size W1 W → (W.cell? ⟨w.heap.size, 0, none⟩ = some (.slice A n c) ∧ W.cell? ⟨w.heap.size, 1, none⟩ = some (.int .i64 rl) ∧ W.cell? ⟨w.heap.size, 2, none⟩ = some (.int .i64 rh) ∧ W.cell? ⟨w.heap.size, 3, none⟩ = some (.int .i64 xl) ∧ W.cell? ⟨w.heap.size, 4, none⟩ = some (.int .i64 xh) ∧ W.cell? ⟨w.heap.size, 5, none⟩ = some (.int .i64 yl) ∧ W.cell? ⟨w.heap.size, 6, none⟩ = some (.int .i64 yh)) ∧ W.cell? ⟨w.heap.size + 1, 0, none⟩ = some (.int .i64 cx) ∧ W.cell? ⟨w.heap.size + 1, 1, none⟩ = some (.int .i64 cy)) := fun W hb => by
    have h0 := k0.later hb
    have h1 := k1.later hb
    exact ⟨⟨by rw [h0.cell]; rfl, by rw [h0.cell]; rfl, by rw [h0.cell]; rfl, by rw [h0.cell]; rfl, by rw [h0.cell]; rfl, by rw [h0.cell]; rfl, by rw [h0.cell]; rfl⟩, by rw [h1.cell]; rfl, by rw [h1.cell]; rfl⟩
  have HR1 := Lib.hid (hr.below hb1)
  have HB1 := Lib.hid hb1
  have CC := Lib.hid (fun W (h : RdP W A n ps) => checkCircle_any A n c rl rh xl xh yl yh ps W h hn)
  rw [hE] at CC
  have CX := Lib.hid (fun W g c (h : W.cell? ⟨g, 0, none⟩ = some (.int .i64 cx)) => areFrom_any (some ⟨g, 0, none⟩) 1 c [cx] xl xh W (lit1 W g cx h) (by omega))
  rw [show fromB xl xh [cx] = true from hx] at CX
  have CY := Lib.hid (fun W g c (h : W.cell? ⟨g, 0, none⟩ = some (.int .i64 cy)) => areFrom_any (some ⟨g, 0, none⟩) 1 c [cy] yl yh W (lit1 W g cy h) (by omega))
  rw [show fromB yl yh [cy] = true from hy] at CY
  obtain ⟨g1, g2, g3, g4, g5⟩ := circ_ok hE
  have hx' := fromB_one.1 hx
  have hy' := fromB_one.1 hy
  have CM := Lib.hid (fun W (h : RdP W A n ps) => misfit_any A n c rl rh xl xh yl yh ps cx cy W h hn (fun k hk => g2 k (by rw [hr.1]; exact hk)) (by omega) (by omega))
  obtain ⟨I, hI⟩ : ∃ z, misI rl rh ps (cx, cy) = z := ⟨_, rfl⟩
  have hIb := fstF_bd (offB rl rh ps (cx, cy)) ps.length
  rw [show fstF (offB rl rh ps (cx, cy)) ps.length = I from hI] at hIb
  rw [hI] at CM hM ⊢
  have hn0 : decide (0 ≤ I) = true := decide_eq_true (by omega)
  have hn1 : 0 ≤ I := by omega
  clear hE hx hy g1 g2 g3 g4 g5 hx' hy' hM hI hIb
  clear hr hb1 k0 k1
  go_enter Tryd.func12, Tryd.ntmps12
  go_upto_region 1 with (fail)
  try rw [hW1]
  clear hW1
  obtain ⟨⟨c0, c1, c2, c3, c4, c5, c6⟩, d0, d1⟩ := HK.out _ (Below.refl _ _)
  go_wp2_with fail
  refine (CC.out _ HR1.out).mono ?_
  rintro e w2 ⟨rfl, hb2⟩
  have HB2 : Hid (Below W1.heap.size W1 w2) := Lib.hid hb2
  have HBW2 : Hid (Below w.heap.size w w2) := Lib.hid (HB1.out.trans (hb2.mono HB1.out.size))
  clear hb2 c0 c1 c2 c3 c4 c5 c6 d0 d1
  obtain ⟨⟨c0, c1, c2, c3, c4, c5, c6⟩, d0, d1⟩ := HK.out _ (HB2.out)
  go_wp2_with fail
  refine (CX.out _ w2.heap.size _ (by simp [go_sem])).mono ?_
  rintro e w' ⟨rfl, rfl⟩
  obtain ⟨W3, hW3⟩ : ∃ W, w2.alloc (.cells #[.int .i64 cx] 3) = W := ⟨_, rfl⟩
  have HB3 : Hid (Below W1.heap.size W1 W3) := Lib.hid (by rw [← hW3]; exact HB2.out.alloc HB2.out.size _)
  have HBW3 : Hid (Below w.heap.size w W3) := Lib.hid (HB1.out.trans (HB3.out.mono HB1.out.size))
  rw [hW3]
  clear hW3 c0 c1 c2 c3 c4 c5 c6 d0 d1
  obtain ⟨⟨c0, c1, c2, c3, c4, c5, c6⟩, d0, d1⟩ := HK.out _ (HB3.out)
  go_wp2_with fail
  refine (CY.out _ W3.heap.size _ (by simp [go_sem])).mono ?_
  rintro e w' ⟨rfl, rfl⟩
  obtain ⟨W4, hW4⟩ : ∃ W, W3.alloc (.cells #[.int .i64 cy] 3) = W := ⟨_, rfl⟩
  have HB4 : Hid (Below W1.heap.size W1 W4) := Lib.hid (by rw [← hW4]; exact HB3.out.alloc HB3.out.size _)
  have HBW4 : Hid (Below w.heap.size w W4) := Lib.hid (HB1.out.trans (HB4.out.mono HB1.out.size))
  rw [hW4]
  clear hW4 c0 c1 c2 c3 c4 c5 c6 d0 d1
  obtain ⟨⟨c0, c1, c2, c3, c4, c5, c6⟩, d0, d1⟩ := HK.out _ (HB4.out)
  go_wp2_with fail
  refine (CM.out _ (HR1.out.below HB4.out)).mono ?_
  rintro e w5 ⟨rfl, hb5⟩
  have HBW5 : Hid (Below w.heap.size w w5) := Lib.hid (HBW4.out.trans (hb5.mono HBW4.out.size))
  clear hb5
  go_wp2
  go_ret2
  exact ⟨rfl, HBW5.out⟩

theorem checkCenter_any (A : Option Addr) (n c : Nat) (rl rh xl xh yl yh : Int) (ps : List (Int × Int)) (cx cy : Int) (w : World) (hr : RdP w A n ps) (hn : n ≤ 1000000) :
    Calls Tryd.prog 12 #[.agg #[.slice A n c, .int .i64 rl, .int .i64 rh, .int .i64 xl, .int .i64 xh, .int .i64 yl, .int .i64 yh], .agg #[.int .i64 cx, .int .i64 cy]] w fun e w' => e = .returned (.tuple #[.int .i64 (if circE ps rl rh xl xh yl yh = 0 then ctrI ps rl rh xl xh yl yh (cx, cy) else 0), .int .i64 (if circE ps rl rh xl xh yl yh = 0 then ctrE ps rl rh xl xh yl yh (cx, cy) else circE ps rl rh xl xh yl yh)]) ∧ Below w.heap.size w w' := by
  by_cases hE : circE ps rl rh xl xh yl yh = 0
  · rw [if_pos hE, if_pos hE]
    unfold ctrI ctrE inB
    dsimp only
    cases hx : fromB xl xh [cx] with
    | false => exact center_x A n c rl rh xl xh yl yh ps cx cy w hr hn hE hx
    | true =>
      cases hy : fromB yl yh [cy] with
      | false => exact center_y A n c rl rh xl xh yl yh ps cx cy w hr hn hE hx hy
      | true =>
        rw [Bool.and_self, if_pos rfl, if_pos rfl]
        by_cases hM : misI rl rh ps (cx, cy) = -1
        · rw [if_pos hM, if_pos hM]; exact center_fit A n c rl rh xl xh yl yh ps cx cy w hr hn hE hx hy hM
        · rw [if_neg hM, if_neg hM]; exact center_off A n c rl rh xl xh yl yh ps cx cy w hr hn hE hx hy hM
  · rw [if_neg hE, if_neg hE]
    exact center_bad A n c rl rh xl xh yl yh ps cx cy w hr hn _ rfl hE

end Go.Proofs.YtpkjkegcdddimaaDoor

namespace Go.Proofs.YtpkjkegcdddimaaDoor
open Go.RowKit

/-- Rows of the call's own, no two of which share memory. -/
def RowsZ (W : World) (base : Nat) (L : List (Value × List Int)) : Prop :=
  (∀ p ∈ L, W.ownsRow base 3 1 p.1 p.2.length (p.2.map (Value.int .i64))) ∧ L.Pairwise fun p q => ∀ g, p.1.ownBlock = some g → q.1.ownBlock ≠ some g
theorem RowsZ.alloc {W : World} {base : Nat} {L : List (Value × List Int)} (h : RowsZ W base L) (o : Obj) : RowsZ (W.alloc o) base L := ⟨fun p hp => (h.1 p hp).alloc o, h.2⟩
theorem RowsZ.drew {W : World} {base : Nat} {L : List (Value × List Int)} (h : RowsZ W base L) : RowsZ W.drew base L := ⟨fun p hp => (h.1 p hp).drew, h.2⟩
theorem RowsZ.step {W W' : World} {base : Nat} {pre post : List (Value × List Int)} {v v' : Value} {xs : List Int} {u : Int} (h : RowsZ W base (pre ++ (v, xs) :: post))
    (ho : W'.ownsRow base 3 1 v' (xs.length + 1) (xs.map (Value.int .i64) ++ [.int .i64 u])) (hg : W.grownBy W' v.ownBlock) (hat : v'.ownBlock = v.ownBlock ∨ v'.ownBlock = some W.heap.size) : RowsZ W' base (pre ++ (v', xs ++ [u]) :: post) := by
  obtain ⟨h1, h2⟩ := h
  rw [List.pairwise_append] at h2
  obtain ⟨hp, hc, hx⟩ := h2
  rw [List.pairwise_cons] at hc
  obtain ⟨hc1, hc2⟩ := hc
  have hv : W.ownsRow base 3 1 v xs.length (xs.map (Value.int .i64)) := h1 (v, xs) (by simp)
  have key : ∀ p : Value × List Int, p ∈ pre ∨ p ∈ post → W.ownsRow base 3 1 p.1 p.2.length (p.2.map (Value.int .i64)) ∧ (∀ g, p.1.ownBlock = some g → v.ownBlock ≠ some g) := by
    intro p hpp
    refine ⟨h1 p (by rcases hpp with h | h <;> simp [h]), fun g hg1 hg2 => ?_⟩
    rcases hpp with h | h
    · exact hx p h (v, xs) (List.mem_cons_self ..) g hg1 hg2
    · exact hc1 p h g hg2 hg1
  have kept : ∀ p : Value × List Int, p ∈ pre ∨ p ∈ post → W'.ownsRow base 3 1 p.1 p.2.length (p.2.map (Value.int .i64)) := by
    intro p hpp
    obtain ⟨k1, k2⟩ := key p hpp
    refine k1.kept hg ?_
    cases hb : p.1.ownBlock with
    | none => exact .inl rfl
    | some g => exact .inr fun e => k2 g hb e.symm
  have apart : ∀ p : Value × List Int, p ∈ pre ∨ p ∈ post → ∀ g, p.1.ownBlock = some g → v'.ownBlock ≠ some g := by
    intro p hpp g hb e
    obtain ⟨k1, k2⟩ := key p hpp
    rcases hat with h | h
    · rw [h] at e; exact k2 g hb e
    · rw [h] at e
      have := (k1.lt g hb).2
      injection e with e
      omega
  refine ⟨?_, ?_⟩
  · intro p hpm
    rcases List.mem_append.1 hpm with h | h
    · exact kept p (Or.inl h)
    · rcases List.mem_cons.1 h with rfl | h
      · show W'.ownsRow base 3 1 v' (xs ++ [u]).length ((xs ++ [u]).map (Value.int .i64))
        rw [List.map_append, List.length_append]
        exact ho
      · exact kept p (Or.inr h)
  · rw [List.pairwise_append]
    refine ⟨hp, ?_, ?_⟩
    · rw [List.pairwise_cons]
      refine ⟨fun q hq g hg1 hg2 => apart q (Or.inr hq) g hg2 hg1, hc2⟩
    · intro p hpp q hq
      rcases List.mem_cons.1 hq with rfl | hq
      · exact fun g hb => apart p (Or.inl hpp) g hb
      · exact hx p hpp q (List.mem_cons_of_mem _ hq)
theorem RowsZ.later {W W' : World} {base : Nat} {L : List (Value × List Int)} (h : RowsZ W base L) (hb : Below W.heap.size W W') : RowsZ W' base L := ⟨fun p hp => ownLater (h.1 p hp) hb, h.2⟩

set_option maxRecDepth 100000 in
set_option maxHeartbeats 4000000 in
theorem sliceMinZ (A : Option Addr) (n c : Nat) (xs : List Int) (w : World) (hr : RdI w A n xs) (hn : 0 < n ∧ n ≤ 1000000) :
    Calls Tryd.prog 64 #[.slice A n c] w fun e w' => e = .returned (.int .i64 (minZ xs n)) ∧ w = w' := by
  obtain ⟨ad, rfl, _, hc⟩ := hr.2 hn.1
  have c0 := hc 0 hn.1
  rw [addZ] at c0
  have HC := Lib.hid hc
  have h1 : ¬ (n : Int) < 1 := by omega
  have hnI : (0 : Int) < (n : Int) := by omega
  have HM1 := Lib.hid (minZ_one xs)
  obtain ⟨x0, hx0⟩ : ∃ x, xs.getD 0 0 = x := ⟨_, rfl⟩
  rw [hx0] at c0 HM1
  have hn0 : 0 < n := hn.1
  have hnb : n ≤ 1000000 := hn.2
  clear hr hc hn hx0
  go_enter Tryd.func64, Tryd.ntmps64
  go_wp2
  go_loop [3, 4] (fun v i => ∃ k : Nat, 1 ≤ k ∧ k ≤ n ∧ i = .int .i64 (k : Int) ∧ v = .int .i64 (minZ xs k)) (fun _ i => n - (intOf i).toNat)
  case atStart => exact ⟨1, by omega, by omega, rfl, by rw [HM1.out]⟩
  case round =>
    obtain ⟨k, hk1, hk, rfl, rfl⟩ := hrel
    by_cases hlt : k < n
    · have hkI : (k : Int) < (n : Int) := by omega
      have hk0 : (0 : Int) ≤ (k : Int) := by omega
      have ck := HC.out k hlt
      have HS : Hid (minZ xs (k + 1) = min (minZ xs k) (xs.getD k 0)) := rfl
      obtain ⟨x, hx⟩ : ∃ x, xs.getD k 0 = x := ⟨_, rfl⟩
      obtain ⟨M, hM⟩ : ∃ M, minZ xs k = M := ⟨_, rfl⟩
      rw [hx] at ck HS
      rw [hM] at HS ⊢
      clear hx hM
      by_cases hl : x < M
      · have HS2 : Hid (minZ xs (k + 1) = x) := by show _ = _; rw [HS.out]; omega
        go_wp2
        go_round
        case rel => exact ⟨k + 1, by omega, by omega, by go_num, by rw [HS2.out]⟩
        case measure => simp [intOf]; omega
      · have HS2 : Hid (minZ xs (k + 1) = M) := by show _ = _; rw [HS.out]; omega
        go_wp2
        go_round
        case rel => exact ⟨k + 1, by omega, by omega, by go_num, by rw [HS2.out]⟩
        case measure => simp [intOf]; omega
    · obtain rfl : n = k := by omega
      go_wp2
      go_ret
      exact ⟨rfl, rfl⟩

set_option maxRecDepth 100000 in
set_option maxHeartbeats 4000000 in
theorem sliceMaxZ (A : Option Addr) (n c : Nat) (xs : List Int) (w : World) (hr : RdI w A n xs) (hn : 0 < n ∧ n ≤ 1000000) :
    Calls Tryd.prog 65 #[.slice A n c] w fun e w' => e = .returned (.int .i64 (maxZ xs n)) ∧ w = w' := by
  obtain ⟨ad, rfl, _, hc⟩ := hr.2 hn.1
  have c0 := hc 0 hn.1
  rw [addZ] at c0
  have HC := Lib.hid hc
  have h1 : ¬ (n : Int) < 1 := by omega
  have hnI : (0 : Int) < (n : Int) := by omega
  have HM1 := Lib.hid (maxZ_one xs)
  obtain ⟨x0, hx0⟩ : ∃ x, xs.getD 0 0 = x := ⟨_, rfl⟩
  rw [hx0] at c0 HM1
  have hn0 : 0 < n := hn.1
  have hnb : n ≤ 1000000 := hn.2
  clear hr hc hn hx0
  go_enter Tryd.func65, Tryd.ntmps65
  go_wp2
  go_loop [3, 4] (fun v i => ∃ k : Nat, 1 ≤ k ∧ k ≤ n ∧ i = .int .i64 (k : Int) ∧ v = .int .i64 (maxZ xs k)) (fun _ i => n - (intOf i).toNat)
  case atStart => exact ⟨1, by omega, by omega, rfl, by rw [HM1.out]⟩
  case round =>
    obtain ⟨k, hk1, hk, rfl, rfl⟩ := hrel
    by_cases hlt : k < n
    · have hkI : (k : Int) < (n : Int) := by omega
      have hk0 : (0 : Int) ≤ (k : Int) := by omega
      have ck := HC.out k hlt
      have HS : Hid (maxZ xs (k + 1) = max (maxZ xs k) (xs.getD k 0)) := rfl
      obtain ⟨x, hx⟩ : ∃ x, xs.getD k 0 = x := ⟨_, rfl⟩
      obtain ⟨M, hM⟩ : ∃ M, maxZ xs k = M := ⟨_, rfl⟩
      rw [hx] at ck HS
      rw [hM] at HS ⊢
      clear hx hM
      by_cases hl : M < x
      · have HS2 : Hid (maxZ xs (k + 1) = x) := by show _ = _; rw [HS.out]; omega
        go_wp2
        go_round
        case rel => exact ⟨k + 1, by omega, by omega, by go_num, by rw [HS2.out]⟩
        case measure => simp [intOf]; omega
      · have HS2 : Hid (maxZ xs (k + 1) = M) := by show _ = _; rw [HS.out]; omega
        go_wp2
        go_round
        case rel => exact ⟨k + 1, by omega, by omega, by go_num, by rw [HS2.out]⟩
        case measure => simp [intOf]; omega
    · obtain rfl : n = k := by omega
      go_wp2
      go_ret
      exact ⟨rfl, rfl⟩

set_option maxRecDepth 100000 in
set_option maxHeartbeats 4000000 in
theorem rangeOf_any (A : Option Addr) (n c : Nat) (xs : List Int) (w : World) (hr : RdI w A n xs) (hn : 0 < n ∧ n ≤ 1000000) :
    Calls Tryd.prog 42 #[.slice A n c] w fun e w' => e = .returned (.agg #[.int .i64 (minZ xs n), .int .i64 (maxZ xs n)]) ∧ Below w.heap.size w w' := by
  have hb0 : Below w.heap.size w (w.alloc (.cells #[.int .i64 0, .int .i64 0] 37)) := (Below.refl _ _).alloc (Nat.le_refl _) _
  have C1 := Lib.hid (sliceMinZ A n c xs _ (hr.below hb0) hn)
  have C2 := Lib.hid (sliceMaxZ A n c xs _ (hr.below hb0) hn)
  obtain ⟨m1, h1⟩ : ∃ m, minZ xs n = m := ⟨_, rfl⟩
  obtain ⟨m2, h2⟩ : ∃ m, maxZ xs n = m := ⟨_, rfl⟩
  rw [h1] at C1 ⊢
  rw [h2] at C2 ⊢
  have HB := Lib.hid hb0
  clear hr h1 h2 hb0
  go_enter Tryd.func42, Tryd.ntmps42
  go_wp2_with fail
  refine C1.out.mono ?_
  rintro e w' ⟨rfl, rfl⟩
  go_wp2_with fail
  refine C2.out.mono ?_
  rintro e w' ⟨rfl, rfl⟩
  go_wp2
  refine bodyPost_ret (v := .agg #[.int .i64 m1, .int .i64 m2]) ?_ rfl ⟨rfl, (Below.refl _ _).alloc (Nat.le_refl _) _⟩
  exact results_cell_row (fn := Tryd.f42) rfl _ _ w.heap.size 37 #[.int .i64 m1, .int .i64 m2] (0, 0) _ rfl (Bk.new w 37 #[.int .i64 m1, .int .i64 m2]) Tryd.underlying37 rfl (by kernel_rfl)

end Go.Proofs.YtpkjkegcdddimaaDoor

