import Derived.Test.YtghpofhpkbgckaaE54
import Derived.Test.YtghpofhpkbgckaaGR

namespace Go.Proofs.Ytghpofhpkbgckaa
open Go.RowKit

def steps (xs : List Int) : List Int := (List.range (xs.length - 1)).map fun k => xs.getD (k + 1) 0 - xs.getD k 0
theorem steps_len (xs : List Int) : (steps xs).length = xs.length - 1 := by simp [steps]
theorem steps_take (xs : List Int) (k : Nat) (hk : k < xs.length - 1) : (steps xs).take (k + 1) = (steps xs).take k ++ [xs.getD (k + 1) 0 - xs.getD k 0] := by
  have hl : k < (steps xs).length := by rw [steps_len]; exact hk
  rw [List.take_succ_eq_append_getElem hl]
  simp [steps]
set_option maxRecDepth 100000 in
set_option maxHeartbeats 2000000 in
theorem stepsOf_any (A : Option Addr) (n c : Nat) (xs : List Int) (w : World) (hr : RdI w A n xs) (hn : n ≤ 1000000) (hx : ∀ x ∈ xs, -1000000000000 ≤ x ∧ x ≤ 1000000000000) :
    Calls Try.prog 69 #[.slice A n c] w (OwnS w (steps xs)) := by
  have HR := Lib.hid hr
  have HX : Hid (∀ k, -1000000000000 ≤ xs.getD k 0 ∧ xs.getD k 0 ≤ 1000000000000) := fun k => getD_bd (by omega) hx k
  have hxl := hr.1
  have HST : Hid (∀ k, k + 1 < n → (steps xs).take (k + 1) = (steps xs).take k ++ [xs.getD (k + 1) 0 - xs.getD k 0]) := fun k hk => steps_take xs k (by omega)
  have HSL : Hid ((steps xs).length = n - 1) := by show _ = _; rw [steps_len, hxl]
  obtain ⟨st, hst⟩ : ∃ st, steps xs = st := ⟨_, rfl⟩
  rw [hst] at HST HSL ⊢
  clear hst hr hx hxl
  obtain ⟨i0, hi0, hza, hzb, hzc⟩ := info_parts intInfo'
  go_enter Try.func69, Try.ntmps69
  go_wp2
  go_loopw [3, 4] (fun p i wr => ∃ k : Nat, k ≤ n - 1 ∧ i = .int .i64 ((k : Int) + 1) ∧ Hid (wr.ownsRow w.heap.size 3 1 p k ((st.take k).map (Value.int .i64))) ∧ Hid (Below w.heap.size w wr)) (fun _ i _ => n - (intOf i).toNat)
  case atStart => exact ⟨0, Nat.zero_le _, rfl, Lib.hid (World.ownsRow_nil _ _ _ _), Lib.hid (Below.refl _ _)⟩
  case round =>
    obtain ⟨k, hk, rfl, HI, HB⟩ := hrel
    obtain ⟨A2, cap2, hp, _, _⟩ := rd_of_own HI.out
    subst hp
    by_cases hlt : k + 1 < n
    · have hkI : (k : Int) + 1 < (n : Int) := by omega
      obtain ⟨ad, rfl, hadb, hca⟩ := HR.out.2 (by omega)
      have hc1 : wr.cell? (ad.add (k + 1)) = some (.int .i64 (xs.getD (k + 1) 0)) := (HB.out.cell (by rw [addBlock]; exact hadb)).trans (hca (k + 1) hlt)
      have hc0 : wr.cell? (ad.add k) = some (.int .i64 (xs.getD k 0)) := (HB.out.cell (by rw [addBlock]; exact hadb)).trans (hca k (by omega))
      have hc1w : w.cell? (ad.add (k + 1)) = some (.int .i64 (xs.getD (k + 1) 0)) := hca (k + 1) hlt
      have hc0w : w.cell? (ad.add k) = some (.int .i64 (xs.getD k 0)) := hca k (by omega)
      clear hca
      have HSN := Lib.hid (HST.out k hlt)
      have b1 := HX.out (k + 1)
      have b0 := HX.out k
      obtain ⟨x, hx⟩ : ∃ x, xs.getD (k + 1) 0 = x := ⟨_, rfl⟩
      obtain ⟨y, hy⟩ : ∃ y, xs.getD k 0 = y := ⟨_, rfl⟩
      rw [hx] at hc1 hc1w HSN b1
      rw [hy] at hc0 hc0w HSN b0
      clear hx hy
      have w1 : IntKind.i64.wrap (x - y) = x - y := IntWalk.i64_in _ (by omega)
      obtain ⟨k1, hk1⟩ : ∃ k1, k + 1 = k1 := ⟨_, rfl⟩
      have hk1I : (k : Int) + 1 = (k1 : Int) := by omega
      rw [hk1] at hc1 hc1w
      rw [hk1I]
      have w2 : IntKind.i64.wrap ((k1 : Int) - 1) = (k : Int) := by rw [← hk1I, show (k : Int) + 1 - 1 = (k : Int) by omega]; exact IntWalk.i64_in _ (by omega)
      have w3 : IntKind.i64.wrap ((k1 : Int) + 1) = (k1 : Int) + 1 := IntWalk.i64_in _ (by omega)
      have hk1n : (k1 : Int) < (n : Int) := by omega
      have hkn : (k : Int) < (n : Int) := by omega
      have hk10 : (0 : Int) ≤ (k1 : Int) := by omega
      have hk00 : (0 : Int) ≤ (k : Int) := by omega
      have hlt1 : k1 < n := by omega
      have hlt0 : k < n := by omega
      have hkk : k < n - 1 := by omega
      have HK1J := Lib.hid hk1
      clear hk1I hkI hk1
      have HSK : Hid (∀ W, Below w.heap.size w W → (fun w' : World => w'.cell? (ad.add k1) = some (.int .i64 x) ∧ w'.cell? (ad.add k) = some (.int .i64 y)) W) := fun W hb => ⟨(hb.cell (by rw [addBlock]; exact hadb)).trans hc1w, (hb.cell (by rw [addBlock]; exact hadb)).trans hc0w⟩
      clear hc1 hc0 hc1w hc0w
      go_wp2
      refine wp_region_held_drew (S := (fun w' : World => w'.cell? (ad.add k1) = some (.int .i64 x) ∧ w'.cell? (ad.add k) = some (.int .i64 y))) (by kernel_rfl) ?_ ?_
      · exact HSK.out _ HB.out.drew
      intro hHeld
      refine wpAnyH_take (i := 0) (v := ?_) rfl (by kernel_rfl) (by kernel_rfl) (by kernel_rfl) (fun _ _ _ h => h) (Or.inl ⟨by rfl, ?_⟩) (by assumption) ?_
      rotate_left
      · intro w hSw; (try dsimp only at hSw); go_simp; (try (with_reducible rfl))
      try simp only [List.getElem_toArray, List.getElem_cons_succ, List.getElem_cons_zero, Act.put, List.setIfInBounds_toArray, List.set_cons_zero, List.set_cons_succ]
      refine wpAnyH_take (i := 1) (v := ?_) rfl (by kernel_rfl) (by kernel_rfl) (by kernel_rfl) (fun _ _ _ h => h) (Or.inl ⟨by rfl, ?_⟩) (by assumption) ?_
      rotate_left
      · intro w hSw; (try dsimp only at hSw); go_simp; (try (with_reducible rfl))
      try simp only [List.getElem_toArray, List.getElem_cons_succ, List.getElem_cons_zero, Act.put, List.setIfInBounds_toArray, List.set_cons_zero, List.set_cons_succ]
      refine wpAnyH_take (i := 2) (v := ?_) rfl (by kernel_rfl) (by kernel_rfl) (by kernel_rfl) (fun _ _ _ h => h) (Or.inl ⟨by rfl, ?_⟩) (by assumption) ?_
      rotate_left
      · intro w hSw; (try dsimp only at hSw); go_simp; (try (with_reducible rfl))
      try simp only [List.getElem_toArray, List.getElem_cons_succ, List.getElem_cons_zero, Act.put, List.setIfInBounds_toArray, List.set_cons_zero, List.set_cons_succ]
      refine wpAnyH_take (i := 3) (v := ?_) rfl (by kernel_rfl) (by kernel_rfl) (by kernel_rfl) (fun _ _ _ h => h) (Or.inl ⟨by rfl, ?_⟩) (by assumption) ?_
      rotate_left
      · intro w hSw; (try dsimp only at hSw); go_simp; (try (with_reducible rfl))
      try simp only [List.getElem_toArray, List.getElem_cons_succ, List.getElem_cons_zero, Act.put, List.setIfInBounds_toArray, List.set_cons_zero, List.set_cons_succ]
      refine wpAnyH_take (i := 4) (v := ?_) rfl (by kernel_rfl) (by kernel_rfl) (by kernel_rfl) (fun _ _ _ h => h) (Or.inl ⟨by rfl, ?_⟩) (by assumption) ?_
      rotate_left
      · intro w hSw; (try dsimp only at hSw); go_simp; (try (with_reducible rfl))
      try simp only [List.getElem_toArray, List.getElem_cons_succ, List.getElem_cons_zero, Act.put, List.setIfInBounds_toArray, List.set_cons_zero, List.set_cons_succ]
      refine wpAnyH_take (i := 5) (v := ?_) rfl (by kernel_rfl) (by kernel_rfl) (by kernel_rfl) (fun _ _ _ h => h) (Or.inl ⟨by rfl, ?_⟩) (by assumption) ?_
      rotate_left
      · intro w hSw; (try dsimp only at hSw); go_simp; (try (with_reducible rfl))
      try simp only [List.getElem_toArray, List.getElem_cons_succ, List.getElem_cons_zero, Act.put, List.setIfInBounds_toArray, List.set_cons_zero, List.set_cons_succ]
      refine wpAnyH_take (i := 6) (v := ?_) rfl (by kernel_rfl) (by kernel_rfl) (by kernel_rfl) (fun _ _ _ h => h) (Or.inl ⟨by rfl, ?_⟩) (by assumption) ?_
      rotate_left
      · intro w hSw; (try dsimp only at hSw); go_simp; (try (with_reducible rfl))
      try simp only [List.getElem_toArray, List.getElem_cons_succ, List.getElem_cons_zero, Act.put, List.setIfInBounds_toArray, List.set_cons_zero, List.set_cons_succ]
      refine wpAnyH_take (i := 7) (v := ?_) rfl (by kernel_rfl) (by kernel_rfl) (by kernel_rfl) (fun _ _ _ h => h) (Or.inl ⟨by rfl, ?_⟩) (by assumption) ?_
      rotate_left
      · intro w hSw; (try dsimp only at hSw); go_simp; (try (with_reducible rfl))
      try simp only [List.getElem_toArray, List.getElem_cons_succ, List.getElem_cons_zero, Act.put, List.setIfInBounds_toArray, List.set_cons_zero, List.set_cons_succ]
      refine wpAnyH_take (i := 8) (v := ?_) rfl (by kernel_rfl) (by kernel_rfl) (by kernel_rfl) (fun _ _ _ h => h) (Or.inl ⟨by rfl, ?_⟩) (by assumption) ?_
      rotate_left
      · intro w hSw; (try dsimp only at hSw); go_simp; (try (with_reducible rfl))
      try simp only [List.getElem_toArray, List.getElem_cons_succ, List.getElem_cons_zero, Act.put, List.setIfInBounds_toArray, List.set_cons_zero, List.set_cons_succ]
      refine wpAnyH_take (i := 9) (v := ?_) rfl (by kernel_rfl) (by kernel_rfl) (by kernel_rfl) (fun _ _ _ h => h) (Or.inl ⟨by rfl, ?_⟩) (by assumption) ?_
      rotate_left
      · intro w hSw; (try dsimp only at hSw); go_simp; (try (with_reducible rfl))
      try simp only [List.getElem_toArray, List.getElem_cons_succ, List.getElem_cons_zero, Act.put, List.setIfInBounds_toArray, List.set_cons_zero, List.set_cons_succ]
      refine wpAnyH_take (i := 10) (v := ?_) rfl (by kernel_rfl) (by kernel_rfl) (by kernel_rfl) (fun _ _ _ h => h) (Or.inl ⟨by rfl, ?_⟩) (by assumption) ?_
      rotate_left
      · intro w hSw; (try dsimp only at hSw); go_simp; (try (with_reducible rfl))
      try simp only [List.getElem_toArray, List.getElem_cons_succ, List.getElem_cons_zero, Act.put, List.setIfInBounds_toArray, List.set_cons_zero, List.set_cons_succ]
      refine wpAnyH_ready (rs := [11]) (by kernel_rfl) (by simp) ?_
      refine AllReadyH.cons rfl (fun K hK => ?_) AllReadyH.nil
      go_simp
      refine hK.out _ _ ?_ (fun hHeld => ?_)
      · clear hK K; exact HSK.out _ (HB.out.drew.alloc HB.out.drew.size _)
      clear hK K
      try simp only [List.getElem_toArray, List.getElem_cons_succ, List.getElem_cons_zero, Act.put, List.setIfInBounds_toArray, List.set_cons_zero, List.set_cons_succ]
      refine wpAnyH_ready (rs := [12]) (by kernel_rfl) (by simp) ?_
      refine AllReadyH.cons rfl (fun K hK => ?_) AllReadyH.nil
      refine step_append_at _ rfl (.tmp 11) (.tmp 22) 22 rfl w.heap.size 3 i0 _ 1 8 Try.underlying22 hi0 hza hzb hzc rfl (by decide) _ k _ rfl (HI.out.drew.alloc _) ⟨wr.heap.size, 0, none⟩ 1 1 [.int .i64 (x - y)] rfl rfl (cell_one_new _ _ _) (by simp [Value.oneCell']) (by simp only [maxLen]; omega) (by omega) (by have := HB.out.drew.size; simp at this ⊢; omega) ?_
      intro v' w4 hown' hgrow _ hat
      obtain ⟨g', cap', rfl⟩ := ownsRow_succ hown'
      have HB4 : Hid (Below w.heap.size w w4) := (HB.out.drew.alloc HB.out.drew.size _).grown hgrow (by have := HB.out.drew.size; simp at this ⊢; omega) (fun z e => (HI.out.lt z e).1)
      have HO4 : Hid (w4.ownsRow w.heap.size 3 1 (.slice (some ⟨g', 0, none⟩) (k + 1) cap') (k + 1) ((st.take (k + 1)).map (Value.int .i64))) := by
        refine Lib.hid ?_
        rw [HSN.out, List.map_append]
        exact hown'
      clear hown' hgrow hat
      refine hK.out _ _ ?_ (fun hHeld => ?_)
      · clear hK K; exact HSK.out _ HB4.out
      clear hK K
      try simp only [List.getElem_toArray, List.getElem_cons_succ, List.getElem_cons_zero, Act.put, List.setIfInBounds_toArray, List.set_cons_zero, List.set_cons_succ]
      refine wpAnyH_take (i := 13) (v := ?_) rfl (by kernel_rfl) (by kernel_rfl) (by kernel_rfl) (fun _ _ _ h => h) (Or.inl ⟨by rfl, ?_⟩) (by assumption) ?_
      rotate_left
      · intro w hSw; (try dsimp only at hSw); go_simp; (try (with_reducible rfl))
      try simp only [List.getElem_toArray, List.getElem_cons_succ, List.getElem_cons_zero, Act.put, List.setIfInBounds_toArray, List.set_cons_zero, List.set_cons_succ]
      refine wpAnyH_done (by kernel_rfl) ?_ _
      clear hHeld HSK
      go_wp2
      go_roundw
      case rel => exact ⟨k + 1, by omega, by rw [← HK1J.out], HO4, HB4⟩
      case measure => simp [intOf]; omega
    · obtain rfl : k = n - 1 := by omega
      have hz := HSL.out
      have h1 := HI.out
      rw [List.take_of_length_le (by omega)] at h1
      have hBB := HB.out
      go_wp2
      go_ret
      exact ⟨⟨_, rfl, by rw [hz]; exact h1⟩, hBB⟩

end Go.Proofs.Ytghpofhpkbgckaa


namespace Go.Proofs.Ytghpofhpkbgckaa
open Go.RowKit

theorem steps_bd {xs : List Int} {B : Int} (hB : 0 ≤ B) (h : ∀ x ∈ xs, -B ≤ x ∧ x ≤ B) : ∀ x ∈ steps xs, -(2 * B) ≤ x ∧ x ≤ 2 * B := by
  intro x hx
  unfold steps at hx
  obtain ⟨k, _, rfl⟩ := List.mem_map.1 hx
  have h1 := getD_bd hB h (k + 1)
  have h2 := getD_bd hB h k
  omega
/-- The differences of an order. -/
def stN (xs : List Int) : Nat → List Int
  | 0 => xs
  | j + 1 => steps (stN xs j)
theorem stN_bd {xs : List Int} (h : ∀ x ∈ xs, -32767 ≤ x ∧ x ≤ 32767) : ∀ j, j ≤ 4 → ∀ x ∈ stN xs j, -600000 ≤ x ∧ x ≤ 600000 := by
  intro j hj
  have h0 : ∀ x ∈ stN xs 0, -32767 ≤ x ∧ x ≤ 32767 := h
  have h1 := steps_bd (B := 32767) (by omega) h0
  have h2 := steps_bd (B := 65534) (by omega) h1
  have h3 := steps_bd (B := 131068) (by omega) h2
  have h4 := steps_bd (B := 262136) (by omega) h3
  rcases (by omega : j = 0 ∨ j = 1 ∨ j = 2 ∨ j = 3 ∨ j = 4) with rfl | rfl | rfl | rfl | rfl
  · intro x hx; have := h0 x hx; omega
  · intro x hx; have := h1 x hx; omega
  · intro x hx; have := h2 x hx; omega
  · intro x hx; have := h3 x hx; omega
  · intro x hx; have := h4 x hx; omega
theorem stN_len (xs : List Int) : ∀ j, (stN xs j).length ≤ xs.length
  | 0 => Nat.le_refl _
  | j + 1 => by show (steps (stN xs j)).length ≤ _; rw [steps_len]; have := stN_len xs j; omega
def difE (xs : List Int) (o : Int) : Int := firstNZ [sigE xs, rngE 1 4 [o]]
def difL (xs : List Int) (o : Int) : List Int := if difE xs o = 0 then stN xs o.toNat else []
set_option maxRecDepth 100000 in
set_option maxHeartbeats 2000000 in
theorem Differences_any (A : Option Addr) (n c : Nat) (xs : List Int) (o : Int) (w : World) (hr : RdI w A n xs) (hn : n ≤ 1000000) :
    Calls Try.prog 17 #[.slice A n c, .int .i64 o] w (RdRes w (difE xs o) (difL xs o).length (difL xs o)) := by
  have HR := Lib.hid hr
  have CS := Lib.hid (checkSignal_any A n c xs w hr (by omega))
  have HE : Hid (difE xs o = firstNZ [sigE xs, rngE 1 4 [o]]) := rfl
  have HL : Hid (difL xs o = if difE xs o = 0 then stN xs o.toNat else []) := rfl
  have HOK : Hid (difE xs o = 0 → (∀ x ∈ xs, -32767 ≤ x ∧ x ≤ 32767) ∧ (1 ≤ o ∧ o ≤ 4) ∧ n ≤ 400) := fun h => by
    have h2 := sigE_zero (firstNZ_zero h (sigE xs) (by simp))
    rw [hr.1] at h2
    exact ⟨h2.2, rngE_zero (firstNZ_zero h (rngE 1 4 [o]) (by simp)), h2.1⟩
  obtain ⟨L, hL⟩ : ∃ L, difL xs o = L := ⟨_, rfl⟩
  obtain ⟨E, hE⟩ : ∃ E, difE xs o = E := ⟨_, rfl⟩
  rw [hL] at HL ⊢
  rw [hE] at HE HL HOK ⊢
  obtain ⟨E1, hE1⟩ : ∃ E, sigE xs = E := ⟨_, rfl⟩
  have CF := Lib.hid (fun a b W (ha : W.cell? a = some (.int .i64 1)) (hb : W.cell? b = some (.int .i64 4)) => from1_any o 1 4 a b W ha hb)
  obtain ⟨E2, hE2⟩ : ∃ E, rngE 1 4 [o] = E := ⟨_, rfl⟩
  rw [hE1] at HE CS
  rw [hE2] at HE CF
  clear hL hE hE1 hE2 hr
  go_enter Try.func17, Try.ntmps17
  go_wp2_with fail
  refine CS.out.mono ?_
  rintro e w1 ⟨rfl, hb1⟩
  have B1 := Lib.hid hb1
  clear hb1 CS
  go_wp2_with fail
  refine (from_any 1 4 _).mono ?_
  rintro e w' ⟨rfl, rfl⟩
  go_wp2_with fail
  refine (CF.out _ _ _ ?_ ?_).mono ?_
  · simp [go_sem]
  · simp [go_sem]
  rintro e w' ⟨rfl, rfl⟩
  go_wp2_with fail
  refine (firstError2 (E1 := E1) (E2 := E2) (F := E) HE.out.symm _ _ ?_ ?_).mono ?_
  · simp [go_sem]
  · simp [go_sem]
  rintro e w' ⟨rfl, rfl⟩
  have B3 := Lib.hid (B1.out.trans ((below3 w1 (.cells #[.int .i64 1] 3) (.cells #[.int .i64 4] 3) (.cells #[.int .i64 E1, .int .i64 E2] 29)).mono B1.out.size))
  obtain ⟨W3, hW3⟩ : ∃ W3, ((w1.alloc (.cells #[.int .i64 1] 3)).alloc (.cells #[.int .i64 4] 3)).alloc (.cells #[.int .i64 E1, .int .i64 E2] 29) = W3 := ⟨_, rfl⟩
  rw [hW3] at B3 ⊢
  clear hW3 HE CF B1
  by_cases h0 : E = 0
  · subst h0
    obtain ⟨hxs, ho, hn4⟩ := HOK.out rfl
    have hL := HL.out
    rw [if_pos rfl] at hL
    obtain ⟨q, hq⟩ := Int.eq_ofNat_of_zero_le (show 0 ≤ o by omega)
    subst hq
    rw [Int.toNat_natCast] at hL
    subst hL
    have HBD := Lib.hid (stN_bd hxs)
    have HLN := Lib.hid (stN_len xs)
    have HXL : Hid (xs.length = n) := HR.out.1
    have hq4 : q ≤ 4 := by omega
    clear HOK HL hxs ho
    go_wp2
    go_loopw [7, 20] (fun p i wr => ∃ (j m' c' : Nat) (A' : Option Addr), j ≤ q ∧ i = .int .i64 j ∧ p = .slice A' m' c' ∧ Hid (RdI wr A' m' (stN xs j)) ∧ Hid (Below w.heap.size w wr)) (fun _ i _ => q - (intOf i).toNat)
    case atStart => exact ⟨0, n, c, A, Nat.zero_le _, rfl, rfl, HR.out.below B3.out, B3.out⟩
    case round =>
      obtain ⟨j, m', c', A', hj, rfl, rfl, HI, HB⟩ := hrel
      by_cases hlt : j < q
      · have hjI : (j : Int) < (q : Int) := by omega
        have hm' : m' ≤ 1000000 := by have h1 := HI.out.1; have h2 := HLN.out j; have h3 := HXL.out; omega
        have CT := Lib.hid (stepsOf_any A' m' c' (stN xs j) wr HI.out hm' (fun x hx => by have := HBD.out j (by omega) x hx; omega))
        go_wp2_with fail
        refine CT.out.mono ?_
        rintro e w5 ⟨⟨v, rfl, hown⟩, hb5⟩
        obtain ⟨A5, c5, rfl, _, hr5⟩ := rd_of_own hown
        have HI5 : Hid (RdI w5 A5 (steps (stN xs j)).length (stN xs (j + 1))) := hr5
        have HB5 : Hid (Below w.heap.size w w5) := HB.out.trans (hb5.mono HB.out.size)
        clear hown hr5 hb5 CT
        obtain ⟨m5, hm5⟩ : ∃ m, (steps (stN xs j)).length = m := ⟨_, rfl⟩
        rw [hm5] at HI5 ⊢
        clear hm5
        go_wp2
        go_roundw
        case rel => exact ⟨j + 1, m5, c5, A5, by omega, by go_num, rfl, HI5, HB5⟩
        case measure => simp [intOf]; omega
      · obtain rfl : q = j := by omega
        have hjI : ¬ (q : Int) < (q : Int) := by omega
        clear hlt
        go_wp2
        go_ret2
        have h1 := HI.out.1
        exact ⟨⟨A', c', by rw [h1]; rfl, by rw [h1]; exact HI.out⟩, HB.out⟩
  · have d1 : (E != 0) = true := by rw [bne_iff_ne]; exact h0
    have hL := HL.out
    rw [if_neg h0] at hL
    subst hL
    clear HOK HL h0
    go_wp2
    go_ret2
    exact ⟨⟨none, 0, rfl, ⟨rfl, fun h => absurd h (by simp)⟩⟩, B3.out⟩
set_option maxRecDepth 100000 in
set_option maxHeartbeats 4000000 in
theorem refDifferences_any (A : Option Addr) (n c : Nat) (xs : List Int) (q : Nat) (w : World) (hr : RdI w A n xs) (hn : n ≤ 400) (hA : A = none → n = 0 ∧ c = 0) (hxs : ∀ x ∈ xs, -32767 ≤ x ∧ x ≤ 32767) (hq4 : q ≤ 4) :
    Calls Try.prog 22 #[.slice A n c, .int .i64 (q : Int)] w (RdOne w (stN xs q).length (stN xs q)) := by
  have CC := Lib.hid (copyInts_any A n c xs w hA hr (by omega))
  have HBD := Lib.hid (stN_bd hxs)
  have HLN := Lib.hid (stN_len xs)
  have HXL : Hid (xs.length = n) := hr.1
  clear hr hA hxs
  obtain ⟨i0, hi0, hza, hzb, hzc⟩ := info_parts intInfo'
  go_enter Try.func22, Try.ntmps22
  go_wp2_with fail
  refine CC.out.mono ?_
  rintro e w1 ⟨⟨v1, rfl, hown1⟩, hb1⟩
  obtain ⟨A1, c1, rfl, _, hr1⟩ := rd_of_own hown1
  have HI0 := Lib.hid hr1
  have HB0 := Lib.hid hb1
  obtain ⟨m1, hm1⟩ : ∃ m, xs.length = m := ⟨_, rfl⟩
  rw [hm1] at HI0 ⊢
  clear hown1 hr1 hb1 CC hm1
  go_wp2
  go_loopw [5, 6] (fun p i W1 => ∃ (j m' c' : Nat) (A' : Option Addr), j ≤ q ∧ i = .int .i64 j ∧ p = .slice A' m' c' ∧ Hid (RdI W1 A' m' (stN xs j)) ∧ Hid (Below w.heap.size w W1)) (fun _ i _ => q - (intOf i).toNat)
  case atStart => exact ⟨0, m1, c1, A1, Nat.zero_le _, rfl, rfl, HI0, HB0⟩
  case round =>
    obtain ⟨j, n, c, A, hj, rfl, rfl, HR, HB1⟩ := hrel
    obtain ⟨W1, hW1⟩ : ∃ W, W = wr := ⟨_, rfl⟩
    subst hW1
    by_cases hlj : j < q
    · have hjI : (j : Int) < (q : Int) := by omega
      have hn' : n ≤ 1000000 := by have h1 := HR.out.1; have h2 := HLN.out j; have h3 := HXL.out; omega
      have HX : Hid (∀ k, -1000000000000 ≤ (stN xs j).getD k 0 ∧ (stN xs j).getD k 0 ≤ 1000000000000) := fun k => getD_bd (by omega) (fun x hx => by have := HBD.out j (by omega) x hx; omega) k
      have HST : Hid (∀ k, k + 1 < n → (steps (stN xs j)).take (k + 1) = (steps (stN xs j)).take k ++ [(stN xs j).getD (k + 1) 0 - (stN xs j).getD k 0]) := fun k hk => steps_take (stN xs j) k (by have := HR.out.1; omega)
      have HSL : Hid ((steps (stN xs j)).length = n - 1) := by show _ = _; rw [steps_len, HR.out.1]
      have HSN0 : Hid (stN xs (j + 1) = steps (stN xs j)) := rfl
      obtain ⟨st, hst⟩ : ∃ st, steps (stN xs j) = st := ⟨_, rfl⟩
      rw [hst] at HST HSL HSN0
      clear hst
      obtain ⟨ys, hys⟩ : ∃ ys, stN xs j = ys := ⟨_, rfl⟩
      rw [hys] at HX HST HR
      clear hys
      go_wp2
      go_loopw [7, 8] (fun p i wr => ∃ k : Nat, k ≤ n - 1 ∧ i = .int .i64 ((k : Int) + 1) ∧ Hid (wr.ownsRow W1.heap.size 3 1 p k ((st.take k).map (Value.int .i64))) ∧ Hid (Below W1.heap.size W1 wr)) (fun _ i _ => n - (intOf i).toNat)
      case atStart => exact ⟨0, Nat.zero_le _, rfl, Lib.hid (World.ownsRow_nil _ _ _ _), Lib.hid (Below.refl _ _)⟩
      case round =>
        obtain ⟨k, hk, rfl, HI, HB⟩ := hrel
        obtain ⟨A2, cap2, hp, _, _⟩ := rd_of_own HI.out
        subst hp
        by_cases hlt : k + 1 < n
        · have hkI : (k : Int) + 1 < (n : Int) := by omega
          obtain ⟨ad, rfl, hadb, hca⟩ := HR.out.2 (by omega)
          have hc1w : W1.cell? (ad.add (k + 1)) = some (.int .i64 (ys.getD (k + 1) 0)) := hca (k + 1) hlt
          have hc0w : W1.cell? (ad.add k) = some (.int .i64 (ys.getD k 0)) := hca k (by omega)
          clear hca
          have HSN := Lib.hid (HST.out k hlt)
          have b1 := HX.out (k + 1)
          have b0 := HX.out k
          obtain ⟨x, hx⟩ : ∃ x, ys.getD (k + 1) 0 = x := ⟨_, rfl⟩
          obtain ⟨y, hy⟩ : ∃ y, ys.getD k 0 = y := ⟨_, rfl⟩
          rw [hx] at hc1w HSN b1
          rw [hy] at hc0w HSN b0
          clear hx hy
          have w1 : IntKind.i64.wrap (x - y) = x - y := IntWalk.i64_in _ (by omega)
          obtain ⟨k1, hk1⟩ : ∃ k1, k + 1 = k1 := ⟨_, rfl⟩
          have hk1I : (k : Int) + 1 = (k1 : Int) := by omega
          rw [hk1] at hc1w
          rw [hk1I]
          have w2 : IntKind.i64.wrap ((k1 : Int) - 1) = (k : Int) := by rw [← hk1I, show (k : Int) + 1 - 1 = (k : Int) by omega]; exact IntWalk.i64_in _ (by omega)
          have w3 : IntKind.i64.wrap ((k1 : Int) + 1) = (k1 : Int) + 1 := IntWalk.i64_in _ (by omega)
          have hk1n : (k1 : Int) < (n : Int) := by omega
          have hkn : (k : Int) < (n : Int) := by omega
          have hk10 : (0 : Int) ≤ (k1 : Int) := by omega
          have hk00 : (0 : Int) ≤ (k : Int) := by omega
          have hlt1 : k1 < n := by omega
          have hlt0 : k < n := by omega
          have hkk : k < n - 1 := by omega
          have HK1J := Lib.hid hk1
          clear hk1I hkI hk1
          have HSK : Hid (∀ W, Below W1.heap.size W1 W → (fun w' : World => w'.cell? (ad.add k1) = some (.int .i64 x) ∧ w'.cell? (ad.add k) = some (.int .i64 y)) W) := fun W hb => ⟨(hb.cell (by rw [addBlock]; exact hadb)).trans hc1w, (hb.cell (by rw [addBlock]; exact hadb)).trans hc0w⟩
          clear hc1w hc0w
          go_wp2
          refine wp_region_held_drew (S := (fun w' : World => w'.cell? (ad.add k1) = some (.int .i64 x) ∧ w'.cell? (ad.add k) = some (.int .i64 y))) (by kernel_rfl) ?_ ?_
          · exact HSK.out _ HB.out.drew
          intro hHeld
          refine wpAnyH_take (i := 0) (v := ?_) rfl (by kernel_rfl) (by kernel_rfl) (by kernel_rfl) (fun _ _ _ h => h) (Or.inl ⟨by rfl, ?_⟩) (by assumption) ?_
          rotate_left
          · intro w hSw; (try dsimp only at hSw); go_simp; (try (with_reducible rfl))
          try simp only [List.getElem_toArray, List.getElem_cons_succ, List.getElem_cons_zero, Act.put, List.setIfInBounds_toArray, List.set_cons_zero, List.set_cons_succ]
          refine wpAnyH_take (i := 1) (v := ?_) rfl (by kernel_rfl) (by kernel_rfl) (by kernel_rfl) (fun _ _ _ h => h) (Or.inl ⟨by rfl, ?_⟩) (by assumption) ?_
          rotate_left
          · intro w hSw; (try dsimp only at hSw); go_simp; (try (with_reducible rfl))
          try simp only [List.getElem_toArray, List.getElem_cons_succ, List.getElem_cons_zero, Act.put, List.setIfInBounds_toArray, List.set_cons_zero, List.set_cons_succ]
          refine wpAnyH_take (i := 2) (v := ?_) rfl (by kernel_rfl) (by kernel_rfl) (by kernel_rfl) (fun _ _ _ h => h) (Or.inl ⟨by rfl, ?_⟩) (by assumption) ?_
          rotate_left
          · intro w hSw; (try dsimp only at hSw); go_simp; (try (with_reducible rfl))
          try simp only [List.getElem_toArray, List.getElem_cons_succ, List.getElem_cons_zero, Act.put, List.setIfInBounds_toArray, List.set_cons_zero, List.set_cons_succ]
          refine wpAnyH_take (i := 3) (v := ?_) rfl (by kernel_rfl) (by kernel_rfl) (by kernel_rfl) (fun _ _ _ h => h) (Or.inl ⟨by rfl, ?_⟩) (by assumption) ?_
          rotate_left
          · intro w hSw; (try dsimp only at hSw); go_simp; (try (with_reducible rfl))
          try simp only [List.getElem_toArray, List.getElem_cons_succ, List.getElem_cons_zero, Act.put, List.setIfInBounds_toArray, List.set_cons_zero, List.set_cons_succ]
          refine wpAnyH_take (i := 4) (v := ?_) rfl (by kernel_rfl) (by kernel_rfl) (by kernel_rfl) (fun _ _ _ h => h) (Or.inl ⟨by rfl, ?_⟩) (by assumption) ?_
          rotate_left
          · intro w hSw; (try dsimp only at hSw); go_simp; (try (with_reducible rfl))
          try simp only [List.getElem_toArray, List.getElem_cons_succ, List.getElem_cons_zero, Act.put, List.setIfInBounds_toArray, List.set_cons_zero, List.set_cons_succ]
          refine wpAnyH_take (i := 5) (v := ?_) rfl (by kernel_rfl) (by kernel_rfl) (by kernel_rfl) (fun _ _ _ h => h) (Or.inl ⟨by rfl, ?_⟩) (by assumption) ?_
          rotate_left
          · intro w hSw; (try dsimp only at hSw); go_simp; (try (with_reducible rfl))
          try simp only [List.getElem_toArray, List.getElem_cons_succ, List.getElem_cons_zero, Act.put, List.setIfInBounds_toArray, List.set_cons_zero, List.set_cons_succ]
          refine wpAnyH_take (i := 6) (v := ?_) rfl (by kernel_rfl) (by kernel_rfl) (by kernel_rfl) (fun _ _ _ h => h) (Or.inl ⟨by rfl, ?_⟩) (by assumption) ?_
          rotate_left
          · intro w hSw; (try dsimp only at hSw); go_simp; (try (with_reducible rfl))
          try simp only [List.getElem_toArray, List.getElem_cons_succ, List.getElem_cons_zero, Act.put, List.setIfInBounds_toArray, List.set_cons_zero, List.set_cons_succ]
          refine wpAnyH_take (i := 7) (v := ?_) rfl (by kernel_rfl) (by kernel_rfl) (by kernel_rfl) (fun _ _ _ h => h) (Or.inl ⟨by rfl, ?_⟩) (by assumption) ?_
          rotate_left
          · intro w hSw; (try dsimp only at hSw); go_simp; (try (with_reducible rfl))
          try simp only [List.getElem_toArray, List.getElem_cons_succ, List.getElem_cons_zero, Act.put, List.setIfInBounds_toArray, List.set_cons_zero, List.set_cons_succ]
          refine wpAnyH_take (i := 8) (v := ?_) rfl (by kernel_rfl) (by kernel_rfl) (by kernel_rfl) (fun _ _ _ h => h) (Or.inl ⟨by rfl, ?_⟩) (by assumption) ?_
          rotate_left
          · intro w hSw; (try dsimp only at hSw); go_simp; (try (with_reducible rfl))
          try simp only [List.getElem_toArray, List.getElem_cons_succ, List.getElem_cons_zero, Act.put, List.setIfInBounds_toArray, List.set_cons_zero, List.set_cons_succ]
          refine wpAnyH_take (i := 9) (v := ?_) rfl (by kernel_rfl) (by kernel_rfl) (by kernel_rfl) (fun _ _ _ h => h) (Or.inl ⟨by rfl, ?_⟩) (by assumption) ?_
          rotate_left
          · intro w hSw; (try dsimp only at hSw); go_simp; (try (with_reducible rfl))
          try simp only [List.getElem_toArray, List.getElem_cons_succ, List.getElem_cons_zero, Act.put, List.setIfInBounds_toArray, List.set_cons_zero, List.set_cons_succ]
          refine wpAnyH_take (i := 10) (v := ?_) rfl (by kernel_rfl) (by kernel_rfl) (by kernel_rfl) (fun _ _ _ h => h) (Or.inl ⟨by rfl, ?_⟩) (by assumption) ?_
          rotate_left
          · intro w hSw; (try dsimp only at hSw); go_simp; (try (with_reducible rfl))
          try simp only [List.getElem_toArray, List.getElem_cons_succ, List.getElem_cons_zero, Act.put, List.setIfInBounds_toArray, List.set_cons_zero, List.set_cons_succ]
          refine wpAnyH_ready (rs := [11]) (by kernel_rfl) (by simp) ?_
          refine AllReadyH.cons rfl (fun K hK => ?_) AllReadyH.nil
          go_simp
          refine hK.out _ _ ?_ (fun hHeld => ?_)
          · clear hK K; exact HSK.out _ (HB.out.drew.alloc HB.out.drew.size _)
          clear hK K
          try simp only [List.getElem_toArray, List.getElem_cons_succ, List.getElem_cons_zero, Act.put, List.setIfInBounds_toArray, List.set_cons_zero, List.set_cons_succ]
          refine wpAnyH_ready (rs := [12]) (by kernel_rfl) (by simp) ?_
          refine AllReadyH.cons rfl (fun K hK => ?_) AllReadyH.nil
          refine step_append_at _ rfl (.tmp 22) (.tmp 33) 22 rfl W1.heap.size 3 i0 _ 1 8 Try.underlying22 hi0 hza hzb hzc rfl (by decide) _ k _ rfl (HI.out.drew.alloc _) ⟨wr.heap.size, 0, none⟩ 1 1 [.int .i64 (x - y)] rfl rfl (cell_one_new _ _ _) (by simp [Value.oneCell']) (by simp only [maxLen]; omega) (by omega) (by have := HB.out.drew.size; simp at this ⊢; omega) ?_
          intro v' w4 hown' hgrow _ hat
          obtain ⟨g', cap', rfl⟩ := ownsRow_succ hown'
          have HB4 : Hid (Below W1.heap.size W1 w4) := (HB.out.drew.alloc HB.out.drew.size _).grown hgrow (by have := HB.out.drew.size; simp at this ⊢; omega) (fun z e => (HI.out.lt z e).1)
          have HO4 : Hid (w4.ownsRow W1.heap.size 3 1 (.slice (some ⟨g', 0, none⟩) (k + 1) cap') (k + 1) ((st.take (k + 1)).map (Value.int .i64))) := by
            refine Lib.hid ?_
            rw [HSN.out, List.map_append]
            exact hown'
          clear hown' hgrow hat
          refine hK.out _ _ ?_ (fun hHeld => ?_)
          · clear hK K; exact HSK.out _ HB4.out
          clear hK K
          try simp only [List.getElem_toArray, List.getElem_cons_succ, List.getElem_cons_zero, Act.put, List.setIfInBounds_toArray, List.set_cons_zero, List.set_cons_succ]
          refine wpAnyH_take (i := 13) (v := ?_) rfl (by kernel_rfl) (by kernel_rfl) (by kernel_rfl) (fun _ _ _ h => h) (Or.inl ⟨by rfl, ?_⟩) (by assumption) ?_
          rotate_left
          · intro w hSw; (try dsimp only at hSw); go_simp; (try (with_reducible rfl))
          try simp only [List.getElem_toArray, List.getElem_cons_succ, List.getElem_cons_zero, Act.put, List.setIfInBounds_toArray, List.set_cons_zero, List.set_cons_succ]
          refine wpAnyH_done (by kernel_rfl) ?_ _
          clear hHeld HSK
          go_wp2
          go_roundw
          case rel => exact ⟨k + 1, by omega, by rw [← HK1J.out], HO4, HB4⟩
          case measure => simp [intOf]; omega
        · obtain rfl : k = n - 1 := by omega
          have HFI : Hid (RdI wr A2 (n - 1) (stN xs (j + 1))) := by
            have h1 := HI.out
            have hz := HSL.out
            rw [List.take_of_length_le (by omega)] at h1
            obtain ⟨A3, c3, he, _, h3⟩ := rd_of_own h1
            injection he with e1 e2 e3
            subst e1
            show RdI _ _ _ _
            rw [HSN0.out]
            exact h3
          have HFB : Hid (Below w.heap.size w wr) := HB1.out.trans (HB.out.mono HB1.out.size)
          clear HI HB
          go_wp2
          go_roundw
          case rel => exact ⟨j + 1, n - 1, cap2, A2, by omega, by go_num, rfl, HFI, HFB⟩
          case measure => simp [intOf]; omega
    · obtain rfl : q = j := by omega
      have hjI : ¬ (q : Int) < (q : Int) := by omega
      clear hlj
      go_wp2
      go_ret
      have h1 := HR.out.1
      exact ⟨⟨A, c, by rw [h1]; rfl, by rw [h1]; exact HR.out⟩, HB1.out⟩

end Go.Proofs.Ytghpofhpkbgckaa


namespace Go.Proofs.Ytghpofhpkbgckaa
open Go.RowKit

theorem bk2v {W : World} {g : Nat} {t : TypeId} {x y : Value} (h : Bk W g t #[x, y]) : W.cell? ⟨g, 0, none⟩ = some x ∧ W.cell? ⟨g, 1, none⟩ = some y ∧ W.frozen? ⟨g, 0, none⟩ = false ∧ W.frozen? ⟨g, 1, none⟩ = false :=
  ⟨by rw [h.cell]; rfl, by rw [h.cell]; rfl, h.frozen 0, h.frozen 1⟩
set_option maxRecDepth 100000 in
set_option maxHeartbeats 4000000 in
theorem rmw_SD (d f : Int) (A : Option Addr) (n c : Nat) (o : Int) (xs : List Int) (w : World) (Sg : Int) (hS : ¬ Sg = 0) (D : Int) (hD : ¬ D = 0) (hr : RdI w A n xs) (hn : n ≤ 402) (hsh : shortB n = true) (hA : A = none → n = 0 ∧ c = 0)
    (CRm : ∀ W, Calls Try.prog 15 #[.int .i64 d, .int .i64 f] W fun e w' => e = .returned (.tuple #[.agg #[.int .i64 0, .int .i64 0], .int .i64 D]) ∧ Below W.heap.size W w')
    (CMx : ∀ W, Calls Try.prog 16 #[.int .i64 d] W fun e w' => e = .returned (.tuple #[.agg #[.int .i64 0, .int .i64 0], .int .i64 D]) ∧ Below W.heap.size W w')
    (CDf : ∀ B cb W, RdI W B n xs → Calls Try.prog 17 #[.slice B n cb, .int .i64 o] W (RdRes W (Sg) 0 []))
    (CSg : ∀ W, RdI W A n xs → Calls Try.prog 19 #[.slice A n c] W fun e w' => e = .returned (.int .i64 Sg) ∧ W = w')
    (CD : ∀ W, Calls Try.prog 23 #[.int .i64 d] W fun e w' => e = .returned (.int .i64 D) ∧ W = w')
    : Calls Try.prog 3 #[.int .i64 d, .int .i64 f, .agg #[.slice A n c, .int .i64 o]] w fun e w' => e = .returned (.bool true) ∧ Below w.heap.size w w' := by
  have CC : Hid (∀ W, Below w.heap.size w W → Calls Try.prog 18 #[.slice A n c] W (OwnS W xs)) := fun W hb => copyInts_any A n c xs W hA (hr.below hb) (by omega)
  have CCL : Hid (xs.length = n) := hr.1
  have CSh := Lib.hid (fun W => short_any A n c W (by omega))
  rw [hsh] at CSh
  have CRm := Lib.hid CRm
  have CMx := Lib.hid CMx
  have CDf := Lib.hid CDf
  have CSg := Lib.hid CSg
  have CD := Lib.hid CD
  have dS0 := neF hS
  have dS1 := neT hS
  clear hS
  have dD0 := neF hD
  have dD1 := neT hD
  clear hD
  have X0 := Lib.hid (hr.below (below1 w (.cells #[.slice A n c, .int .i64 o] 24)))
  have K0 := Lib.hid (Bk.new w 24 #[.slice A n c, .int .i64 o])
  have B0 := Lib.hid (below1 w (.cells #[.slice A n c, .int .i64 o] 24))
  clear hr hsh hA
  go_enter Try.func3, Try.ntmps3
  go_wp2_with fail
  refine (awake_any _).mono ?_
  rintro e w1 ⟨rfl, hb⟩
  have X1 := Lib.hid (X0.out.below hb)
  have K1 := Lib.hid (K0.out.later hb)
  have B1 := Lib.hid (B0.out.trans (hb.mono B0.out.size))
  clear X0 K0 B0 hb
  obtain ⟨d0, d1, _, _⟩ := bk2v K1.out
  go_wp2_with fail
  refine (CSh.out _).mono ?_
  rintro e w' ⟨rfl, rfl⟩
  clear d0 d1
  go_wp2_with fail
  refine (CRm.out _).mono ?_
  rintro e w2 ⟨rfl, hb⟩
  have X2 := Lib.hid (X1.out.below hb)
  have K2 := Lib.hid (K1.out.later hb)
  have B2 := Lib.hid (B1.out.trans (hb.mono B1.out.size))
  clear X1 K1 B1 hb
  have X3 := Lib.hid (X2.out.below (below1 w2 (.cells #[.int .i64 0, .int .i64 0] 28)))
  have K3 := Lib.hid (K2.out.alloc (.cells #[.int .i64 0, .int .i64 0] 28))
  have B3 := Lib.hid (B2.out.alloc B2.out.size (.cells #[.int .i64 0, .int .i64 0] 28))
  clear X2 K2 B2
  have P3 := Lib.hid (Bk.new w2 28 #[.int .i64 0, .int .i64 0])
  go_wp2_with fail
  refine (CMx.out _).mono ?_
  rintro e w4 ⟨rfl, hb⟩
  have X4 := Lib.hid (X3.out.below hb)
  have K4 := Lib.hid (K3.out.later hb)
  have B4 := Lib.hid (B3.out.trans (hb.mono B3.out.size))
  have P4 := Lib.hid (P3.out.later hb)
  clear X3 K3 B3 P3 hb
  have X5 := Lib.hid (X4.out.below (below1 w4 (.cells #[.int .i64 0, .int .i64 0] 28)))
  have K5 := Lib.hid (K4.out.alloc (.cells #[.int .i64 0, .int .i64 0] 28))
  have B5 := Lib.hid (B4.out.alloc B4.out.size (.cells #[.int .i64 0, .int .i64 0] 28))
  have P5 := Lib.hid (P4.out.alloc (.cells #[.int .i64 0, .int .i64 0] 28))
  clear X4 K4 B4 P4
  have M5 := Lib.hid (Bk.new w4 28 #[.int .i64 0, .int .i64 0])
  obtain ⟨d0, d1, _, _⟩ := bk2v K5.out
  go_wp2
  go_region_held3 (fun w' : World => w'.cell? ⟨w.heap.size, 0, none⟩ = some (.slice A n c) ∧ w'.cell? ⟨w.heap.size, 1, none⟩ = some (.int .i64 o)) ((go_split_ands; simp [go_sem, *])) (first
    | (go_at_call 18; refine (CC.out _ B5.out.drew).mono ?_; rintro e wq ⟨⟨vq, rfl, hrowq⟩, hbq⟩; obtain ⟨Aq, cq, rfl, _, hrq⟩ := rd_of_own hrowq; have hxl := CCL.out; rw [hxl] at hrq ⊢; have Kq := (K5.out.drew).later hbq; obtain ⟨d0, d1, _, _⟩ := bk2v Kq)
    | (go_at_call 17; refine (CDf.out Aq cq _ hrq).mono ?_; rintro e w6 ⟨⟨Ay, cy, rfl, hry⟩, hbp⟩; have Kp := Kq.later hbp; obtain ⟨d0, d1, _, _⟩ := bk2v Kp))
  all_goals
    have hb := hbq.trans (hbp.mono hbq.size)
    clear d0 d1 hbq hbp Kq Kp hrq hrowq hxl
    have X6 := Lib.hid (X5.out.drew.below hb)
    have K6 := Lib.hid (K5.out.drew.later hb)
    have B6 := Lib.hid (B5.out.drew.trans (hb.mono B5.out.drew.size))
    have P6 := Lib.hid (P5.out.drew.later hb)
    have M6 := Lib.hid (M5.out.drew.later hb)
    clear hb X5 K5 B5 P5 M5
    have Y6 := Lib.hid hry
    clear hry
    obtain ⟨d0, d1, _, _⟩ := bk2v K6.out
    go_wp2_with fail
    refine (CSg.out _ X6.out).mono ?_
    rintro e w' ⟨rfl, rfl⟩
    clear d0 d1
    go_wp2_with fail
    refine (CD.out _).mono ?_
    rintro e w' ⟨rfl, rfl⟩
    obtain ⟨p0, p1, _, _⟩ := bk2v P6.out
    obtain ⟨q0, q1, _, _⟩ := bk2v M6.out
    go_wp2
    go_ret
    exact ⟨by simp, B6.out⟩

set_option maxRecDepth 100000 in
set_option maxHeartbeats 4000000 in
theorem rmw_SF (d f : Int) (A : Option Addr) (n c : Nat) (o : Int) (xs : List Int) (w : World) (Sg : Int) (hS : ¬ Sg = 0) (Fr : Int) (hF : ¬ Fr = 0) (mN mD : Int) (hr : RdI w A n xs) (hn : n ≤ 402) (hsh : shortB n = true) (hA : A = none → n = 0 ∧ c = 0)
    (CRm : ∀ W, Calls Try.prog 15 #[.int .i64 d, .int .i64 f] W fun e w' => e = .returned (.tuple #[.agg #[.int .i64 0, .int .i64 0], .int .i64 Fr]) ∧ Below W.heap.size W w')
    (CMx : ∀ W, Calls Try.prog 16 #[.int .i64 d] W fun e w' => e = .returned (.tuple #[.agg #[.int .i64 mN, .int .i64 mD], .int .i64 0]) ∧ Below W.heap.size W w')
    (CDf : ∀ B cb W, RdI W B n xs → Calls Try.prog 17 #[.slice B n cb, .int .i64 o] W (RdRes W (Sg) 0 []))
    (CSg : ∀ W, RdI W A n xs → Calls Try.prog 19 #[.slice A n c] W fun e w' => e = .returned (.int .i64 Sg) ∧ W = w')
    (CD : ∀ W, Calls Try.prog 23 #[.int .i64 d] W fun e w' => e = .returned (.int .i64 0) ∧ W = w')
    (CRM : ∀ W, Calls Try.prog 24 #[.int .i64 d] W fun e w' => e = .returned (.agg #[.int .i64 mN, .int .i64 mD]) ∧ Below W.heap.size W w')
    (CFr : ∀ W, Calls Try.prog 25 #[.int .i64 f] W fun e w' => e = .returned (.int .i64 Fr) ∧ W = w')
    : Calls Try.prog 3 #[.int .i64 d, .int .i64 f, .agg #[.slice A n c, .int .i64 o]] w fun e w' => e = .returned (.bool true) ∧ Below w.heap.size w w' := by
  have CC : Hid (∀ W, Below w.heap.size w W → Calls Try.prog 18 #[.slice A n c] W (OwnS W xs)) := fun W hb => copyInts_any A n c xs W hA (hr.below hb) (by omega)
  have CCL : Hid (xs.length = n) := hr.1
  have CSh := Lib.hid (fun W => short_any A n c W (by omega))
  rw [hsh] at CSh
  have CRm := Lib.hid CRm
  have CMx := Lib.hid CMx
  have CDf := Lib.hid CDf
  have CSg := Lib.hid CSg
  have CD := Lib.hid CD
  have CRM := Lib.hid CRM
  have CFr := Lib.hid CFr
  have dS0 := neF hS
  have dS1 := neT hS
  clear hS
  have dF0 := neF hF
  have dF1 := neT hF
  clear hF
  have X0 := Lib.hid (hr.below (below1 w (.cells #[.slice A n c, .int .i64 o] 24)))
  have K0 := Lib.hid (Bk.new w 24 #[.slice A n c, .int .i64 o])
  have B0 := Lib.hid (below1 w (.cells #[.slice A n c, .int .i64 o] 24))
  clear hr hsh hA
  go_enter Try.func3, Try.ntmps3
  go_wp2_with fail
  refine (awake_any _).mono ?_
  rintro e w1 ⟨rfl, hb⟩
  have X1 := Lib.hid (X0.out.below hb)
  have K1 := Lib.hid (K0.out.later hb)
  have B1 := Lib.hid (B0.out.trans (hb.mono B0.out.size))
  clear X0 K0 B0 hb
  obtain ⟨d0, d1, _, _⟩ := bk2v K1.out
  go_wp2_with fail
  refine (CSh.out _).mono ?_
  rintro e w' ⟨rfl, rfl⟩
  clear d0 d1
  go_wp2_with fail
  refine (CRm.out _).mono ?_
  rintro e w2 ⟨rfl, hb⟩
  have X2 := Lib.hid (X1.out.below hb)
  have K2 := Lib.hid (K1.out.later hb)
  have B2 := Lib.hid (B1.out.trans (hb.mono B1.out.size))
  clear X1 K1 B1 hb
  have X3 := Lib.hid (X2.out.below (below1 w2 (.cells #[.int .i64 0, .int .i64 0] 28)))
  have K3 := Lib.hid (K2.out.alloc (.cells #[.int .i64 0, .int .i64 0] 28))
  have B3 := Lib.hid (B2.out.alloc B2.out.size (.cells #[.int .i64 0, .int .i64 0] 28))
  clear X2 K2 B2
  have P3 := Lib.hid (Bk.new w2 28 #[.int .i64 0, .int .i64 0])
  go_wp2_with fail
  refine (CMx.out _).mono ?_
  rintro e w4 ⟨rfl, hb⟩
  have X4 := Lib.hid (X3.out.below hb)
  have K4 := Lib.hid (K3.out.later hb)
  have B4 := Lib.hid (B3.out.trans (hb.mono B3.out.size))
  have P4 := Lib.hid (P3.out.later hb)
  clear X3 K3 B3 P3 hb
  have X5 := Lib.hid (X4.out.below (below1 w4 (.cells #[.int .i64 mN, .int .i64 mD] 28)))
  have K5 := Lib.hid (K4.out.alloc (.cells #[.int .i64 mN, .int .i64 mD] 28))
  have B5 := Lib.hid (B4.out.alloc B4.out.size (.cells #[.int .i64 mN, .int .i64 mD] 28))
  have P5 := Lib.hid (P4.out.alloc (.cells #[.int .i64 mN, .int .i64 mD] 28))
  clear X4 K4 B4 P4
  have M5 := Lib.hid (Bk.new w4 28 #[.int .i64 mN, .int .i64 mD])
  obtain ⟨d0, d1, _, _⟩ := bk2v K5.out
  go_wp2
  go_region_held3 (fun w' : World => w'.cell? ⟨w.heap.size, 0, none⟩ = some (.slice A n c) ∧ w'.cell? ⟨w.heap.size, 1, none⟩ = some (.int .i64 o)) ((go_split_ands; simp [go_sem, *])) (first
    | (go_at_call 18; refine (CC.out _ B5.out.drew).mono ?_; rintro e wq ⟨⟨vq, rfl, hrowq⟩, hbq⟩; obtain ⟨Aq, cq, rfl, _, hrq⟩ := rd_of_own hrowq; have hxl := CCL.out; rw [hxl] at hrq ⊢; have Kq := (K5.out.drew).later hbq; obtain ⟨d0, d1, _, _⟩ := bk2v Kq)
    | (go_at_call 17; refine (CDf.out Aq cq _ hrq).mono ?_; rintro e w6 ⟨⟨Ay, cy, rfl, hry⟩, hbp⟩; have Kp := Kq.later hbp; obtain ⟨d0, d1, _, _⟩ := bk2v Kp))
  all_goals
    have hb := hbq.trans (hbp.mono hbq.size)
    clear d0 d1 hbq hbp Kq Kp hrq hrowq hxl
    have X6 := Lib.hid (X5.out.drew.below hb)
    have K6 := Lib.hid (K5.out.drew.later hb)
    have B6 := Lib.hid (B5.out.drew.trans (hb.mono B5.out.drew.size))
    have P6 := Lib.hid (P5.out.drew.later hb)
    have M6 := Lib.hid (M5.out.drew.later hb)
    clear hb X5 K5 B5 P5 M5
    have Y6 := Lib.hid hry
    clear hry
    obtain ⟨d0, d1, _, _⟩ := bk2v K6.out
    go_wp2_with fail
    refine (CSg.out _ X6.out).mono ?_
    rintro e w' ⟨rfl, rfl⟩
    clear d0 d1
    go_wp2_with fail
    refine (CD.out _).mono ?_
    rintro e w' ⟨rfl, rfl⟩
    obtain ⟨p0, p1, _, _⟩ := bk2v P6.out
    obtain ⟨q0, q1, _, _⟩ := bk2v M6.out
    go_wp2
    go_region_held3 (fun w' : World => w'.cell? ⟨w4.heap.size, 0, none⟩ = some (.int .i64 mN) ∧ w'.cell? ⟨w4.heap.size, 1, none⟩ = some (.int .i64 mD)) ((go_split_ands; simp [go_sem, *])) ((go_at_call 24; refine (CRM.out _).mono ?_; rintro e w7 ⟨rfl, hb⟩; have Mp := (M6.out.drew).later hb; obtain ⟨q0, q1, _, _⟩ := bk2v Mp))
    all_goals
      clear p0 p1 q0 q1 Mp
      have X7 := Lib.hid (X6.out.drew.below hb)
      have K7 := Lib.hid (K6.out.drew.later hb)
      have B7 := Lib.hid (B6.out.drew.trans (hb.mono B6.out.drew.size))
      have P7 := Lib.hid (P6.out.drew.later hb)
      have M7 := Lib.hid (M6.out.drew.later hb)
      have Y7 := Lib.hid (Y6.out.drew.below hb)
      clear hb X6 K6 B6 P6 M6 Y6
      go_wp2_with fail
      refine (CFr.out _).mono ?_
      rintro e w' ⟨rfl, rfl⟩
      obtain ⟨p0, p1, _, _⟩ := bk2v P7.out
      go_wp2
      go_ret
      exact ⟨by simp, B7.out⟩

set_option maxRecDepth 100000 in
set_option maxHeartbeats 4000000 in
theorem rmw_Sk (d f : Int) (A : Option Addr) (n c : Nat) (o : Int) (xs : List Int) (w : World) (Sg : Int) (hS : ¬ Sg = 0) (mN mD : Int) (rN rD : Int) (hr : RdI w A n xs) (hn : n ≤ 402) (hsh : shortB n = true) (hA : A = none → n = 0 ∧ c = 0)
    (CRm : ∀ W, Calls Try.prog 15 #[.int .i64 d, .int .i64 f] W fun e w' => e = .returned (.tuple #[.agg #[.int .i64 rN, .int .i64 rD], .int .i64 0]) ∧ Below W.heap.size W w')
    (CMx : ∀ W, Calls Try.prog 16 #[.int .i64 d] W fun e w' => e = .returned (.tuple #[.agg #[.int .i64 mN, .int .i64 mD], .int .i64 0]) ∧ Below W.heap.size W w')
    (CDf : ∀ B cb W, RdI W B n xs → Calls Try.prog 17 #[.slice B n cb, .int .i64 o] W (RdRes W (Sg) 0 []))
    (CSg : ∀ W, RdI W A n xs → Calls Try.prog 19 #[.slice A n c] W fun e w' => e = .returned (.int .i64 Sg) ∧ W = w')
    (CD : ∀ W, Calls Try.prog 23 #[.int .i64 d] W fun e w' => e = .returned (.int .i64 0) ∧ W = w')
    (CRM : ∀ W, Calls Try.prog 24 #[.int .i64 d] W fun e w' => e = .returned (.agg #[.int .i64 mN, .int .i64 mD]) ∧ Below W.heap.size W w')
    (CFr : ∀ W, Calls Try.prog 25 #[.int .i64 f] W fun e w' => e = .returned (.int .i64 0) ∧ W = w')
    (CRR : ∀ W, Calls Try.prog 26 #[.int .i64 d, .int .i64 f] W fun e w' => e = .returned (.agg #[.int .i64 rN, .int .i64 rD]) ∧ Below W.heap.size W w')
    : Calls Try.prog 3 #[.int .i64 d, .int .i64 f, .agg #[.slice A n c, .int .i64 o]] w fun e w' => e = .returned (.bool true) ∧ Below w.heap.size w w' := by
  have CC : Hid (∀ W, Below w.heap.size w W → Calls Try.prog 18 #[.slice A n c] W (OwnS W xs)) := fun W hb => copyInts_any A n c xs W hA (hr.below hb) (by omega)
  have CCL : Hid (xs.length = n) := hr.1
  have CSh := Lib.hid (fun W => short_any A n c W (by omega))
  rw [hsh] at CSh
  have CRm := Lib.hid CRm
  have CMx := Lib.hid CMx
  have CDf := Lib.hid CDf
  have CSg := Lib.hid CSg
  have CD := Lib.hid CD
  have CRM := Lib.hid CRM
  have CFr := Lib.hid CFr
  have CRR := Lib.hid CRR
  have dS0 := neF hS
  have dS1 := neT hS
  clear hS
  have X0 := Lib.hid (hr.below (below1 w (.cells #[.slice A n c, .int .i64 o] 24)))
  have K0 := Lib.hid (Bk.new w 24 #[.slice A n c, .int .i64 o])
  have B0 := Lib.hid (below1 w (.cells #[.slice A n c, .int .i64 o] 24))
  clear hr hsh hA
  go_enter Try.func3, Try.ntmps3
  go_wp2_with fail
  refine (awake_any _).mono ?_
  rintro e w1 ⟨rfl, hb⟩
  have X1 := Lib.hid (X0.out.below hb)
  have K1 := Lib.hid (K0.out.later hb)
  have B1 := Lib.hid (B0.out.trans (hb.mono B0.out.size))
  clear X0 K0 B0 hb
  obtain ⟨d0, d1, _, _⟩ := bk2v K1.out
  go_wp2_with fail
  refine (CSh.out _).mono ?_
  rintro e w' ⟨rfl, rfl⟩
  clear d0 d1
  go_wp2_with fail
  refine (CRm.out _).mono ?_
  rintro e w2 ⟨rfl, hb⟩
  have X2 := Lib.hid (X1.out.below hb)
  have K2 := Lib.hid (K1.out.later hb)
  have B2 := Lib.hid (B1.out.trans (hb.mono B1.out.size))
  clear X1 K1 B1 hb
  have X3 := Lib.hid (X2.out.below (below1 w2 (.cells #[.int .i64 rN, .int .i64 rD] 28)))
  have K3 := Lib.hid (K2.out.alloc (.cells #[.int .i64 rN, .int .i64 rD] 28))
  have B3 := Lib.hid (B2.out.alloc B2.out.size (.cells #[.int .i64 rN, .int .i64 rD] 28))
  clear X2 K2 B2
  have P3 := Lib.hid (Bk.new w2 28 #[.int .i64 rN, .int .i64 rD])
  go_wp2_with fail
  refine (CMx.out _).mono ?_
  rintro e w4 ⟨rfl, hb⟩
  have X4 := Lib.hid (X3.out.below hb)
  have K4 := Lib.hid (K3.out.later hb)
  have B4 := Lib.hid (B3.out.trans (hb.mono B3.out.size))
  have P4 := Lib.hid (P3.out.later hb)
  clear X3 K3 B3 P3 hb
  have X5 := Lib.hid (X4.out.below (below1 w4 (.cells #[.int .i64 mN, .int .i64 mD] 28)))
  have K5 := Lib.hid (K4.out.alloc (.cells #[.int .i64 mN, .int .i64 mD] 28))
  have B5 := Lib.hid (B4.out.alloc B4.out.size (.cells #[.int .i64 mN, .int .i64 mD] 28))
  have P5 := Lib.hid (P4.out.alloc (.cells #[.int .i64 mN, .int .i64 mD] 28))
  clear X4 K4 B4 P4
  have M5 := Lib.hid (Bk.new w4 28 #[.int .i64 mN, .int .i64 mD])
  obtain ⟨d0, d1, _, _⟩ := bk2v K5.out
  go_wp2
  go_region_held3 (fun w' : World => w'.cell? ⟨w.heap.size, 0, none⟩ = some (.slice A n c) ∧ w'.cell? ⟨w.heap.size, 1, none⟩ = some (.int .i64 o)) ((go_split_ands; simp [go_sem, *])) (first
    | (go_at_call 18; refine (CC.out _ B5.out.drew).mono ?_; rintro e wq ⟨⟨vq, rfl, hrowq⟩, hbq⟩; obtain ⟨Aq, cq, rfl, _, hrq⟩ := rd_of_own hrowq; have hxl := CCL.out; rw [hxl] at hrq ⊢; have Kq := (K5.out.drew).later hbq; obtain ⟨d0, d1, _, _⟩ := bk2v Kq)
    | (go_at_call 17; refine (CDf.out Aq cq _ hrq).mono ?_; rintro e w6 ⟨⟨Ay, cy, rfl, hry⟩, hbp⟩; have Kp := Kq.later hbp; obtain ⟨d0, d1, _, _⟩ := bk2v Kp))
  all_goals
    have hb := hbq.trans (hbp.mono hbq.size)
    clear d0 d1 hbq hbp Kq Kp hrq hrowq hxl
    have X6 := Lib.hid (X5.out.drew.below hb)
    have K6 := Lib.hid (K5.out.drew.later hb)
    have B6 := Lib.hid (B5.out.drew.trans (hb.mono B5.out.drew.size))
    have P6 := Lib.hid (P5.out.drew.later hb)
    have M6 := Lib.hid (M5.out.drew.later hb)
    clear hb X5 K5 B5 P5 M5
    have Y6 := Lib.hid hry
    clear hry
    obtain ⟨d0, d1, _, _⟩ := bk2v K6.out
    go_wp2_with fail
    refine (CSg.out _ X6.out).mono ?_
    rintro e w' ⟨rfl, rfl⟩
    clear d0 d1
    go_wp2_with fail
    refine (CD.out _).mono ?_
    rintro e w' ⟨rfl, rfl⟩
    obtain ⟨p0, p1, _, _⟩ := bk2v P6.out
    obtain ⟨q0, q1, _, _⟩ := bk2v M6.out
    go_wp2
    go_region_held3 (fun w' : World => w'.cell? ⟨w4.heap.size, 0, none⟩ = some (.int .i64 mN) ∧ w'.cell? ⟨w4.heap.size, 1, none⟩ = some (.int .i64 mD)) ((go_split_ands; simp [go_sem, *])) ((go_at_call 24; refine (CRM.out _).mono ?_; rintro e w7 ⟨rfl, hb⟩; have Mp := (M6.out.drew).later hb; obtain ⟨q0, q1, _, _⟩ := bk2v Mp))
    all_goals
      clear p0 p1 q0 q1 Mp
      have X7 := Lib.hid (X6.out.drew.below hb)
      have K7 := Lib.hid (K6.out.drew.later hb)
      have B7 := Lib.hid (B6.out.drew.trans (hb.mono B6.out.drew.size))
      have P7 := Lib.hid (P6.out.drew.later hb)
      have M7 := Lib.hid (M6.out.drew.later hb)
      have Y7 := Lib.hid (Y6.out.drew.below hb)
      clear hb X6 K6 B6 P6 M6 Y6
      go_wp2_with fail
      refine (CFr.out _).mono ?_
      rintro e w' ⟨rfl, rfl⟩
      obtain ⟨p0, p1, _, _⟩ := bk2v P7.out
      go_wp2
      go_region_held3 (fun w' : World => w'.cell? ⟨w2.heap.size, 0, none⟩ = some (.int .i64 rN) ∧ w'.cell? ⟨w2.heap.size, 1, none⟩ = some (.int .i64 rD)) ((go_split_ands; simp [go_sem, *])) ((go_at_call 26; refine (CRR.out _).mono ?_; rintro e w8 ⟨rfl, hb⟩; have Pp := (P7.out.drew).later hb; obtain ⟨p0, p1, _, _⟩ := bk2v Pp))
      all_goals
        clear p0 p1 Pp
        have X8 := Lib.hid (X7.out.drew.below hb)
        have K8 := Lib.hid (K7.out.drew.later hb)
        have B8 := Lib.hid (B7.out.drew.trans (hb.mono B7.out.drew.size))
        have P8 := Lib.hid (P7.out.drew.later hb)
        have M8 := Lib.hid (M7.out.drew.later hb)
        have Y8 := Lib.hid (Y7.out.drew.below hb)
        clear hb X7 K7 B7 P7 M7 Y7
        go_wp2
        go_ret
        exact ⟨by simp, B8.out⟩

set_option maxRecDepth 100000 in
set_option maxHeartbeats 4000000 in
theorem rmw_OD (d f : Int) (A : Option Addr) (n c : Nat) (o : Int) (xs : List Int) (w : World) (D : Int) (hD : ¬ D = 0) (hr : RdI w A n xs) (hn : n ≤ 402) (hsh : shortB n = true) (hA : A = none → n = 0 ∧ c = 0)
    (CRm : ∀ W, Calls Try.prog 15 #[.int .i64 d, .int .i64 f] W fun e w' => e = .returned (.tuple #[.agg #[.int .i64 0, .int .i64 0], .int .i64 D]) ∧ Below W.heap.size W w')
    (CMx : ∀ W, Calls Try.prog 16 #[.int .i64 d] W fun e w' => e = .returned (.tuple #[.agg #[.int .i64 0, .int .i64 0], .int .i64 D]) ∧ Below W.heap.size W w')
    (CDf : ∀ B cb W, RdI W B n xs → Calls Try.prog 17 #[.slice B n cb, .int .i64 o] W (RdRes W (2) 0 []))
    (CSg : ∀ W, RdI W A n xs → Calls Try.prog 19 #[.slice A n c] W fun e w' => e = .returned (.int .i64 0) ∧ W = w')
    (CWi : ∀ W, Calls Try.prog 20 #[.int .i64 o, .int .i64 1, .int .i64 4] W fun e w' => e = .returned (.bool false) ∧ W = w')
    (CD : ∀ W, Calls Try.prog 23 #[.int .i64 d] W fun e w' => e = .returned (.int .i64 D) ∧ W = w')
    : Calls Try.prog 3 #[.int .i64 d, .int .i64 f, .agg #[.slice A n c, .int .i64 o]] w fun e w' => e = .returned (.bool true) ∧ Below w.heap.size w w' := by
  have CC : Hid (∀ W, Below w.heap.size w W → Calls Try.prog 18 #[.slice A n c] W (OwnS W xs)) := fun W hb => copyInts_any A n c xs W hA (hr.below hb) (by omega)
  have CCL : Hid (xs.length = n) := hr.1
  have CSh := Lib.hid (fun W => short_any A n c W (by omega))
  rw [hsh] at CSh
  have CRm := Lib.hid CRm
  have CMx := Lib.hid CMx
  have CDf := Lib.hid CDf
  have CSg := Lib.hid CSg
  have CWi := Lib.hid CWi
  have CD := Lib.hid CD
  have dD0 := neF hD
  have dD1 := neT hD
  clear hD
  have X0 := Lib.hid (hr.below (below1 w (.cells #[.slice A n c, .int .i64 o] 24)))
  have K0 := Lib.hid (Bk.new w 24 #[.slice A n c, .int .i64 o])
  have B0 := Lib.hid (below1 w (.cells #[.slice A n c, .int .i64 o] 24))
  clear hr hsh hA
  go_enter Try.func3, Try.ntmps3
  go_wp2_with fail
  refine (awake_any _).mono ?_
  rintro e w1 ⟨rfl, hb⟩
  have X1 := Lib.hid (X0.out.below hb)
  have K1 := Lib.hid (K0.out.later hb)
  have B1 := Lib.hid (B0.out.trans (hb.mono B0.out.size))
  clear X0 K0 B0 hb
  obtain ⟨d0, d1, _, _⟩ := bk2v K1.out
  go_wp2_with fail
  refine (CSh.out _).mono ?_
  rintro e w' ⟨rfl, rfl⟩
  clear d0 d1
  go_wp2_with fail
  refine (CRm.out _).mono ?_
  rintro e w2 ⟨rfl, hb⟩
  have X2 := Lib.hid (X1.out.below hb)
  have K2 := Lib.hid (K1.out.later hb)
  have B2 := Lib.hid (B1.out.trans (hb.mono B1.out.size))
  clear X1 K1 B1 hb
  have X3 := Lib.hid (X2.out.below (below1 w2 (.cells #[.int .i64 0, .int .i64 0] 28)))
  have K3 := Lib.hid (K2.out.alloc (.cells #[.int .i64 0, .int .i64 0] 28))
  have B3 := Lib.hid (B2.out.alloc B2.out.size (.cells #[.int .i64 0, .int .i64 0] 28))
  clear X2 K2 B2
  have P3 := Lib.hid (Bk.new w2 28 #[.int .i64 0, .int .i64 0])
  go_wp2_with fail
  refine (CMx.out _).mono ?_
  rintro e w4 ⟨rfl, hb⟩
  have X4 := Lib.hid (X3.out.below hb)
  have K4 := Lib.hid (K3.out.later hb)
  have B4 := Lib.hid (B3.out.trans (hb.mono B3.out.size))
  have P4 := Lib.hid (P3.out.later hb)
  clear X3 K3 B3 P3 hb
  have X5 := Lib.hid (X4.out.below (below1 w4 (.cells #[.int .i64 0, .int .i64 0] 28)))
  have K5 := Lib.hid (K4.out.alloc (.cells #[.int .i64 0, .int .i64 0] 28))
  have B5 := Lib.hid (B4.out.alloc B4.out.size (.cells #[.int .i64 0, .int .i64 0] 28))
  have P5 := Lib.hid (P4.out.alloc (.cells #[.int .i64 0, .int .i64 0] 28))
  clear X4 K4 B4 P4
  have M5 := Lib.hid (Bk.new w4 28 #[.int .i64 0, .int .i64 0])
  obtain ⟨d0, d1, _, _⟩ := bk2v K5.out
  go_wp2
  go_region_held3 (fun w' : World => w'.cell? ⟨w.heap.size, 0, none⟩ = some (.slice A n c) ∧ w'.cell? ⟨w.heap.size, 1, none⟩ = some (.int .i64 o)) ((go_split_ands; simp [go_sem, *])) (first
    | (go_at_call 18; refine (CC.out _ B5.out.drew).mono ?_; rintro e wq ⟨⟨vq, rfl, hrowq⟩, hbq⟩; obtain ⟨Aq, cq, rfl, _, hrq⟩ := rd_of_own hrowq; have hxl := CCL.out; rw [hxl] at hrq ⊢; have Kq := (K5.out.drew).later hbq; obtain ⟨d0, d1, _, _⟩ := bk2v Kq)
    | (go_at_call 17; refine (CDf.out Aq cq _ hrq).mono ?_; rintro e w6 ⟨⟨Ay, cy, rfl, hry⟩, hbp⟩; have Kp := Kq.later hbp; obtain ⟨d0, d1, _, _⟩ := bk2v Kp))
  all_goals
    have hb := hbq.trans (hbp.mono hbq.size)
    clear d0 d1 hbq hbp Kq Kp hrq hrowq hxl
    have X6 := Lib.hid (X5.out.drew.below hb)
    have K6 := Lib.hid (K5.out.drew.later hb)
    have B6 := Lib.hid (B5.out.drew.trans (hb.mono B5.out.drew.size))
    have P6 := Lib.hid (P5.out.drew.later hb)
    have M6 := Lib.hid (M5.out.drew.later hb)
    clear hb X5 K5 B5 P5 M5
    have Y6 := Lib.hid hry
    clear hry
    obtain ⟨d0, d1, _, _⟩ := bk2v K6.out
    go_wp2_with fail
    refine (CSg.out _ X6.out).mono ?_
    rintro e w' ⟨rfl, rfl⟩
    go_wp2_with fail
    refine (CWi.out _).mono ?_
    rintro e w' ⟨rfl, rfl⟩
    clear d0 d1
    go_wp2_with fail
    refine (CD.out _).mono ?_
    rintro e w' ⟨rfl, rfl⟩
    obtain ⟨p0, p1, _, _⟩ := bk2v P6.out
    obtain ⟨q0, q1, _, _⟩ := bk2v M6.out
    go_wp2
    go_ret
    exact ⟨by simp, B6.out⟩

set_option maxRecDepth 100000 in
set_option maxHeartbeats 4000000 in
theorem rmw_OF (d f : Int) (A : Option Addr) (n c : Nat) (o : Int) (xs : List Int) (w : World) (Fr : Int) (hF : ¬ Fr = 0) (mN mD : Int) (hr : RdI w A n xs) (hn : n ≤ 402) (hsh : shortB n = true) (hA : A = none → n = 0 ∧ c = 0)
    (CRm : ∀ W, Calls Try.prog 15 #[.int .i64 d, .int .i64 f] W fun e w' => e = .returned (.tuple #[.agg #[.int .i64 0, .int .i64 0], .int .i64 Fr]) ∧ Below W.heap.size W w')
    (CMx : ∀ W, Calls Try.prog 16 #[.int .i64 d] W fun e w' => e = .returned (.tuple #[.agg #[.int .i64 mN, .int .i64 mD], .int .i64 0]) ∧ Below W.heap.size W w')
    (CDf : ∀ B cb W, RdI W B n xs → Calls Try.prog 17 #[.slice B n cb, .int .i64 o] W (RdRes W (2) 0 []))
    (CSg : ∀ W, RdI W A n xs → Calls Try.prog 19 #[.slice A n c] W fun e w' => e = .returned (.int .i64 0) ∧ W = w')
    (CWi : ∀ W, Calls Try.prog 20 #[.int .i64 o, .int .i64 1, .int .i64 4] W fun e w' => e = .returned (.bool false) ∧ W = w')
    (CD : ∀ W, Calls Try.prog 23 #[.int .i64 d] W fun e w' => e = .returned (.int .i64 0) ∧ W = w')
    (CRM : ∀ W, Calls Try.prog 24 #[.int .i64 d] W fun e w' => e = .returned (.agg #[.int .i64 mN, .int .i64 mD]) ∧ Below W.heap.size W w')
    (CFr : ∀ W, Calls Try.prog 25 #[.int .i64 f] W fun e w' => e = .returned (.int .i64 Fr) ∧ W = w')
    : Calls Try.prog 3 #[.int .i64 d, .int .i64 f, .agg #[.slice A n c, .int .i64 o]] w fun e w' => e = .returned (.bool true) ∧ Below w.heap.size w w' := by
  have CC : Hid (∀ W, Below w.heap.size w W → Calls Try.prog 18 #[.slice A n c] W (OwnS W xs)) := fun W hb => copyInts_any A n c xs W hA (hr.below hb) (by omega)
  have CCL : Hid (xs.length = n) := hr.1
  have CSh := Lib.hid (fun W => short_any A n c W (by omega))
  rw [hsh] at CSh
  have CRm := Lib.hid CRm
  have CMx := Lib.hid CMx
  have CDf := Lib.hid CDf
  have CSg := Lib.hid CSg
  have CWi := Lib.hid CWi
  have CD := Lib.hid CD
  have CRM := Lib.hid CRM
  have CFr := Lib.hid CFr
  have dF0 := neF hF
  have dF1 := neT hF
  clear hF
  have X0 := Lib.hid (hr.below (below1 w (.cells #[.slice A n c, .int .i64 o] 24)))
  have K0 := Lib.hid (Bk.new w 24 #[.slice A n c, .int .i64 o])
  have B0 := Lib.hid (below1 w (.cells #[.slice A n c, .int .i64 o] 24))
  clear hr hsh hA
  go_enter Try.func3, Try.ntmps3
  go_wp2_with fail
  refine (awake_any _).mono ?_
  rintro e w1 ⟨rfl, hb⟩
  have X1 := Lib.hid (X0.out.below hb)
  have K1 := Lib.hid (K0.out.later hb)
  have B1 := Lib.hid (B0.out.trans (hb.mono B0.out.size))
  clear X0 K0 B0 hb
  obtain ⟨d0, d1, _, _⟩ := bk2v K1.out
  go_wp2_with fail
  refine (CSh.out _).mono ?_
  rintro e w' ⟨rfl, rfl⟩
  clear d0 d1
  go_wp2_with fail
  refine (CRm.out _).mono ?_
  rintro e w2 ⟨rfl, hb⟩
  have X2 := Lib.hid (X1.out.below hb)
  have K2 := Lib.hid (K1.out.later hb)
  have B2 := Lib.hid (B1.out.trans (hb.mono B1.out.size))
  clear X1 K1 B1 hb
  have X3 := Lib.hid (X2.out.below (below1 w2 (.cells #[.int .i64 0, .int .i64 0] 28)))
  have K3 := Lib.hid (K2.out.alloc (.cells #[.int .i64 0, .int .i64 0] 28))
  have B3 := Lib.hid (B2.out.alloc B2.out.size (.cells #[.int .i64 0, .int .i64 0] 28))
  clear X2 K2 B2
  have P3 := Lib.hid (Bk.new w2 28 #[.int .i64 0, .int .i64 0])
  go_wp2_with fail
  refine (CMx.out _).mono ?_
  rintro e w4 ⟨rfl, hb⟩
  have X4 := Lib.hid (X3.out.below hb)
  have K4 := Lib.hid (K3.out.later hb)
  have B4 := Lib.hid (B3.out.trans (hb.mono B3.out.size))
  have P4 := Lib.hid (P3.out.later hb)
  clear X3 K3 B3 P3 hb
  have X5 := Lib.hid (X4.out.below (below1 w4 (.cells #[.int .i64 mN, .int .i64 mD] 28)))
  have K5 := Lib.hid (K4.out.alloc (.cells #[.int .i64 mN, .int .i64 mD] 28))
  have B5 := Lib.hid (B4.out.alloc B4.out.size (.cells #[.int .i64 mN, .int .i64 mD] 28))
  have P5 := Lib.hid (P4.out.alloc (.cells #[.int .i64 mN, .int .i64 mD] 28))
  clear X4 K4 B4 P4
  have M5 := Lib.hid (Bk.new w4 28 #[.int .i64 mN, .int .i64 mD])
  obtain ⟨d0, d1, _, _⟩ := bk2v K5.out
  go_wp2
  go_region_held3 (fun w' : World => w'.cell? ⟨w.heap.size, 0, none⟩ = some (.slice A n c) ∧ w'.cell? ⟨w.heap.size, 1, none⟩ = some (.int .i64 o)) ((go_split_ands; simp [go_sem, *])) (first
    | (go_at_call 18; refine (CC.out _ B5.out.drew).mono ?_; rintro e wq ⟨⟨vq, rfl, hrowq⟩, hbq⟩; obtain ⟨Aq, cq, rfl, _, hrq⟩ := rd_of_own hrowq; have hxl := CCL.out; rw [hxl] at hrq ⊢; have Kq := (K5.out.drew).later hbq; obtain ⟨d0, d1, _, _⟩ := bk2v Kq)
    | (go_at_call 17; refine (CDf.out Aq cq _ hrq).mono ?_; rintro e w6 ⟨⟨Ay, cy, rfl, hry⟩, hbp⟩; have Kp := Kq.later hbp; obtain ⟨d0, d1, _, _⟩ := bk2v Kp))
  all_goals
    have hb := hbq.trans (hbp.mono hbq.size)
    clear d0 d1 hbq hbp Kq Kp hrq hrowq hxl
    have X6 := Lib.hid (X5.out.drew.below hb)
    have K6 := Lib.hid (K5.out.drew.later hb)
    have B6 := Lib.hid (B5.out.drew.trans (hb.mono B5.out.drew.size))
    have P6 := Lib.hid (P5.out.drew.later hb)
    have M6 := Lib.hid (M5.out.drew.later hb)
    clear hb X5 K5 B5 P5 M5
    have Y6 := Lib.hid hry
    clear hry
    obtain ⟨d0, d1, _, _⟩ := bk2v K6.out
    go_wp2_with fail
    refine (CSg.out _ X6.out).mono ?_
    rintro e w' ⟨rfl, rfl⟩
    go_wp2_with fail
    refine (CWi.out _).mono ?_
    rintro e w' ⟨rfl, rfl⟩
    clear d0 d1
    go_wp2_with fail
    refine (CD.out _).mono ?_
    rintro e w' ⟨rfl, rfl⟩
    obtain ⟨p0, p1, _, _⟩ := bk2v P6.out
    obtain ⟨q0, q1, _, _⟩ := bk2v M6.out
    go_wp2
    go_region_held3 (fun w' : World => w'.cell? ⟨w4.heap.size, 0, none⟩ = some (.int .i64 mN) ∧ w'.cell? ⟨w4.heap.size, 1, none⟩ = some (.int .i64 mD)) ((go_split_ands; simp [go_sem, *])) ((go_at_call 24; refine (CRM.out _).mono ?_; rintro e w7 ⟨rfl, hb⟩; have Mp := (M6.out.drew).later hb; obtain ⟨q0, q1, _, _⟩ := bk2v Mp))
    all_goals
      clear p0 p1 q0 q1 Mp
      have X7 := Lib.hid (X6.out.drew.below hb)
      have K7 := Lib.hid (K6.out.drew.later hb)
      have B7 := Lib.hid (B6.out.drew.trans (hb.mono B6.out.drew.size))
      have P7 := Lib.hid (P6.out.drew.later hb)
      have M7 := Lib.hid (M6.out.drew.later hb)
      have Y7 := Lib.hid (Y6.out.drew.below hb)
      clear hb X6 K6 B6 P6 M6 Y6
      go_wp2_with fail
      refine (CFr.out _).mono ?_
      rintro e w' ⟨rfl, rfl⟩
      obtain ⟨p0, p1, _, _⟩ := bk2v P7.out
      go_wp2
      go_ret
      exact ⟨by simp, B7.out⟩

set_option maxRecDepth 100000 in
set_option maxHeartbeats 4000000 in
theorem rmw_Ok (d f : Int) (A : Option Addr) (n c : Nat) (o : Int) (xs : List Int) (w : World) (mN mD : Int) (rN rD : Int) (hr : RdI w A n xs) (hn : n ≤ 402) (hsh : shortB n = true) (hA : A = none → n = 0 ∧ c = 0)
    (CRm : ∀ W, Calls Try.prog 15 #[.int .i64 d, .int .i64 f] W fun e w' => e = .returned (.tuple #[.agg #[.int .i64 rN, .int .i64 rD], .int .i64 0]) ∧ Below W.heap.size W w')
    (CMx : ∀ W, Calls Try.prog 16 #[.int .i64 d] W fun e w' => e = .returned (.tuple #[.agg #[.int .i64 mN, .int .i64 mD], .int .i64 0]) ∧ Below W.heap.size W w')
    (CDf : ∀ B cb W, RdI W B n xs → Calls Try.prog 17 #[.slice B n cb, .int .i64 o] W (RdRes W (2) 0 []))
    (CSg : ∀ W, RdI W A n xs → Calls Try.prog 19 #[.slice A n c] W fun e w' => e = .returned (.int .i64 0) ∧ W = w')
    (CWi : ∀ W, Calls Try.prog 20 #[.int .i64 o, .int .i64 1, .int .i64 4] W fun e w' => e = .returned (.bool false) ∧ W = w')
    (CD : ∀ W, Calls Try.prog 23 #[.int .i64 d] W fun e w' => e = .returned (.int .i64 0) ∧ W = w')
    (CRM : ∀ W, Calls Try.prog 24 #[.int .i64 d] W fun e w' => e = .returned (.agg #[.int .i64 mN, .int .i64 mD]) ∧ Below W.heap.size W w')
    (CFr : ∀ W, Calls Try.prog 25 #[.int .i64 f] W fun e w' => e = .returned (.int .i64 0) ∧ W = w')
    (CRR : ∀ W, Calls Try.prog 26 #[.int .i64 d, .int .i64 f] W fun e w' => e = .returned (.agg #[.int .i64 rN, .int .i64 rD]) ∧ Below W.heap.size W w')
    : Calls Try.prog 3 #[.int .i64 d, .int .i64 f, .agg #[.slice A n c, .int .i64 o]] w fun e w' => e = .returned (.bool true) ∧ Below w.heap.size w w' := by
  have CC : Hid (∀ W, Below w.heap.size w W → Calls Try.prog 18 #[.slice A n c] W (OwnS W xs)) := fun W hb => copyInts_any A n c xs W hA (hr.below hb) (by omega)
  have CCL : Hid (xs.length = n) := hr.1
  have CSh := Lib.hid (fun W => short_any A n c W (by omega))
  rw [hsh] at CSh
  have CRm := Lib.hid CRm
  have CMx := Lib.hid CMx
  have CDf := Lib.hid CDf
  have CSg := Lib.hid CSg
  have CWi := Lib.hid CWi
  have CD := Lib.hid CD
  have CRM := Lib.hid CRM
  have CFr := Lib.hid CFr
  have CRR := Lib.hid CRR
  have X0 := Lib.hid (hr.below (below1 w (.cells #[.slice A n c, .int .i64 o] 24)))
  have K0 := Lib.hid (Bk.new w 24 #[.slice A n c, .int .i64 o])
  have B0 := Lib.hid (below1 w (.cells #[.slice A n c, .int .i64 o] 24))
  clear hr hsh hA
  go_enter Try.func3, Try.ntmps3
  go_wp2_with fail
  refine (awake_any _).mono ?_
  rintro e w1 ⟨rfl, hb⟩
  have X1 := Lib.hid (X0.out.below hb)
  have K1 := Lib.hid (K0.out.later hb)
  have B1 := Lib.hid (B0.out.trans (hb.mono B0.out.size))
  clear X0 K0 B0 hb
  obtain ⟨d0, d1, _, _⟩ := bk2v K1.out
  go_wp2_with fail
  refine (CSh.out _).mono ?_
  rintro e w' ⟨rfl, rfl⟩
  clear d0 d1
  go_wp2_with fail
  refine (CRm.out _).mono ?_
  rintro e w2 ⟨rfl, hb⟩
  have X2 := Lib.hid (X1.out.below hb)
  have K2 := Lib.hid (K1.out.later hb)
  have B2 := Lib.hid (B1.out.trans (hb.mono B1.out.size))
  clear X1 K1 B1 hb
  have X3 := Lib.hid (X2.out.below (below1 w2 (.cells #[.int .i64 rN, .int .i64 rD] 28)))
  have K3 := Lib.hid (K2.out.alloc (.cells #[.int .i64 rN, .int .i64 rD] 28))
  have B3 := Lib.hid (B2.out.alloc B2.out.size (.cells #[.int .i64 rN, .int .i64 rD] 28))
  clear X2 K2 B2
  have P3 := Lib.hid (Bk.new w2 28 #[.int .i64 rN, .int .i64 rD])
  go_wp2_with fail
  refine (CMx.out _).mono ?_
  rintro e w4 ⟨rfl, hb⟩
  have X4 := Lib.hid (X3.out.below hb)
  have K4 := Lib.hid (K3.out.later hb)
  have B4 := Lib.hid (B3.out.trans (hb.mono B3.out.size))
  have P4 := Lib.hid (P3.out.later hb)
  clear X3 K3 B3 P3 hb
  have X5 := Lib.hid (X4.out.below (below1 w4 (.cells #[.int .i64 mN, .int .i64 mD] 28)))
  have K5 := Lib.hid (K4.out.alloc (.cells #[.int .i64 mN, .int .i64 mD] 28))
  have B5 := Lib.hid (B4.out.alloc B4.out.size (.cells #[.int .i64 mN, .int .i64 mD] 28))
  have P5 := Lib.hid (P4.out.alloc (.cells #[.int .i64 mN, .int .i64 mD] 28))
  clear X4 K4 B4 P4
  have M5 := Lib.hid (Bk.new w4 28 #[.int .i64 mN, .int .i64 mD])
  obtain ⟨d0, d1, _, _⟩ := bk2v K5.out
  go_wp2
  go_region_held3 (fun w' : World => w'.cell? ⟨w.heap.size, 0, none⟩ = some (.slice A n c) ∧ w'.cell? ⟨w.heap.size, 1, none⟩ = some (.int .i64 o)) ((go_split_ands; simp [go_sem, *])) (first
    | (go_at_call 18; refine (CC.out _ B5.out.drew).mono ?_; rintro e wq ⟨⟨vq, rfl, hrowq⟩, hbq⟩; obtain ⟨Aq, cq, rfl, _, hrq⟩ := rd_of_own hrowq; have hxl := CCL.out; rw [hxl] at hrq ⊢; have Kq := (K5.out.drew).later hbq; obtain ⟨d0, d1, _, _⟩ := bk2v Kq)
    | (go_at_call 17; refine (CDf.out Aq cq _ hrq).mono ?_; rintro e w6 ⟨⟨Ay, cy, rfl, hry⟩, hbp⟩; have Kp := Kq.later hbp; obtain ⟨d0, d1, _, _⟩ := bk2v Kp))
  all_goals
    have hb := hbq.trans (hbp.mono hbq.size)
    clear d0 d1 hbq hbp Kq Kp hrq hrowq hxl
    have X6 := Lib.hid (X5.out.drew.below hb)
    have K6 := Lib.hid (K5.out.drew.later hb)
    have B6 := Lib.hid (B5.out.drew.trans (hb.mono B5.out.drew.size))
    have P6 := Lib.hid (P5.out.drew.later hb)
    have M6 := Lib.hid (M5.out.drew.later hb)
    clear hb X5 K5 B5 P5 M5
    have Y6 := Lib.hid hry
    clear hry
    obtain ⟨d0, d1, _, _⟩ := bk2v K6.out
    go_wp2_with fail
    refine (CSg.out _ X6.out).mono ?_
    rintro e w' ⟨rfl, rfl⟩
    go_wp2_with fail
    refine (CWi.out _).mono ?_
    rintro e w' ⟨rfl, rfl⟩
    clear d0 d1
    go_wp2_with fail
    refine (CD.out _).mono ?_
    rintro e w' ⟨rfl, rfl⟩
    obtain ⟨p0, p1, _, _⟩ := bk2v P6.out
    obtain ⟨q0, q1, _, _⟩ := bk2v M6.out
    go_wp2
    go_region_held3 (fun w' : World => w'.cell? ⟨w4.heap.size, 0, none⟩ = some (.int .i64 mN) ∧ w'.cell? ⟨w4.heap.size, 1, none⟩ = some (.int .i64 mD)) ((go_split_ands; simp [go_sem, *])) ((go_at_call 24; refine (CRM.out _).mono ?_; rintro e w7 ⟨rfl, hb⟩; have Mp := (M6.out.drew).later hb; obtain ⟨q0, q1, _, _⟩ := bk2v Mp))
    all_goals
      clear p0 p1 q0 q1 Mp
      have X7 := Lib.hid (X6.out.drew.below hb)
      have K7 := Lib.hid (K6.out.drew.later hb)
      have B7 := Lib.hid (B6.out.drew.trans (hb.mono B6.out.drew.size))
      have P7 := Lib.hid (P6.out.drew.later hb)
      have M7 := Lib.hid (M6.out.drew.later hb)
      have Y7 := Lib.hid (Y6.out.drew.below hb)
      clear hb X6 K6 B6 P6 M6 Y6
      go_wp2_with fail
      refine (CFr.out _).mono ?_
      rintro e w' ⟨rfl, rfl⟩
      obtain ⟨p0, p1, _, _⟩ := bk2v P7.out
      go_wp2
      go_region_held3 (fun w' : World => w'.cell? ⟨w2.heap.size, 0, none⟩ = some (.int .i64 rN) ∧ w'.cell? ⟨w2.heap.size, 1, none⟩ = some (.int .i64 rD)) ((go_split_ands; simp [go_sem, *])) ((go_at_call 26; refine (CRR.out _).mono ?_; rintro e w8 ⟨rfl, hb⟩; have Pp := (P7.out.drew).later hb; obtain ⟨p0, p1, _, _⟩ := bk2v Pp))
      all_goals
        clear p0 p1 Pp
        have X8 := Lib.hid (X7.out.drew.below hb)
        have K8 := Lib.hid (K7.out.drew.later hb)
        have B8 := Lib.hid (B7.out.drew.trans (hb.mono B7.out.drew.size))
        have P8 := Lib.hid (P7.out.drew.later hb)
        have M8 := Lib.hid (M7.out.drew.later hb)
        have Y8 := Lib.hid (Y7.out.drew.below hb)
        clear hb X7 K7 B7 P7 M7 Y7
        go_wp2
        go_ret
        exact ⟨by simp, B8.out⟩

set_option maxRecDepth 100000 in
set_option maxHeartbeats 4000000 in
theorem rmw_kD (d f : Int) (A : Option Addr) (n c : Nat) (o : Int) (xs : List Int) (w : World) (m : Nat) (Ld : List Int) (hm : m ≤ 1000000) (D : Int) (hD : ¬ D = 0) (hr : RdI w A n xs) (hn : n ≤ 402) (hsh : shortB n = true) (hA : A = none → n = 0 ∧ c = 0)
    (CRm : ∀ W, Calls Try.prog 15 #[.int .i64 d, .int .i64 f] W fun e w' => e = .returned (.tuple #[.agg #[.int .i64 0, .int .i64 0], .int .i64 D]) ∧ Below W.heap.size W w')
    (CMx : ∀ W, Calls Try.prog 16 #[.int .i64 d] W fun e w' => e = .returned (.tuple #[.agg #[.int .i64 0, .int .i64 0], .int .i64 D]) ∧ Below W.heap.size W w')
    (CDf : ∀ B cb W, RdI W B n xs → Calls Try.prog 17 #[.slice B n cb, .int .i64 o] W (RdRes W (0) m Ld))
    (CSg : ∀ W, RdI W A n xs → Calls Try.prog 19 #[.slice A n c] W fun e w' => e = .returned (.int .i64 0) ∧ W = w')
    (CWi : ∀ W, Calls Try.prog 20 #[.int .i64 o, .int .i64 1, .int .i64 4] W fun e w' => e = .returned (.bool true) ∧ W = w')
    (CRD : ∀ W, RdI W A n xs → Calls Try.prog 22 #[.slice A n c, .int .i64 o] W (RdOne W m Ld))
    (CD : ∀ W, Calls Try.prog 23 #[.int .i64 d] W fun e w' => e = .returned (.int .i64 D) ∧ W = w')
    : Calls Try.prog 3 #[.int .i64 d, .int .i64 f, .agg #[.slice A n c, .int .i64 o]] w fun e w' => e = .returned (.bool true) ∧ Below w.heap.size w w' := by
  have CC : Hid (∀ W, Below w.heap.size w W → Calls Try.prog 18 #[.slice A n c] W (OwnS W xs)) := fun W hb => copyInts_any A n c xs W hA (hr.below hb) (by omega)
  have CCL : Hid (xs.length = n) := hr.1
  have CSh := Lib.hid (fun W => short_any A n c W (by omega))
  rw [hsh] at CSh
  have CRm := Lib.hid CRm
  have CMx := Lib.hid CMx
  have CDf := Lib.hid CDf
  have CSg := Lib.hid CSg
  have CWi := Lib.hid CWi
  have CRD := Lib.hid CRD
  have CD := Lib.hid CD
  have dD0 := neF hD
  have dD1 := neT hD
  clear hD
  have X0 := Lib.hid (hr.below (below1 w (.cells #[.slice A n c, .int .i64 o] 24)))
  have K0 := Lib.hid (Bk.new w 24 #[.slice A n c, .int .i64 o])
  have B0 := Lib.hid (below1 w (.cells #[.slice A n c, .int .i64 o] 24))
  clear hr hsh hA
  go_enter Try.func3, Try.ntmps3
  go_wp2_with fail
  refine (awake_any _).mono ?_
  rintro e w1 ⟨rfl, hb⟩
  have X1 := Lib.hid (X0.out.below hb)
  have K1 := Lib.hid (K0.out.later hb)
  have B1 := Lib.hid (B0.out.trans (hb.mono B0.out.size))
  clear X0 K0 B0 hb
  obtain ⟨d0, d1, _, _⟩ := bk2v K1.out
  go_wp2_with fail
  refine (CSh.out _).mono ?_
  rintro e w' ⟨rfl, rfl⟩
  clear d0 d1
  go_wp2_with fail
  refine (CRm.out _).mono ?_
  rintro e w2 ⟨rfl, hb⟩
  have X2 := Lib.hid (X1.out.below hb)
  have K2 := Lib.hid (K1.out.later hb)
  have B2 := Lib.hid (B1.out.trans (hb.mono B1.out.size))
  clear X1 K1 B1 hb
  have X3 := Lib.hid (X2.out.below (below1 w2 (.cells #[.int .i64 0, .int .i64 0] 28)))
  have K3 := Lib.hid (K2.out.alloc (.cells #[.int .i64 0, .int .i64 0] 28))
  have B3 := Lib.hid (B2.out.alloc B2.out.size (.cells #[.int .i64 0, .int .i64 0] 28))
  clear X2 K2 B2
  have P3 := Lib.hid (Bk.new w2 28 #[.int .i64 0, .int .i64 0])
  go_wp2_with fail
  refine (CMx.out _).mono ?_
  rintro e w4 ⟨rfl, hb⟩
  have X4 := Lib.hid (X3.out.below hb)
  have K4 := Lib.hid (K3.out.later hb)
  have B4 := Lib.hid (B3.out.trans (hb.mono B3.out.size))
  have P4 := Lib.hid (P3.out.later hb)
  clear X3 K3 B3 P3 hb
  have X5 := Lib.hid (X4.out.below (below1 w4 (.cells #[.int .i64 0, .int .i64 0] 28)))
  have K5 := Lib.hid (K4.out.alloc (.cells #[.int .i64 0, .int .i64 0] 28))
  have B5 := Lib.hid (B4.out.alloc B4.out.size (.cells #[.int .i64 0, .int .i64 0] 28))
  have P5 := Lib.hid (P4.out.alloc (.cells #[.int .i64 0, .int .i64 0] 28))
  clear X4 K4 B4 P4
  have M5 := Lib.hid (Bk.new w4 28 #[.int .i64 0, .int .i64 0])
  obtain ⟨d0, d1, _, _⟩ := bk2v K5.out
  go_wp2
  go_region_held3 (fun w' : World => w'.cell? ⟨w.heap.size, 0, none⟩ = some (.slice A n c) ∧ w'.cell? ⟨w.heap.size, 1, none⟩ = some (.int .i64 o)) ((go_split_ands; simp [go_sem, *])) (first
    | (go_at_call 18; refine (CC.out _ B5.out.drew).mono ?_; rintro e wq ⟨⟨vq, rfl, hrowq⟩, hbq⟩; obtain ⟨Aq, cq, rfl, _, hrq⟩ := rd_of_own hrowq; have hxl := CCL.out; rw [hxl] at hrq ⊢; have Kq := (K5.out.drew).later hbq; obtain ⟨d0, d1, _, _⟩ := bk2v Kq)
    | (go_at_call 17; refine (CDf.out Aq cq _ hrq).mono ?_; rintro e w6 ⟨⟨Ay, cy, rfl, hry⟩, hbp⟩; have Kp := Kq.later hbp; obtain ⟨d0, d1, _, _⟩ := bk2v Kp))
  all_goals
    have hb := hbq.trans (hbp.mono hbq.size)
    clear d0 d1 hbq hbp Kq Kp hrq hrowq hxl
    have X6 := Lib.hid (X5.out.drew.below hb)
    have K6 := Lib.hid (K5.out.drew.later hb)
    have B6 := Lib.hid (B5.out.drew.trans (hb.mono B5.out.drew.size))
    have P6 := Lib.hid (P5.out.drew.later hb)
    have M6 := Lib.hid (M5.out.drew.later hb)
    clear hb X5 K5 B5 P5 M5
    have Y6 := Lib.hid hry
    clear hry
    obtain ⟨d0, d1, _, _⟩ := bk2v K6.out
    go_wp2_with fail
    refine (CSg.out _ X6.out).mono ?_
    rintro e w' ⟨rfl, rfl⟩
    go_wp2_with fail
    refine (CWi.out _).mono ?_
    rintro e w' ⟨rfl, rfl⟩
    go_wp2_with fail
    refine (CRD.out _ X6.out).mono ?_
    rintro e w7 ⟨⟨AYr, cYr, rfl, hrYr⟩, hb⟩
    have X7 := Lib.hid (X6.out.below hb)
    have K7 := Lib.hid (K6.out.later hb)
    have B7 := Lib.hid (B6.out.trans (hb.mono B6.out.size))
    have P7 := Lib.hid (P6.out.later hb)
    have M7 := Lib.hid (M6.out.later hb)
    have Y7 := Lib.hid (Y6.out.below hb)
    clear X6 K6 B6 P6 M6 Y6 hb
    have Yr7 := Lib.hid hrYr
    clear hrYr
    clear d0 d1
    go_wp2_with fail
    refine (ints_same _ _ _ _ _ _ _ Y7.out Yr7.out (by omega)).mono ?_
    rintro e w' ⟨rfl, kk, rfl⟩
    have X8 := Lib.hid (X7.out.drewN kk)
    have K8 := Lib.hid (K7.out.drewN kk)
    have B8 := Lib.hid (belowDrewN B7.out kk)
    have P8 := Lib.hid (P7.out.drewN kk)
    have M8 := Lib.hid (M7.out.drewN kk)
    have Y8 := Lib.hid (Y7.out.drewN kk)
    have Yr8 := Lib.hid (Yr7.out.drewN kk)
    clear X7 K7 B7 P7 M7 Y7 Yr7
    obtain ⟨w8, hw8⟩ : ∃ W, w7.drewN kk = W := ⟨_, rfl⟩
    rw [hw8] at X8 K8 B8 P8 M8 Y8 Yr8 ⊢
    clear hw8
    go_wp2_with fail
    refine (CD.out _).mono ?_
    rintro e w' ⟨rfl, rfl⟩
    obtain ⟨p0, p1, _, _⟩ := bk2v P8.out
    obtain ⟨q0, q1, _, _⟩ := bk2v M8.out
    go_wp2
    go_ret
    exact ⟨by simp, B8.out⟩

set_option maxRecDepth 100000 in
set_option maxHeartbeats 4000000 in
theorem rmw_kF (d f : Int) (A : Option Addr) (n c : Nat) (o : Int) (xs : List Int) (w : World) (m : Nat) (Ld : List Int) (hm : m ≤ 1000000) (Fr : Int) (hF : ¬ Fr = 0) (mN mD : Int) (hr : RdI w A n xs) (hn : n ≤ 402) (hsh : shortB n = true) (hA : A = none → n = 0 ∧ c = 0)
    (CRm : ∀ W, Calls Try.prog 15 #[.int .i64 d, .int .i64 f] W fun e w' => e = .returned (.tuple #[.agg #[.int .i64 0, .int .i64 0], .int .i64 Fr]) ∧ Below W.heap.size W w')
    (CMx : ∀ W, Calls Try.prog 16 #[.int .i64 d] W fun e w' => e = .returned (.tuple #[.agg #[.int .i64 mN, .int .i64 mD], .int .i64 0]) ∧ Below W.heap.size W w')
    (CDf : ∀ B cb W, RdI W B n xs → Calls Try.prog 17 #[.slice B n cb, .int .i64 o] W (RdRes W (0) m Ld))
    (CSg : ∀ W, RdI W A n xs → Calls Try.prog 19 #[.slice A n c] W fun e w' => e = .returned (.int .i64 0) ∧ W = w')
    (CWi : ∀ W, Calls Try.prog 20 #[.int .i64 o, .int .i64 1, .int .i64 4] W fun e w' => e = .returned (.bool true) ∧ W = w')
    (CRD : ∀ W, RdI W A n xs → Calls Try.prog 22 #[.slice A n c, .int .i64 o] W (RdOne W m Ld))
    (CD : ∀ W, Calls Try.prog 23 #[.int .i64 d] W fun e w' => e = .returned (.int .i64 0) ∧ W = w')
    (CRM : ∀ W, Calls Try.prog 24 #[.int .i64 d] W fun e w' => e = .returned (.agg #[.int .i64 mN, .int .i64 mD]) ∧ Below W.heap.size W w')
    (CFr : ∀ W, Calls Try.prog 25 #[.int .i64 f] W fun e w' => e = .returned (.int .i64 Fr) ∧ W = w')
    : Calls Try.prog 3 #[.int .i64 d, .int .i64 f, .agg #[.slice A n c, .int .i64 o]] w fun e w' => e = .returned (.bool true) ∧ Below w.heap.size w w' := by
  have CC : Hid (∀ W, Below w.heap.size w W → Calls Try.prog 18 #[.slice A n c] W (OwnS W xs)) := fun W hb => copyInts_any A n c xs W hA (hr.below hb) (by omega)
  have CCL : Hid (xs.length = n) := hr.1
  have CSh := Lib.hid (fun W => short_any A n c W (by omega))
  rw [hsh] at CSh
  have CRm := Lib.hid CRm
  have CMx := Lib.hid CMx
  have CDf := Lib.hid CDf
  have CSg := Lib.hid CSg
  have CWi := Lib.hid CWi
  have CRD := Lib.hid CRD
  have CD := Lib.hid CD
  have CRM := Lib.hid CRM
  have CFr := Lib.hid CFr
  have dF0 := neF hF
  have dF1 := neT hF
  clear hF
  have X0 := Lib.hid (hr.below (below1 w (.cells #[.slice A n c, .int .i64 o] 24)))
  have K0 := Lib.hid (Bk.new w 24 #[.slice A n c, .int .i64 o])
  have B0 := Lib.hid (below1 w (.cells #[.slice A n c, .int .i64 o] 24))
  clear hr hsh hA
  go_enter Try.func3, Try.ntmps3
  go_wp2_with fail
  refine (awake_any _).mono ?_
  rintro e w1 ⟨rfl, hb⟩
  have X1 := Lib.hid (X0.out.below hb)
  have K1 := Lib.hid (K0.out.later hb)
  have B1 := Lib.hid (B0.out.trans (hb.mono B0.out.size))
  clear X0 K0 B0 hb
  obtain ⟨d0, d1, _, _⟩ := bk2v K1.out
  go_wp2_with fail
  refine (CSh.out _).mono ?_
  rintro e w' ⟨rfl, rfl⟩
  clear d0 d1
  go_wp2_with fail
  refine (CRm.out _).mono ?_
  rintro e w2 ⟨rfl, hb⟩
  have X2 := Lib.hid (X1.out.below hb)
  have K2 := Lib.hid (K1.out.later hb)
  have B2 := Lib.hid (B1.out.trans (hb.mono B1.out.size))
  clear X1 K1 B1 hb
  have X3 := Lib.hid (X2.out.below (below1 w2 (.cells #[.int .i64 0, .int .i64 0] 28)))
  have K3 := Lib.hid (K2.out.alloc (.cells #[.int .i64 0, .int .i64 0] 28))
  have B3 := Lib.hid (B2.out.alloc B2.out.size (.cells #[.int .i64 0, .int .i64 0] 28))
  clear X2 K2 B2
  have P3 := Lib.hid (Bk.new w2 28 #[.int .i64 0, .int .i64 0])
  go_wp2_with fail
  refine (CMx.out _).mono ?_
  rintro e w4 ⟨rfl, hb⟩
  have X4 := Lib.hid (X3.out.below hb)
  have K4 := Lib.hid (K3.out.later hb)
  have B4 := Lib.hid (B3.out.trans (hb.mono B3.out.size))
  have P4 := Lib.hid (P3.out.later hb)
  clear X3 K3 B3 P3 hb
  have X5 := Lib.hid (X4.out.below (below1 w4 (.cells #[.int .i64 mN, .int .i64 mD] 28)))
  have K5 := Lib.hid (K4.out.alloc (.cells #[.int .i64 mN, .int .i64 mD] 28))
  have B5 := Lib.hid (B4.out.alloc B4.out.size (.cells #[.int .i64 mN, .int .i64 mD] 28))
  have P5 := Lib.hid (P4.out.alloc (.cells #[.int .i64 mN, .int .i64 mD] 28))
  clear X4 K4 B4 P4
  have M5 := Lib.hid (Bk.new w4 28 #[.int .i64 mN, .int .i64 mD])
  obtain ⟨d0, d1, _, _⟩ := bk2v K5.out
  go_wp2
  go_region_held3 (fun w' : World => w'.cell? ⟨w.heap.size, 0, none⟩ = some (.slice A n c) ∧ w'.cell? ⟨w.heap.size, 1, none⟩ = some (.int .i64 o)) ((go_split_ands; simp [go_sem, *])) (first
    | (go_at_call 18; refine (CC.out _ B5.out.drew).mono ?_; rintro e wq ⟨⟨vq, rfl, hrowq⟩, hbq⟩; obtain ⟨Aq, cq, rfl, _, hrq⟩ := rd_of_own hrowq; have hxl := CCL.out; rw [hxl] at hrq ⊢; have Kq := (K5.out.drew).later hbq; obtain ⟨d0, d1, _, _⟩ := bk2v Kq)
    | (go_at_call 17; refine (CDf.out Aq cq _ hrq).mono ?_; rintro e w6 ⟨⟨Ay, cy, rfl, hry⟩, hbp⟩; have Kp := Kq.later hbp; obtain ⟨d0, d1, _, _⟩ := bk2v Kp))
  all_goals
    have hb := hbq.trans (hbp.mono hbq.size)
    clear d0 d1 hbq hbp Kq Kp hrq hrowq hxl
    have X6 := Lib.hid (X5.out.drew.below hb)
    have K6 := Lib.hid (K5.out.drew.later hb)
    have B6 := Lib.hid (B5.out.drew.trans (hb.mono B5.out.drew.size))
    have P6 := Lib.hid (P5.out.drew.later hb)
    have M6 := Lib.hid (M5.out.drew.later hb)
    clear hb X5 K5 B5 P5 M5
    have Y6 := Lib.hid hry
    clear hry
    obtain ⟨d0, d1, _, _⟩ := bk2v K6.out
    go_wp2_with fail
    refine (CSg.out _ X6.out).mono ?_
    rintro e w' ⟨rfl, rfl⟩
    go_wp2_with fail
    refine (CWi.out _).mono ?_
    rintro e w' ⟨rfl, rfl⟩
    go_wp2_with fail
    refine (CRD.out _ X6.out).mono ?_
    rintro e w7 ⟨⟨AYr, cYr, rfl, hrYr⟩, hb⟩
    have X7 := Lib.hid (X6.out.below hb)
    have K7 := Lib.hid (K6.out.later hb)
    have B7 := Lib.hid (B6.out.trans (hb.mono B6.out.size))
    have P7 := Lib.hid (P6.out.later hb)
    have M7 := Lib.hid (M6.out.later hb)
    have Y7 := Lib.hid (Y6.out.below hb)
    clear X6 K6 B6 P6 M6 Y6 hb
    have Yr7 := Lib.hid hrYr
    clear hrYr
    clear d0 d1
    go_wp2_with fail
    refine (ints_same _ _ _ _ _ _ _ Y7.out Yr7.out (by omega)).mono ?_
    rintro e w' ⟨rfl, kk, rfl⟩
    have X8 := Lib.hid (X7.out.drewN kk)
    have K8 := Lib.hid (K7.out.drewN kk)
    have B8 := Lib.hid (belowDrewN B7.out kk)
    have P8 := Lib.hid (P7.out.drewN kk)
    have M8 := Lib.hid (M7.out.drewN kk)
    have Y8 := Lib.hid (Y7.out.drewN kk)
    have Yr8 := Lib.hid (Yr7.out.drewN kk)
    clear X7 K7 B7 P7 M7 Y7 Yr7
    obtain ⟨w8, hw8⟩ : ∃ W, w7.drewN kk = W := ⟨_, rfl⟩
    rw [hw8] at X8 K8 B8 P8 M8 Y8 Yr8 ⊢
    clear hw8
    go_wp2_with fail
    refine (CD.out _).mono ?_
    rintro e w' ⟨rfl, rfl⟩
    obtain ⟨p0, p1, _, _⟩ := bk2v P8.out
    obtain ⟨q0, q1, _, _⟩ := bk2v M8.out
    go_wp2
    go_region_held3 (fun w' : World => w'.cell? ⟨w4.heap.size, 0, none⟩ = some (.int .i64 mN) ∧ w'.cell? ⟨w4.heap.size, 1, none⟩ = some (.int .i64 mD)) ((go_split_ands; simp [go_sem, *])) ((go_at_call 24; refine (CRM.out _).mono ?_; rintro e w9 ⟨rfl, hb⟩; have Mp := (M8.out.drew).later hb; obtain ⟨q0, q1, _, _⟩ := bk2v Mp))
    all_goals
      clear p0 p1 q0 q1 Mp
      have X9 := Lib.hid (X8.out.drew.below hb)
      have K9 := Lib.hid (K8.out.drew.later hb)
      have B9 := Lib.hid (B8.out.drew.trans (hb.mono B8.out.drew.size))
      have P9 := Lib.hid (P8.out.drew.later hb)
      have M9 := Lib.hid (M8.out.drew.later hb)
      have Y9 := Lib.hid (Y8.out.drew.below hb)
      have Yr9 := Lib.hid (Yr8.out.drew.below hb)
      clear hb X8 K8 B8 P8 M8 Y8 Yr8
      go_wp2_with fail
      refine (CFr.out _).mono ?_
      rintro e w' ⟨rfl, rfl⟩
      obtain ⟨p0, p1, _, _⟩ := bk2v P9.out
      go_wp2
      go_ret
      exact ⟨by simp, B9.out⟩

set_option maxRecDepth 100000 in
set_option maxHeartbeats 4000000 in
theorem rmw_kk (d f : Int) (A : Option Addr) (n c : Nat) (o : Int) (xs : List Int) (w : World) (m : Nat) (Ld : List Int) (hm : m ≤ 1000000) (mN mD : Int) (rN rD : Int) (hr : RdI w A n xs) (hn : n ≤ 402) (hsh : shortB n = true) (hA : A = none → n = 0 ∧ c = 0)
    (CRm : ∀ W, Calls Try.prog 15 #[.int .i64 d, .int .i64 f] W fun e w' => e = .returned (.tuple #[.agg #[.int .i64 rN, .int .i64 rD], .int .i64 0]) ∧ Below W.heap.size W w')
    (CMx : ∀ W, Calls Try.prog 16 #[.int .i64 d] W fun e w' => e = .returned (.tuple #[.agg #[.int .i64 mN, .int .i64 mD], .int .i64 0]) ∧ Below W.heap.size W w')
    (CDf : ∀ B cb W, RdI W B n xs → Calls Try.prog 17 #[.slice B n cb, .int .i64 o] W (RdRes W (0) m Ld))
    (CSg : ∀ W, RdI W A n xs → Calls Try.prog 19 #[.slice A n c] W fun e w' => e = .returned (.int .i64 0) ∧ W = w')
    (CWi : ∀ W, Calls Try.prog 20 #[.int .i64 o, .int .i64 1, .int .i64 4] W fun e w' => e = .returned (.bool true) ∧ W = w')
    (CRD : ∀ W, RdI W A n xs → Calls Try.prog 22 #[.slice A n c, .int .i64 o] W (RdOne W m Ld))
    (CD : ∀ W, Calls Try.prog 23 #[.int .i64 d] W fun e w' => e = .returned (.int .i64 0) ∧ W = w')
    (CRM : ∀ W, Calls Try.prog 24 #[.int .i64 d] W fun e w' => e = .returned (.agg #[.int .i64 mN, .int .i64 mD]) ∧ Below W.heap.size W w')
    (CFr : ∀ W, Calls Try.prog 25 #[.int .i64 f] W fun e w' => e = .returned (.int .i64 0) ∧ W = w')
    (CRR : ∀ W, Calls Try.prog 26 #[.int .i64 d, .int .i64 f] W fun e w' => e = .returned (.agg #[.int .i64 rN, .int .i64 rD]) ∧ Below W.heap.size W w')
    : Calls Try.prog 3 #[.int .i64 d, .int .i64 f, .agg #[.slice A n c, .int .i64 o]] w fun e w' => e = .returned (.bool true) ∧ Below w.heap.size w w' := by
  have CC : Hid (∀ W, Below w.heap.size w W → Calls Try.prog 18 #[.slice A n c] W (OwnS W xs)) := fun W hb => copyInts_any A n c xs W hA (hr.below hb) (by omega)
  have CCL : Hid (xs.length = n) := hr.1
  have CSh := Lib.hid (fun W => short_any A n c W (by omega))
  rw [hsh] at CSh
  have CRm := Lib.hid CRm
  have CMx := Lib.hid CMx
  have CDf := Lib.hid CDf
  have CSg := Lib.hid CSg
  have CWi := Lib.hid CWi
  have CRD := Lib.hid CRD
  have CD := Lib.hid CD
  have CRM := Lib.hid CRM
  have CFr := Lib.hid CFr
  have CRR := Lib.hid CRR
  have X0 := Lib.hid (hr.below (below1 w (.cells #[.slice A n c, .int .i64 o] 24)))
  have K0 := Lib.hid (Bk.new w 24 #[.slice A n c, .int .i64 o])
  have B0 := Lib.hid (below1 w (.cells #[.slice A n c, .int .i64 o] 24))
  clear hr hsh hA
  go_enter Try.func3, Try.ntmps3
  go_wp2_with fail
  refine (awake_any _).mono ?_
  rintro e w1 ⟨rfl, hb⟩
  have X1 := Lib.hid (X0.out.below hb)
  have K1 := Lib.hid (K0.out.later hb)
  have B1 := Lib.hid (B0.out.trans (hb.mono B0.out.size))
  clear X0 K0 B0 hb
  obtain ⟨d0, d1, _, _⟩ := bk2v K1.out
  go_wp2_with fail
  refine (CSh.out _).mono ?_
  rintro e w' ⟨rfl, rfl⟩
  clear d0 d1
  go_wp2_with fail
  refine (CRm.out _).mono ?_
  rintro e w2 ⟨rfl, hb⟩
  have X2 := Lib.hid (X1.out.below hb)
  have K2 := Lib.hid (K1.out.later hb)
  have B2 := Lib.hid (B1.out.trans (hb.mono B1.out.size))
  clear X1 K1 B1 hb
  have X3 := Lib.hid (X2.out.below (below1 w2 (.cells #[.int .i64 rN, .int .i64 rD] 28)))
  have K3 := Lib.hid (K2.out.alloc (.cells #[.int .i64 rN, .int .i64 rD] 28))
  have B3 := Lib.hid (B2.out.alloc B2.out.size (.cells #[.int .i64 rN, .int .i64 rD] 28))
  clear X2 K2 B2
  have P3 := Lib.hid (Bk.new w2 28 #[.int .i64 rN, .int .i64 rD])
  go_wp2_with fail
  refine (CMx.out _).mono ?_
  rintro e w4 ⟨rfl, hb⟩
  have X4 := Lib.hid (X3.out.below hb)
  have K4 := Lib.hid (K3.out.later hb)
  have B4 := Lib.hid (B3.out.trans (hb.mono B3.out.size))
  have P4 := Lib.hid (P3.out.later hb)
  clear X3 K3 B3 P3 hb
  have X5 := Lib.hid (X4.out.below (below1 w4 (.cells #[.int .i64 mN, .int .i64 mD] 28)))
  have K5 := Lib.hid (K4.out.alloc (.cells #[.int .i64 mN, .int .i64 mD] 28))
  have B5 := Lib.hid (B4.out.alloc B4.out.size (.cells #[.int .i64 mN, .int .i64 mD] 28))
  have P5 := Lib.hid (P4.out.alloc (.cells #[.int .i64 mN, .int .i64 mD] 28))
  clear X4 K4 B4 P4
  have M5 := Lib.hid (Bk.new w4 28 #[.int .i64 mN, .int .i64 mD])
  obtain ⟨d0, d1, _, _⟩ := bk2v K5.out
  go_wp2
  go_region_held3 (fun w' : World => w'.cell? ⟨w.heap.size, 0, none⟩ = some (.slice A n c) ∧ w'.cell? ⟨w.heap.size, 1, none⟩ = some (.int .i64 o)) ((go_split_ands; simp [go_sem, *])) (first
    | (go_at_call 18; refine (CC.out _ B5.out.drew).mono ?_; rintro e wq ⟨⟨vq, rfl, hrowq⟩, hbq⟩; obtain ⟨Aq, cq, rfl, _, hrq⟩ := rd_of_own hrowq; have hxl := CCL.out; rw [hxl] at hrq ⊢; have Kq := (K5.out.drew).later hbq; obtain ⟨d0, d1, _, _⟩ := bk2v Kq)
    | (go_at_call 17; refine (CDf.out Aq cq _ hrq).mono ?_; rintro e w6 ⟨⟨Ay, cy, rfl, hry⟩, hbp⟩; have Kp := Kq.later hbp; obtain ⟨d0, d1, _, _⟩ := bk2v Kp))
  all_goals
    have hb := hbq.trans (hbp.mono hbq.size)
    clear d0 d1 hbq hbp Kq Kp hrq hrowq hxl
    have X6 := Lib.hid (X5.out.drew.below hb)
    have K6 := Lib.hid (K5.out.drew.later hb)
    have B6 := Lib.hid (B5.out.drew.trans (hb.mono B5.out.drew.size))
    have P6 := Lib.hid (P5.out.drew.later hb)
    have M6 := Lib.hid (M5.out.drew.later hb)
    clear hb X5 K5 B5 P5 M5
    have Y6 := Lib.hid hry
    clear hry
    obtain ⟨d0, d1, _, _⟩ := bk2v K6.out
    go_wp2_with fail
    refine (CSg.out _ X6.out).mono ?_
    rintro e w' ⟨rfl, rfl⟩
    go_wp2_with fail
    refine (CWi.out _).mono ?_
    rintro e w' ⟨rfl, rfl⟩
    go_wp2_with fail
    refine (CRD.out _ X6.out).mono ?_
    rintro e w7 ⟨⟨AYr, cYr, rfl, hrYr⟩, hb⟩
    have X7 := Lib.hid (X6.out.below hb)
    have K7 := Lib.hid (K6.out.later hb)
    have B7 := Lib.hid (B6.out.trans (hb.mono B6.out.size))
    have P7 := Lib.hid (P6.out.later hb)
    have M7 := Lib.hid (M6.out.later hb)
    have Y7 := Lib.hid (Y6.out.below hb)
    clear X6 K6 B6 P6 M6 Y6 hb
    have Yr7 := Lib.hid hrYr
    clear hrYr
    clear d0 d1
    go_wp2_with fail
    refine (ints_same _ _ _ _ _ _ _ Y7.out Yr7.out (by omega)).mono ?_
    rintro e w' ⟨rfl, kk, rfl⟩
    have X8 := Lib.hid (X7.out.drewN kk)
    have K8 := Lib.hid (K7.out.drewN kk)
    have B8 := Lib.hid (belowDrewN B7.out kk)
    have P8 := Lib.hid (P7.out.drewN kk)
    have M8 := Lib.hid (M7.out.drewN kk)
    have Y8 := Lib.hid (Y7.out.drewN kk)
    have Yr8 := Lib.hid (Yr7.out.drewN kk)
    clear X7 K7 B7 P7 M7 Y7 Yr7
    obtain ⟨w8, hw8⟩ : ∃ W, w7.drewN kk = W := ⟨_, rfl⟩
    rw [hw8] at X8 K8 B8 P8 M8 Y8 Yr8 ⊢
    clear hw8
    go_wp2_with fail
    refine (CD.out _).mono ?_
    rintro e w' ⟨rfl, rfl⟩
    obtain ⟨p0, p1, _, _⟩ := bk2v P8.out
    obtain ⟨q0, q1, _, _⟩ := bk2v M8.out
    go_wp2
    go_region_held3 (fun w' : World => w'.cell? ⟨w4.heap.size, 0, none⟩ = some (.int .i64 mN) ∧ w'.cell? ⟨w4.heap.size, 1, none⟩ = some (.int .i64 mD)) ((go_split_ands; simp [go_sem, *])) ((go_at_call 24; refine (CRM.out _).mono ?_; rintro e w9 ⟨rfl, hb⟩; have Mp := (M8.out.drew).later hb; obtain ⟨q0, q1, _, _⟩ := bk2v Mp))
    all_goals
      clear p0 p1 q0 q1 Mp
      have X9 := Lib.hid (X8.out.drew.below hb)
      have K9 := Lib.hid (K8.out.drew.later hb)
      have B9 := Lib.hid (B8.out.drew.trans (hb.mono B8.out.drew.size))
      have P9 := Lib.hid (P8.out.drew.later hb)
      have M9 := Lib.hid (M8.out.drew.later hb)
      have Y9 := Lib.hid (Y8.out.drew.below hb)
      have Yr9 := Lib.hid (Yr8.out.drew.below hb)
      clear hb X8 K8 B8 P8 M8 Y8 Yr8
      go_wp2_with fail
      refine (CFr.out _).mono ?_
      rintro e w' ⟨rfl, rfl⟩
      obtain ⟨p0, p1, _, _⟩ := bk2v P9.out
      go_wp2
      go_region_held3 (fun w' : World => w'.cell? ⟨w2.heap.size, 0, none⟩ = some (.int .i64 rN) ∧ w'.cell? ⟨w2.heap.size, 1, none⟩ = some (.int .i64 rD)) ((go_split_ands; simp [go_sem, *])) ((go_at_call 26; refine (CRR.out _).mono ?_; rintro e w10 ⟨rfl, hb⟩; have Pp := (P9.out.drew).later hb; obtain ⟨p0, p1, _, _⟩ := bk2v Pp))
      all_goals
        clear p0 p1 Pp
        have X10 := Lib.hid (X9.out.drew.below hb)
        have K10 := Lib.hid (K9.out.drew.later hb)
        have B10 := Lib.hid (B9.out.drew.trans (hb.mono B9.out.drew.size))
        have P10 := Lib.hid (P9.out.drew.later hb)
        have M10 := Lib.hid (M9.out.drew.later hb)
        have Y10 := Lib.hid (Y9.out.drew.below hb)
        have Yr10 := Lib.hid (Yr9.out.drew.below hb)
        clear hb X9 K9 B9 P9 M9 Y9 Yr9
        go_wp2
        go_ret
        exact ⟨by simp, B10.out⟩

end Go.Proofs.Ytghpofhpkbgckaa


namespace Go.Proofs.Ytghpofhpkbgckaa
open Go.RowKit

set_option maxRecDepth 100000 in
set_option maxHeartbeats 1000000 in
theorem rem_far (d f : Int) (A : Option Addr) (n c : Nat) (o : Int) (w : World) (hn : n ≤ 9223372036854775807) (hsh : shortB n = false) :
    Calls Try.prog 3 #[.int .i64 d, .int .i64 f, .agg #[.slice A n c, .int .i64 o]] w fun e w' => e = .returned (.bool true) ∧ Below w.heap.size w w' := by
  have CSh := Lib.hid (fun W => short_any A n c W hn)
  rw [hsh] at CSh
  clear hsh
  have B0 := Lib.hid (below1 w (.cells #[.slice A n c, .int .i64 o] 24))
  have K0 := Lib.hid (Bk.new w 24 #[.slice A n c, .int .i64 o])
  go_enter Try.func3, Try.ntmps3
  go_wp2_with fail
  refine (awake_any _).mono ?_
  rintro e w1 ⟨rfl, hb⟩
  have B1 := Lib.hid (B0.out.trans (hb.mono B0.out.size))
  have K1 := Lib.hid (K0.out.later hb)
  clear hb B0 K0
  obtain ⟨d0, d1, _, _⟩ := bk2v K1.out
  go_wp2_with fail
  refine (CSh.out _).mono ?_
  rintro e w' ⟨rfl, rfl⟩
  go_wp2
  go_ret
  exact ⟨rfl, B1.out⟩
/-- What the degree and the fraction say. -/
theorem dif_S {xs : List Int} {o : Int} (h : ¬ sigE xs = 0) : difE xs o = sigE xs ∧ difL xs o = [] := by
  have e : difE xs o = sigE xs := by simp [difE, firstNZ, h]
  exact ⟨e, by unfold difL; rw [e, if_neg h]⟩
theorem dif_O {xs : List Int} {o : Int} (h : sigE xs = 0) (ho : ¬ rngE 1 4 [o] = 0) : difE xs o = 2 ∧ difL xs o = [] := by
  have e0 : rngE 1 4 [o] = 2 := by rcases rngE_01 1 4 [o] with h1 | h1 <;> omega
  have e : difE xs o = 2 := by simp [difE, firstNZ, h, e0]
  exact ⟨e, by unfold difL; rw [e]; rfl⟩
theorem dif_k {xs : List Int} {o : Int} (h : sigE xs = 0) (ho : rngE 1 4 [o] = 0) : difE xs o = 0 ∧ difL xs o = stN xs o.toNat := by
  have e : difE xs o = 0 := by simp [difE, firstNZ, h, ho]
  exact ⟨e, by unfold difL; rw [e, if_pos rfl]⟩
theorem df_to {xs L : List Int} {o E : Int} {n k : Nat} (h : difE xs o = E ∧ difL xs o = L) (hk : L.length = k) (hn : n ≤ 1000000) (B : Option Addr) (cb : Nat) (W : World) (hr : RdI W B n xs) :
    Calls Try.prog 17 #[.slice B n cb, .int .i64 o] W (RdRes W E k L) := by
  have := Differences_any B n cb xs o W hr hn
  rw [h.1, h.2, hk] at this
  exact this
theorem within_false {o lo hi : Int} (h : ¬ rngE lo hi [o] = 0) : fromB lo hi [o] = false := by
  unfold rngE at h
  by_cases h2 : fromB lo hi [o] = true
  · rw [if_pos h2] at h; exact absurd rfl h
  · simpa using h2
theorem within_true {o lo hi : Int} (h : rngE lo hi [o] = 0) : fromB lo hi [o] = true := by
  unfold rngE at h
  by_cases h2 : fromB lo hi [o] = true
  · exact h2
  · rw [if_neg h2] at h; cases h
theorem rem_walk1 (f : Int) (A : Option Addr) (n c : Nat) (o : Int) (xs : List Int) (w : World) (hr : RdI w A n xs) (hsh : shortB n = true) (hA : A = none → n = 0 ∧ c = 0) :
    Calls Try.prog 3 #[.int .i64 1, .int .i64 f, .agg #[.slice A n c, .int .i64 o]] w fun e w' => e = .returned (.bool true) ∧ Below w.heap.size w w' := by
  have hn := shortB_le hsh
  have CSg := fun W (h : RdI W A n xs) => refSignalErr_any A n c xs W h (by omega)
  have CWi := fun W => within_any o 1 4 W
  have CD := fun W => refDegreeErr_any 1 W
  rw [degE_of1] at CD
  have CFr := fun W => refFractionErr_any f W
  have CMx := fun W => MaximumRemainder1_any W
  have CRM := fun W => refMaximum1_any W
  rw [bst_eq1] at CRM
  dsimp only at CRM
  obtain ⟨mN, hmN⟩ : ∃ z, frN (mxR 1 64) 8192 = z := ⟨_, rfl⟩
  obtain ⟨mD, hmD⟩ : ∃ z, frD (mxR 1 64) 8192 = z := ⟨_, rfl⟩
  rw [hmN, hmD] at CMx CRM
  have CRm := fun W => RemainderAt_any 1 f W
  have hdf : degfE 1 f = frcE f := by simp only [degfE, firstNZ2, degE_of1, if_pos]
  unfold remN remD at CRm
  rw [hdf] at CRm
  by_cases hF : frcE f = 0
  · have hf : 0 ≤ f ∧ f ≤ 63 := rngE_zero hF
    have CRR := fun W => refRemainder1_any f W hf
    rw [hF] at CFr CRm
    rw [if_pos rfl, if_pos rfl] at CRm
    have e1 : remF 1 f = f * (f - 64) := by simp [remF]
    have e2 : rdn 1 = 8192 := by simp [rdn]
    rw [e1, e2] at CRm
    by_cases hS : sigE xs = 0
    rotate_left
    · exact rmw_Sk 1 f A n c o xs w _ hS _ _ _ _ hr hn hsh hA CRm CMx (fun B cb W h => df_to (dif_S hS) rfl (by omega) B cb W h) CSg CD CRM CFr CRR
    rw [hS] at CSg
    by_cases hO : rngE 1 4 [o] = 0
    rotate_left
    · rw [within_false hO] at CWi
      exact rmw_Ok 1 f A n c o xs w _ _ _ _ hr hn hsh hA CRm CMx (fun B cb W h => df_to (dif_O hS hO) rfl (by omega) B cb W h) CSg CWi CD CRM CFr CRR
    rw [within_true hO] at CWi
    have ho := rngE_zero hO
    obtain ⟨q, hq⟩ := Int.eq_ofNat_of_zero_le (show 0 ≤ o by omega)
    have hss := sigE_zero hS
    have hl := stN_len xs q
    have hd := dif_k hS hO
    subst hq
    rw [Int.toNat_natCast] at hd
    have CRD := fun W (h : RdI W A n xs) => refDifferences_any A n c xs q W h (by have := hr.1; omega) hA hss.2 (by omega)
    exact rmw_kk 1 f A n c (q : Int) xs w _ _ (by have := hr.1; omega) _ _ _ _ hr hn hsh hA CRm CMx (fun B cb W h => df_to hd rfl (by omega) B cb W h) CSg CWi CRD CD CRM CFr CRR
  · rw [if_neg hF, if_neg hF] at CRm
    by_cases hS : sigE xs = 0
    rotate_left
    · exact rmw_SF 1 f A n c o xs w _ hS _ hF _ _ hr hn hsh hA CRm CMx (fun B cb W h => df_to (dif_S hS) rfl (by omega) B cb W h) CSg CD CRM CFr
    rw [hS] at CSg
    by_cases hO : rngE 1 4 [o] = 0
    rotate_left
    · rw [within_false hO] at CWi
      exact rmw_OF 1 f A n c o xs w _ hF _ _ hr hn hsh hA CRm CMx (fun B cb W h => df_to (dif_O hS hO) rfl (by omega) B cb W h) CSg CWi CD CRM CFr
    rw [within_true hO] at CWi
    have ho := rngE_zero hO
    obtain ⟨q, hq⟩ := Int.eq_ofNat_of_zero_le (show 0 ≤ o by omega)
    have hss := sigE_zero hS
    have hl := stN_len xs q
    have hd := dif_k hS hO
    subst hq
    rw [Int.toNat_natCast] at hd
    have CRD := fun W (h : RdI W A n xs) => refDifferences_any A n c xs q W h (by have := hr.1; omega) hA hss.2 (by omega)
    exact rmw_kF 1 f A n c (q : Int) xs w _ _ (by have := hr.1; omega) _ hF _ _ hr hn hsh hA CRm CMx (fun B cb W h => df_to hd rfl (by omega) B cb W h) CSg CWi CRD CD CRM CFr
theorem rem_walk3 (f : Int) (A : Option Addr) (n c : Nat) (o : Int) (xs : List Int) (w : World) (hr : RdI w A n xs) (hsh : shortB n = true) (hA : A = none → n = 0 ∧ c = 0) :
    Calls Try.prog 3 #[.int .i64 3, .int .i64 f, .agg #[.slice A n c, .int .i64 o]] w fun e w' => e = .returned (.bool true) ∧ Below w.heap.size w w' := by
  have hn := shortB_le hsh
  have CSg := fun W (h : RdI W A n xs) => refSignalErr_any A n c xs W h (by omega)
  have CWi := fun W => within_any o 1 4 W
  have CD := fun W => refDegreeErr_any 3 W
  rw [degE_of3] at CD
  have CFr := fun W => refFractionErr_any f W
  have CMx := fun W => MaximumRemainder3_any W
  have CRM := fun W => refMaximum3_any W
  rw [bst_eq3] at CRM
  dsimp only at CRM
  obtain ⟨mN, hmN⟩ : ∃ z, frN (mxR 3 64) 402653184 = z := ⟨_, rfl⟩
  obtain ⟨mD, hmD⟩ : ∃ z, frD (mxR 3 64) 402653184 = z := ⟨_, rfl⟩
  rw [hmN, hmD] at CMx CRM
  have CRm := fun W => RemainderAt_any 3 f W
  have hdf : degfE 3 f = frcE f := by simp only [degfE, firstNZ2, degE_of3, if_pos]
  unfold remN remD at CRm
  rw [hdf] at CRm
  by_cases hF : frcE f = 0
  · have hf : 0 ≤ f ∧ f ≤ 63 := rngE_zero hF
    have CRR := fun W => refRemainder3_any f W hf
    rw [hF] at CFr CRm
    rw [if_pos rfl, if_pos rfl] at CRm
    have e1 : remF 3 f = (f + 64) * f * (f - 64) * (f - 128) := by simp [remF]
    have e2 : rdn 3 = 402653184 := by simp [rdn]
    rw [e1, e2] at CRm
    by_cases hS : sigE xs = 0
    rotate_left
    · exact rmw_Sk 3 f A n c o xs w _ hS _ _ _ _ hr hn hsh hA CRm CMx (fun B cb W h => df_to (dif_S hS) rfl (by omega) B cb W h) CSg CD CRM CFr CRR
    rw [hS] at CSg
    by_cases hO : rngE 1 4 [o] = 0
    rotate_left
    · rw [within_false hO] at CWi
      exact rmw_Ok 3 f A n c o xs w _ _ _ _ hr hn hsh hA CRm CMx (fun B cb W h => df_to (dif_O hS hO) rfl (by omega) B cb W h) CSg CWi CD CRM CFr CRR
    rw [within_true hO] at CWi
    have ho := rngE_zero hO
    obtain ⟨q, hq⟩ := Int.eq_ofNat_of_zero_le (show 0 ≤ o by omega)
    have hss := sigE_zero hS
    have hl := stN_len xs q
    have hd := dif_k hS hO
    subst hq
    rw [Int.toNat_natCast] at hd
    have CRD := fun W (h : RdI W A n xs) => refDifferences_any A n c xs q W h (by have := hr.1; omega) hA hss.2 (by omega)
    exact rmw_kk 3 f A n c (q : Int) xs w _ _ (by have := hr.1; omega) _ _ _ _ hr hn hsh hA CRm CMx (fun B cb W h => df_to hd rfl (by omega) B cb W h) CSg CWi CRD CD CRM CFr CRR
  · rw [if_neg hF, if_neg hF] at CRm
    by_cases hS : sigE xs = 0
    rotate_left
    · exact rmw_SF 3 f A n c o xs w _ hS _ hF _ _ hr hn hsh hA CRm CMx (fun B cb W h => df_to (dif_S hS) rfl (by omega) B cb W h) CSg CD CRM CFr
    rw [hS] at CSg
    by_cases hO : rngE 1 4 [o] = 0
    rotate_left
    · rw [within_false hO] at CWi
      exact rmw_OF 3 f A n c o xs w _ hF _ _ hr hn hsh hA CRm CMx (fun B cb W h => df_to (dif_O hS hO) rfl (by omega) B cb W h) CSg CWi CD CRM CFr
    rw [within_true hO] at CWi
    have ho := rngE_zero hO
    obtain ⟨q, hq⟩ := Int.eq_ofNat_of_zero_le (show 0 ≤ o by omega)
    have hss := sigE_zero hS
    have hl := stN_len xs q
    have hd := dif_k hS hO
    subst hq
    rw [Int.toNat_natCast] at hd
    have CRD := fun W (h : RdI W A n xs) => refDifferences_any A n c xs q W h (by have := hr.1; omega) hA hss.2 (by omega)
    exact rmw_kF 3 f A n c (q : Int) xs w _ _ (by have := hr.1; omega) _ hF _ _ hr hn hsh hA CRm CMx (fun B cb W h => df_to hd rfl (by omega) B cb W h) CSg CWi CRD CD CRM CFr
theorem remainders_walk (d f : Int) (A : Option Addr) (n c : Nat) (o : Int) (xs : List Int) (w : World) (hr : RdI w A n xs) (hn0 : n ≤ 9223372036854775807) (hA : A = none → n = 0 ∧ c = 0) :
    Calls Try.prog 3 #[.int .i64 d, .int .i64 f, .agg #[.slice A n c, .int .i64 o]] w fun e w' => e = .returned (.bool true) ∧ Below w.heap.size w w' := by
  by_cases hsh : shortB n = true
  rotate_left
  · exact rem_far d f A n c o w hn0 (by simpa using hsh)
  by_cases h1 : d = 1
  · subst h1; exact rem_walk1 f A n c o xs w hr hsh hA
  by_cases h3 : d = 3
  · subst h3; exact rem_walk3 f A n c o xs w hr hsh hA
  have hn := shortB_le hsh
  have hD := degE_no h1 h3
  have hDn : ¬ degE d = 0 := by rw [hD]; decide
  have CSg := fun W (h : RdI W A n xs) => refSignalErr_any A n c xs W h (by omega)
  have CWi := fun W => within_any o 1 4 W
  have CD := fun W => refDegreeErr_any d W
  have CMx := fun W => MaximumRemainder0_any d h1 h3 W
  rw [← hD] at CMx
  have CRm := fun W => RemainderAt_any d f W
  have hdf : degfE d f = degE d := by rw [degfE, firstNZ2, if_neg hDn]
  unfold remN remD at CRm
  rw [hdf, if_neg hDn, if_neg hDn] at CRm
  by_cases hS : sigE xs = 0
  rotate_left
  · exact rmw_SD d f A n c o xs w _ hS _ hDn hr hn hsh hA CRm CMx (fun B cb W h => df_to (dif_S hS) rfl (by omega) B cb W h) CSg CD
  rw [hS] at CSg
  by_cases hO : rngE 1 4 [o] = 0
  rotate_left
  · rw [within_false hO] at CWi
    exact rmw_OD d f A n c o xs w _ hDn hr hn hsh hA CRm CMx (fun B cb W h => df_to (dif_O hS hO) rfl (by omega) B cb W h) CSg CWi CD
  rw [within_true hO] at CWi
  have ho := rngE_zero hO
  obtain ⟨q, hq⟩ := Int.eq_ofNat_of_zero_le (show 0 ≤ o by omega)
  have hss := sigE_zero hS
  have hl := stN_len xs q
  have hd := dif_k hS hO
  subst hq
  rw [Int.toNat_natCast] at hd
  have CRD := fun W (h : RdI W A n xs) => refDifferences_any A n c xs q W h (by have := hr.1; omega) hA hss.2 (by omega)
  exact rmw_kD d f A n c (q : Int) xs w _ _ (by have := hr.1; omega) _ hDn hr hn hsh hA CRm CMx (fun B cb W h => df_to hd rfl (by omega) B cb W h) CSg CWi CRD CD

end Go.Proofs.Ytghpofhpkbgckaa

