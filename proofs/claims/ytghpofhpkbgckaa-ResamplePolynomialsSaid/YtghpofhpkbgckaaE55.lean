import Derived.Test.YtghpofhpkbgckaaE33

namespace Go.Proofs.Ytghpofhpkbgckaa
open Go.RowKit

theorem steps_bd {xs : List Int} {B : Int} (hB : 0 ≤ B) (h : ∀ x ∈ xs, -B ≤ x ∧ x ≤ B) : ∀ x ∈ steps xs, -(2 * B) ≤ x ∧ x ≤ 2 * B := by
  intro x hx
  unfold steps at hx
  obtain ⟨k, _, rfl⟩ := List.mem_map.1 hx
  have h1 := getD_bd hB h (k + 1)
  have h2 := getD_bd hB h k
  omega
/-- The differences of an order. -/
def stN (xs : List Int) : Nat → List Int
  | 0 => xs
  | j + 1 => steps (stN xs j)
theorem stN_bd {xs : List Int} (h : ∀ x ∈ xs, -32767 ≤ x ∧ x ≤ 32767) : ∀ j, j ≤ 4 → ∀ x ∈ stN xs j, -600000 ≤ x ∧ x ≤ 600000 := by
  intro j hj
  have h0 : ∀ x ∈ stN xs 0, -32767 ≤ x ∧ x ≤ 32767 := h
  have h1 := steps_bd (B := 32767) (by omega) h0
  have h2 := steps_bd (B := 65534) (by omega) h1
  have h3 := steps_bd (B := 131068) (by omega) h2
  have h4 := steps_bd (B := 262136) (by omega) h3
  rcases (by omega : j = 0 ∨ j = 1 ∨ j = 2 ∨ j = 3 ∨ j = 4) with rfl | rfl | rfl | rfl | rfl
  · intro x hx; have := h0 x hx; omega
  · intro x hx; have := h1 x hx; omega
  · intro x hx; have := h2 x hx; omega
  · intro x hx; have := h3 x hx; omega
  · intro x hx; have := h4 x hx; omega
theorem stN_len (xs : List Int) : ∀ j, (stN xs j).length ≤ xs.length
  | 0 => Nat.le_refl _
  | j + 1 => by show (steps (stN xs j)).length ≤ _; rw [steps_len]; have := stN_len xs j; omega
def difE (xs : List Int) (o : Int) : Int := firstNZ [sigE xs, rngE 1 4 [o]]
def difL (xs : List Int) (o : Int) : List Int := if difE xs o = 0 then stN xs o.toNat else []
set_option maxRecDepth 100000 in
set_option maxHeartbeats 2000000 in
theorem Differences_any (A : Option Addr) (n c : Nat) (xs : List Int) (o : Int) (w : World) (hr : RdI w A n xs) (hn : n ≤ 1000000) :
    Calls Try.prog 17 #[.slice A n c, .int .i64 o] w (RdRes w (difE xs o) (difL xs o).length (difL xs o)) := by
  have HR := Lib.hid hr
  have CS := Lib.hid (checkSignal_any A n c xs w hr (by omega))
  have HE : Hid (difE xs o = firstNZ [sigE xs, rngE 1 4 [o]]) := rfl
  have HL : Hid (difL xs o = if difE xs o = 0 then stN xs o.toNat else []) := rfl
  have HOK : Hid (difE xs o = 0 → (∀ x ∈ xs, -32767 ≤ x ∧ x ≤ 32767) ∧ (1 ≤ o ∧ o ≤ 4) ∧ n ≤ 400) := fun h => by
    have h2 := sigE_zero (firstNZ_zero h (sigE xs) (by simp))
    rw [hr.1] at h2
    exact ⟨h2.2, rngE_zero (firstNZ_zero h (rngE 1 4 [o]) (by simp)), h2.1⟩
  obtain ⟨L, hL⟩ : ∃ L, difL xs o = L := ⟨_, rfl⟩
  obtain ⟨E, hE⟩ : ∃ E, difE xs o = E := ⟨_, rfl⟩
  rw [hL] at HL ⊢
  rw [hE] at HE HL HOK ⊢
  obtain ⟨E1, hE1⟩ : ∃ E, sigE xs = E := ⟨_, rfl⟩
  have CF := Lib.hid (fun a b W (ha : W.cell? a = some (.int .i64 1)) (hb : W.cell? b = some (.int .i64 4)) => from1_any o 1 4 a b W ha hb)
  obtain ⟨E2, hE2⟩ : ∃ E, rngE 1 4 [o] = E := ⟨_, rfl⟩
  rw [hE1] at HE CS
  rw [hE2] at HE CF
  clear hL hE hE1 hE2 hr
  go_enter Try.func17, Try.ntmps17
  go_wp2_with fail
  refine CS.out.mono ?_
  rintro e w1 ⟨rfl, hb1⟩
  have B1 := Lib.hid hb1
  clear hb1 CS
  go_wp2_with fail
  refine (from_any 1 4 _).mono ?_
  rintro e w' ⟨rfl, rfl⟩
  go_wp2_with fail
  refine (CF.out _ _ _ ?_ ?_).mono ?_
  · simp [go_sem]
  · simp [go_sem]
  rintro e w' ⟨rfl, rfl⟩
  go_wp2_with fail
  refine (firstError2 (E1 := E1) (E2 := E2) (F := E) HE.out.symm _ _ ?_ ?_).mono ?_
  · simp [go_sem]
  · simp [go_sem]
  rintro e w' ⟨rfl, rfl⟩
  have B3 := Lib.hid (B1.out.trans ((below3 w1 (.cells #[.int .i64 1] 3) (.cells #[.int .i64 4] 3) (.cells #[.int .i64 E1, .int .i64 E2] 29)).mono B1.out.size))
  obtain ⟨W3, hW3⟩ : ∃ W3, ((w1.alloc (.cells #[.int .i64 1] 3)).alloc (.cells #[.int .i64 4] 3)).alloc (.cells #[.int .i64 E1, .int .i64 E2] 29) = W3 := ⟨_, rfl⟩
  rw [hW3] at B3 ⊢
  clear hW3 HE CF B1
  by_cases h0 : E = 0
  · subst h0
    obtain ⟨hxs, ho, hn4⟩ := HOK.out rfl
    have hL := HL.out
    rw [if_pos rfl] at hL
    obtain ⟨q, hq⟩ := Int.eq_ofNat_of_zero_le (show 0 ≤ o by omega)
    subst hq
    rw [Int.toNat_natCast] at hL
    subst hL
    have HBD := Lib.hid (stN_bd hxs)
    have HLN := Lib.hid (stN_len xs)
    have HXL : Hid (xs.length = n) := HR.out.1
    have hq4 : q ≤ 4 := by omega
    clear HOK HL hxs ho
    go_wp2
    go_loopw [7, 20] (fun p i wr => ∃ (j m' c' : Nat) (A' : Option Addr), j ≤ q ∧ i = .int .i64 j ∧ p = .slice A' m' c' ∧ Hid (RdI wr A' m' (stN xs j)) ∧ Hid (Below w.heap.size w wr)) (fun _ i _ => q - (intOf i).toNat)
    case atStart => exact ⟨0, n, c, A, Nat.zero_le _, rfl, rfl, HR.out.below B3.out, B3.out⟩
    case round =>
      obtain ⟨j, m', c', A', hj, rfl, rfl, HI, HB⟩ := hrel
      by_cases hlt : j < q
      · have hjI : (j : Int) < (q : Int) := by omega
        have hm' : m' ≤ 1000000 := by have h1 := HI.out.1; have h2 := HLN.out j; have h3 := HXL.out; omega
        have CT := Lib.hid (stepsOf_any A' m' c' (stN xs j) wr HI.out hm' (fun x hx => by have := HBD.out j (by omega) x hx; omega))
        go_wp2_with fail
        refine CT.out.mono ?_
        rintro e w5 ⟨⟨v, rfl, hown⟩, hb5⟩
        obtain ⟨A5, c5, rfl, _, hr5⟩ := rd_of_own hown
        have HI5 : Hid (RdI w5 A5 (steps (stN xs j)).length (stN xs (j + 1))) := hr5
        have HB5 : Hid (Below w.heap.size w w5) := HB.out.trans (hb5.mono HB.out.size)
        clear hown hr5 hb5 CT
        obtain ⟨m5, hm5⟩ : ∃ m, (steps (stN xs j)).length = m := ⟨_, rfl⟩
        rw [hm5] at HI5 ⊢
        clear hm5
        go_wp2
        go_roundw
        case rel => exact ⟨j + 1, m5, c5, A5, by omega, by go_num, rfl, HI5, HB5⟩
        case measure => simp [intOf]; omega
      · obtain rfl : q = j := by omega
        have hjI : ¬ (q : Int) < (q : Int) := by omega
        clear hlt
        go_wp2
        go_ret2
        have h1 := HI.out.1
        exact ⟨⟨A', c', by rw [h1]; rfl, by rw [h1]; exact HI.out⟩, HB.out⟩
  · have d1 : (E != 0) = true := by rw [bne_iff_ne]; exact h0
    have hL := HL.out
    rw [if_neg h0] at hL
    subst hL
    clear HOK HL h0
    go_wp2
    go_ret2
    exact ⟨⟨none, 0, rfl, ⟨rfl, fun h => absurd h (by simp)⟩⟩, B3.out⟩
set_option maxRecDepth 100000 in
set_option maxHeartbeats 4000000 in
theorem refDifferences_any (A : Option Addr) (n c : Nat) (xs : List Int) (q : Nat) (w : World) (hr : RdI w A n xs) (hn : n ≤ 400) (hA : A = none → n = 0 ∧ c = 0) (hxs : ∀ x ∈ xs, -32767 ≤ x ∧ x ≤ 32767) (hq4 : q ≤ 4) :
    Calls Try.prog 22 #[.slice A n c, .int .i64 (q : Int)] w (RdOne w (stN xs q).length (stN xs q)) := by
  have CC := Lib.hid (copyInts_any A n c xs w hA hr (by omega))
  have HBD := Lib.hid (stN_bd hxs)
  have HLN := Lib.hid (stN_len xs)
  have HXL : Hid (xs.length = n) := hr.1
  clear hr hA hxs
  obtain ⟨i0, hi0, hza, hzb, hzc⟩ := info_parts intInfo'
  go_enter Try.func22, Try.ntmps22
  go_wp2_with fail
  refine CC.out.mono ?_
  rintro e w1 ⟨⟨v1, rfl, hown1⟩, hb1⟩
  obtain ⟨A1, c1, rfl, _, hr1⟩ := rd_of_own hown1
  have HI0 := Lib.hid hr1
  have HB0 := Lib.hid hb1
  obtain ⟨m1, hm1⟩ : ∃ m, xs.length = m := ⟨_, rfl⟩
  rw [hm1] at HI0 ⊢
  clear hown1 hr1 hb1 CC hm1
  go_wp2
  go_loopw [5, 6] (fun p i W1 => ∃ (j m' c' : Nat) (A' : Option Addr), j ≤ q ∧ i = .int .i64 j ∧ p = .slice A' m' c' ∧ Hid (RdI W1 A' m' (stN xs j)) ∧ Hid (Below w.heap.size w W1)) (fun _ i _ => q - (intOf i).toNat)
  case atStart => exact ⟨0, m1, c1, A1, Nat.zero_le _, rfl, rfl, HI0, HB0⟩
  case round =>
    obtain ⟨j, n, c, A, hj, rfl, rfl, HR, HB1⟩ := hrel
    obtain ⟨W1, hW1⟩ : ∃ W, W = wr := ⟨_, rfl⟩
    subst hW1
    by_cases hlj : j < q
    · have hjI : (j : Int) < (q : Int) := by omega
      have hn' : n ≤ 1000000 := by have h1 := HR.out.1; have h2 := HLN.out j; have h3 := HXL.out; omega
      have HX : Hid (∀ k, -1000000000000 ≤ (stN xs j).getD k 0 ∧ (stN xs j).getD k 0 ≤ 1000000000000) := fun k => getD_bd (by omega) (fun x hx => by have := HBD.out j (by omega) x hx; omega) k
      have HST : Hid (∀ k, k + 1 < n → (steps (stN xs j)).take (k + 1) = (steps (stN xs j)).take k ++ [(stN xs j).getD (k + 1) 0 - (stN xs j).getD k 0]) := fun k hk => steps_take (stN xs j) k (by have := HR.out.1; omega)
      have HSL : Hid ((steps (stN xs j)).length = n - 1) := by show _ = _; rw [steps_len, HR.out.1]
      have HSN0 : Hid (stN xs (j + 1) = steps (stN xs j)) := rfl
      obtain ⟨st, hst⟩ : ∃ st, steps (stN xs j) = st := ⟨_, rfl⟩
      rw [hst] at HST HSL HSN0
      clear hst
      obtain ⟨ys, hys⟩ : ∃ ys, stN xs j = ys := ⟨_, rfl⟩
      rw [hys] at HX HST HR
      clear hys
      go_wp2
      go_loopw [7, 8] (fun p i wr => ∃ k : Nat, k ≤ n - 1 ∧ i = .int .i64 ((k : Int) + 1) ∧ Hid (wr.ownsRow W1.heap.size 3 1 p k ((st.take k).map (Value.int .i64))) ∧ Hid (Below W1.heap.size W1 wr)) (fun _ i _ => n - (intOf i).toNat)
      case atStart => exact ⟨0, Nat.zero_le _, rfl, Lib.hid (World.ownsRow_nil _ _ _ _), Lib.hid (Below.refl _ _)⟩
      case round =>
        obtain ⟨k, hk, rfl, HI, HB⟩ := hrel
        obtain ⟨A2, cap2, hp, _, _⟩ := rd_of_own HI.out
        subst hp
        by_cases hlt : k + 1 < n
        · have hkI : (k : Int) + 1 < (n : Int) := by omega
          obtain ⟨ad, rfl, hadb, hca⟩ := HR.out.2 (by omega)
          have hc1w : W1.cell? (ad.add (k + 1)) = some (.int .i64 (ys.getD (k + 1) 0)) := hca (k + 1) hlt
          have hc0w : W1.cell? (ad.add k) = some (.int .i64 (ys.getD k 0)) := hca k (by omega)
          clear hca
          have HSN := Lib.hid (HST.out k hlt)
          have b1 := HX.out (k + 1)
          have b0 := HX.out k
          obtain ⟨x, hx⟩ : ∃ x, ys.getD (k + 1) 0 = x := ⟨_, rfl⟩
          obtain ⟨y, hy⟩ : ∃ y, ys.getD k 0 = y := ⟨_, rfl⟩
          rw [hx] at hc1w HSN b1
          rw [hy] at hc0w HSN b0
          clear hx hy
          have w1 : IntKind.i64.wrap (x - y) = x - y := IntWalk.i64_in _ (by omega)
          obtain ⟨k1, hk1⟩ : ∃ k1, k + 1 = k1 := ⟨_, rfl⟩
          have hk1I : (k : Int) + 1 = (k1 : Int) := by omega
          rw [hk1] at hc1w
          rw [hk1I]
          have w2 : IntKind.i64.wrap ((k1 : Int) - 1) = (k : Int) := by rw [← hk1I, show (k : Int) + 1 - 1 = (k : Int) by omega]; exact IntWalk.i64_in _ (by omega)
          have w3 : IntKind.i64.wrap ((k1 : Int) + 1) = (k1 : Int) + 1 := IntWalk.i64_in _ (by omega)
          have hk1n : (k1 : Int) < (n : Int) := by omega
          have hkn : (k : Int) < (n : Int) := by omega
          have hk10 : (0 : Int) ≤ (k1 : Int) := by omega
          have hk00 : (0 : Int) ≤ (k : Int) := by omega
          have hlt1 : k1 < n := by omega
          have hlt0 : k < n := by omega
          have hkk : k < n - 1 := by omega
          have HK1J := Lib.hid hk1
          clear hk1I hkI hk1
          have HSK : Hid (∀ W, Below W1.heap.size W1 W → (fun w' : World => w'.cell? (ad.add k1) = some (.int .i64 x) ∧ w'.cell? (ad.add k) = some (.int .i64 y)) W) := fun W hb => ⟨(hb.cell (by rw [addBlock]; exact hadb)).trans hc1w, (hb.cell (by rw [addBlock]; exact hadb)).trans hc0w⟩
          clear hc1w hc0w
          go_wp2
          refine wp_region_held_drew (S := (fun w' : World => w'.cell? (ad.add k1) = some (.int .i64 x) ∧ w'.cell? (ad.add k) = some (.int .i64 y))) (by kernel_rfl) ?_ ?_
          · exact HSK.out _ HB.out.drew
          intro hHeld
          refine wpAnyH_take (i := 0) (v := ?_) rfl (by kernel_rfl) (by kernel_rfl) (by kernel_rfl) (fun _ _ _ h => h) (Or.inl ⟨by rfl, ?_⟩) (by assumption) ?_
          rotate_left
          · intro w hSw; (try dsimp only at hSw); go_simp; (try (with_reducible rfl))
          try simp only [List.getElem_toArray, List.getElem_cons_succ, List.getElem_cons_zero, Act.put, List.setIfInBounds_toArray, List.set_cons_zero, List.set_cons_succ]
          refine wpAnyH_take (i := 1) (v := ?_) rfl (by kernel_rfl) (by kernel_rfl) (by kernel_rfl) (fun _ _ _ h => h) (Or.inl ⟨by rfl, ?_⟩) (by assumption) ?_
          rotate_left
          · intro w hSw; (try dsimp only at hSw); go_simp; (try (with_reducible rfl))
          try simp only [List.getElem_toArray, List.getElem_cons_succ, List.getElem_cons_zero, Act.put, List.setIfInBounds_toArray, List.set_cons_zero, List.set_cons_succ]
          refine wpAnyH_take (i := 2) (v := ?_) rfl (by kernel_rfl) (by kernel_rfl) (by kernel_rfl) (fun _ _ _ h => h) (Or.inl ⟨by rfl, ?_⟩) (by assumption) ?_
          rotate_left
          · intro w hSw; (try dsimp only at hSw); go_simp; (try (with_reducible rfl))
          try simp only [List.getElem_toArray, List.getElem_cons_succ, List.getElem_cons_zero, Act.put, List.setIfInBounds_toArray, List.set_cons_zero, List.set_cons_succ]
          refine wpAnyH_take (i := 3) (v := ?_) rfl (by kernel_rfl) (by kernel_rfl) (by kernel_rfl) (fun _ _ _ h => h) (Or.inl ⟨by rfl, ?_⟩) (by assumption) ?_
          rotate_left
          · intro w hSw; (try dsimp only at hSw); go_simp; (try (with_reducible rfl))
          try simp only [List.getElem_toArray, List.getElem_cons_succ, List.getElem_cons_zero, Act.put, List.setIfInBounds_toArray, List.set_cons_zero, List.set_cons_succ]
          refine wpAnyH_take (i := 4) (v := ?_) rfl (by kernel_rfl) (by kernel_rfl) (by kernel_rfl) (fun _ _ _ h => h) (Or.inl ⟨by rfl, ?_⟩) (by assumption) ?_
          rotate_left
          · intro w hSw; (try dsimp only at hSw); go_simp; (try (with_reducible rfl))
          try simp only [List.getElem_toArray, List.getElem_cons_succ, List.getElem_cons_zero, Act.put, List.setIfInBounds_toArray, List.set_cons_zero, List.set_cons_succ]
          refine wpAnyH_take (i := 5) (v := ?_) rfl (by kernel_rfl) (by kernel_rfl) (by kernel_rfl) (fun _ _ _ h => h) (Or.inl ⟨by rfl, ?_⟩) (by assumption) ?_
          rotate_left
          · intro w hSw; (try dsimp only at hSw); go_simp; (try (with_reducible rfl))
          try simp only [List.getElem_toArray, List.getElem_cons_succ, List.getElem_cons_zero, Act.put, List.setIfInBounds_toArray, List.set_cons_zero, List.set_cons_succ]
          refine wpAnyH_take (i := 6) (v := ?_) rfl (by kernel_rfl) (by kernel_rfl) (by kernel_rfl) (fun _ _ _ h => h) (Or.inl ⟨by rfl, ?_⟩) (by assumption) ?_
          rotate_left
          · intro w hSw; (try dsimp only at hSw); go_simp; (try (with_reducible rfl))
          try simp only [List.getElem_toArray, List.getElem_cons_succ, List.getElem_cons_zero, Act.put, List.setIfInBounds_toArray, List.set_cons_zero, List.set_cons_succ]
          refine wpAnyH_take (i := 7) (v := ?_) rfl (by kernel_rfl) (by kernel_rfl) (by kernel_rfl) (fun _ _ _ h => h) (Or.inl ⟨by rfl, ?_⟩) (by assumption) ?_
          rotate_left
          · intro w hSw; (try dsimp only at hSw); go_simp; (try (with_reducible rfl))
          try simp only [List.getElem_toArray, List.getElem_cons_succ, List.getElem_cons_zero, Act.put, List.setIfInBounds_toArray, List.set_cons_zero, List.set_cons_succ]
          refine wpAnyH_take (i := 8) (v := ?_) rfl (by kernel_rfl) (by kernel_rfl) (by kernel_rfl) (fun _ _ _ h => h) (Or.inl ⟨by rfl, ?_⟩) (by assumption) ?_
          rotate_left
          · intro w hSw; (try dsimp only at hSw); go_simp; (try (with_reducible rfl))
          try simp only [List.getElem_toArray, List.getElem_cons_succ, List.getElem_cons_zero, Act.put, List.setIfInBounds_toArray, List.set_cons_zero, List.set_cons_succ]
          refine wpAnyH_take (i := 9) (v := ?_) rfl (by kernel_rfl) (by kernel_rfl) (by kernel_rfl) (fun _ _ _ h => h) (Or.inl ⟨by rfl, ?_⟩) (by assumption) ?_
          rotate_left
          · intro w hSw; (try dsimp only at hSw); go_simp; (try (with_reducible rfl))
          try simp only [List.getElem_toArray, List.getElem_cons_succ, List.getElem_cons_zero, Act.put, List.setIfInBounds_toArray, List.set_cons_zero, List.set_cons_succ]
          refine wpAnyH_take (i := 10) (v := ?_) rfl (by kernel_rfl) (by kernel_rfl) (by kernel_rfl) (fun _ _ _ h => h) (Or.inl ⟨by rfl, ?_⟩) (by assumption) ?_
          rotate_left
          · intro w hSw; (try dsimp only at hSw); go_simp; (try (with_reducible rfl))
          try simp only [List.getElem_toArray, List.getElem_cons_succ, List.getElem_cons_zero, Act.put, List.setIfInBounds_toArray, List.set_cons_zero, List.set_cons_succ]
          refine wpAnyH_ready (rs := [11]) (by kernel_rfl) (by simp) ?_
          refine AllReadyH.cons rfl (fun K hK => ?_) AllReadyH.nil
          go_simp
          refine hK.out _ _ ?_ (fun hHeld => ?_)
          · clear hK K; exact HSK.out _ (HB.out.drew.alloc HB.out.drew.size _)
          clear hK K
          try simp only [List.getElem_toArray, List.getElem_cons_succ, List.getElem_cons_zero, Act.put, List.setIfInBounds_toArray, List.set_cons_zero, List.set_cons_succ]
          refine wpAnyH_ready (rs := [12]) (by kernel_rfl) (by simp) ?_
          refine AllReadyH.cons rfl (fun K hK => ?_) AllReadyH.nil
          refine step_append_at _ rfl (.tmp 22) (.tmp 33) 22 rfl W1.heap.size 3 i0 _ 1 8 Try.underlying22 hi0 hza hzb hzc rfl (by decide) _ k _ rfl (HI.out.drew.alloc _) ⟨wr.heap.size, 0, none⟩ 1 1 [.int .i64 (x - y)] rfl rfl (cell_one_new _ _ _) (by simp [Value.oneCell']) (by simp only [maxLen]; omega) (by omega) (by have := HB.out.drew.size; simp at this ⊢; omega) ?_
          intro v' w4 hown' hgrow _ hat
          obtain ⟨g', cap', rfl⟩ := ownsRow_succ hown'
          have HB4 : Hid (Below W1.heap.size W1 w4) := (HB.out.drew.alloc HB.out.drew.size _).grown hgrow (by have := HB.out.drew.size; simp at this ⊢; omega) (fun z e => (HI.out.lt z e).1)
          have HO4 : Hid (w4.ownsRow W1.heap.size 3 1 (.slice (some ⟨g', 0, none⟩) (k + 1) cap') (k + 1) ((st.take (k + 1)).map (Value.int .i64))) := by
            refine Lib.hid ?_
            rw [HSN.out, List.map_append]
            exact hown'
          clear hown' hgrow hat
          refine hK.out _ _ ?_ (fun hHeld => ?_)
          · clear hK K; exact HSK.out _ HB4.out
          clear hK K
          try simp only [List.getElem_toArray, List.getElem_cons_succ, List.getElem_cons_zero, Act.put, List.setIfInBounds_toArray, List.set_cons_zero, List.set_cons_succ]
          refine wpAnyH_take (i := 13) (v := ?_) rfl (by kernel_rfl) (by kernel_rfl) (by kernel_rfl) (fun _ _ _ h => h) (Or.inl ⟨by rfl, ?_⟩) (by assumption) ?_
          rotate_left
          · intro w hSw; (try dsimp only at hSw); go_simp; (try (with_reducible rfl))
          try simp only [List.getElem_toArray, List.getElem_cons_succ, List.getElem_cons_zero, Act.put, List.setIfInBounds_toArray, List.set_cons_zero, List.set_cons_succ]
          refine wpAnyH_done (by kernel_rfl) ?_ _
          clear hHeld HSK
          go_wp2
          go_roundw
          case rel => exact ⟨k + 1, by omega, by rw [← HK1J.out], HO4, HB4⟩
          case measure => simp [intOf]; omega
        · obtain rfl : k = n - 1 := by omega
          have HFI : Hid (RdI wr A2 (n - 1) (stN xs (j + 1))) := by
            have h1 := HI.out
            have hz := HSL.out
            rw [List.take_of_length_le (by omega)] at h1
            obtain ⟨A3, c3, he, _, h3⟩ := rd_of_own h1
            injection he with e1 e2 e3
            subst e1
            show RdI _ _ _ _
            rw [HSN0.out]
            exact h3
          have HFB : Hid (Below w.heap.size w wr) := HB1.out.trans (HB.out.mono HB1.out.size)
          clear HI HB
          go_wp2
          go_roundw
          case rel => exact ⟨j + 1, n - 1, cap2, A2, by omega, by go_num, rfl, HFI, HFB⟩
          case measure => simp [intOf]; omega
    · obtain rfl : q = j := by omega
      have hjI : ¬ (q : Int) < (q : Int) := by omega
      clear hlj
      go_wp2
      go_ret
      have h1 := HR.out.1
      exact ⟨⟨A, c, by rw [h1]; rfl, by rw [h1]; exact HR.out⟩, HB1.out⟩

end Go.Proofs.Ytghpofhpkbgckaa
