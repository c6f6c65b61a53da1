import Derived.Test.YtepcciodhppbnaaE61

namespace Go.Proofs.Ytepcciodhppbnaa
open Go.RowKit

theorem bkf2 {W : World} {g : Nat} {t : TypeId} {x y : Value} (h : Bk W g t #[x, y]) : W.cell? ⟨g, 0, none⟩ = some x ∧ W.cell? ⟨g, 1, none⟩ = some y :=
  ⟨by rw [h.cell]; rfl, by rw [h.cell]; rfl⟩
def flsE (cs : List Int) (b : Int) (xs : List Int) : Int := firstNZ [fltE cs b, sigE xs]
def flsL (cs : List Int) (b : Int) (xs : List Int) : List Int := if flsE cs b xs = 0 then filt cs b xs else []
theorem div_bd {n d : Int} {M : Int} (hM : 0 ≤ M) (h : -M ≤ n ∧ n ≤ M) (hd : 0 < d) : -M ≤ n / d ∧ n / d ≤ M := by
  constructor
  · rw [Int.le_ediv_iff_mul_le hd]
    have : (-M) * d ≤ (-M) * 1 := Int.mul_le_mul_of_nonpos_left (by omega) (by omega)
    omega
  · have : n / d < M + 1 := by
      rw [Int.ediv_lt_iff_lt_mul hd]
      have : (M + 1) * 1 ≤ (M + 1) * d := Int.mul_le_mul_of_nonneg_left (by omega) (by omega)
      omega
    omega
set_option maxRecDepth 100000 in
set_option maxHeartbeats 4000000 in
theorem Filtered_any (A : Option Addr) (n c : Nat) (b : Int) (cs : List Int) (B : Option Addr) (m d : Nat) (xs : List Int) (w : World) (hr : RdI w A n cs) (hn : n ≤ 1000000) (hx : RdI w B m xs) (hm : m ≤ 1000000) :
    Calls Try.prog 34 #[.agg #[.slice A n c, .int .i64 b], .slice B m d] w (OwnRes w (flsE cs b xs) (flsL cs b xs)) := by
  have HR := Lib.hid hr
  have HX := Lib.hid hx
  have HXL : Hid (xs.length = m) := hx.1
  have HCN : Hid (cs.length = n) := hr.1
  have CQ : Hid (∀ W, Below w.heap.size w W → Calls Try.prog 79 #[.agg #[.slice A n c, .int .i64 b]] W fun e w' => e = .returned (.int .i64 (fltE cs b)) ∧ Below W.heap.size W w') := fun W hb => CheckFilter_any A n c cs b W (hr.below hb) (by omega)
  have CG : Hid (∀ W, Below w.heap.size w W → Calls Try.prog 71 #[.slice B m d] W fun e w' => e = .returned (.int .i64 (sigE xs)) ∧ Below W.heap.size W w') := fun W hb => checkSignal_any B m d xs W (hx.below hb) (by omega)
  have HE : Hid (firstNZ [fltE cs b, sigE xs] = flsE cs b xs) := rfl
  have HL1 : Hid (flsL cs b xs = if flsE cs b xs = 0 then filt cs b xs else []) := rfl
  have HOK : Hid (flsE cs b xs = 0 → ((1 ≤ cs.length ∧ cs.length ≤ 8) ∧ (∀ c ∈ cs, -1000 ≤ c ∧ c ≤ 1000) ∧ 1 ≤ b ∧ b ≤ 1000) ∧ xs.length ≤ 400 ∧ ∀ x ∈ xs, -32767 ≤ x ∧ x ≤ 32767) := fun h =>
    ⟨fltE_zero (firstNZ_zero h (fltE cs b) (by simp)), sigE_zero (firstNZ_zero h (sigE xs) (by simp))⟩
  obtain ⟨L, hL⟩ : ∃ L, flsL cs b xs = L := ⟨_, rfl⟩
  rw [hL] at HL1 ⊢
  obtain ⟨E, hE⟩ : ∃ E, flsE cs b xs = E := ⟨_, rfl⟩
  rw [hE] at HE HL1 HOK ⊢
  obtain ⟨E1, hE1⟩ : ∃ E, fltE cs b = E := ⟨_, rfl⟩
  obtain ⟨E2, hE2⟩ : ∃ E, sigE xs = E := ⟨_, rfl⟩
  rw [hE1] at HE CQ
  rw [hE2] at HE CG
  clear hL hE hE1 hE2 hr hx
  obtain ⟨i0, hi0, hza, hzb, hzc⟩ := info_parts intInfo'
  have R0 := Lib.hid (OneB.start w 52 #[.slice A n c, .int .i64 b])
  go_enter Try.func34, Try.ntmps34
  obtain ⟨c0, c1⟩ := bkf2 R0.out.k
  go_wp2_with fail
  refine (CQ.out _ R0.out.b).mono ?_
  rintro e w1 ⟨rfl, hb1⟩
  have R1 := Lib.hid (OneB.later hb1 R0.out)
  clear hb1 R0 c0 c1
  go_wp2_with fail
  refine (CG.out _ R1.out.b).mono ?_
  rintro e w2 ⟨rfl, hb2⟩
  have R2 := Lib.hid ((OneB.later hb2 R1.out).alloc (.cells #[.int .i64 E1, .int .i64 E2] 30))
  clear hb2 R1
  go_wp2_with fail
  refine (firstError2 (E1 := E1) (E2 := E2) (F := E) HE.out _ _ ?_ ?_).mono ?_
  · simp [go_sem]
  · simp [go_sem]
  rintro e w' ⟨rfl, rfl⟩
  obtain ⟨W3, hW3⟩ : ∃ W3, w2.alloc (.cells #[.int .i64 E1, .int .i64 E2] 30) = W3 := ⟨_, rfl⟩
  rw [hW3] at R2 ⊢
  clear hW3 HE CQ CG
  by_cases h0 : E = 0
  · subst h0
    obtain ⟨hok, hm4, hxs⟩ := HOK.out rfl
    have HCL : Hid (cs.length ≤ 8) := hok.1.2
    have hL := HL1.out
    rw [if_pos rfl] at hL
    have HST := Lib.hid (fun k (hk : k < m) => filt_take cs b xs k (by have := HXL.out; omega))
    have HFB := Lib.hid (fun k => fsum_bd (cs := cs) (xs := xs) HCL.out hok.2.1 (fun x hx => by have := hxs x hx; omega) k)
    have HLL : Hid ((filt cs b xs).length = m) := by show _ = _; rw [filt_len]; exact HXL.out
    have CSum : Hid (∀ k, k < m → ∀ W, Below W3.heap.size W3 W → Calls Try.prog 83 #[.slice A n c, .slice B m d, .int .i64 (k : Int)] W fun e w' => e = .returned (.int .i64 (fsum cs xs k)) ∧ W = w') := fun k hk W hb =>
      sumAt_any A n c cs B m d xs k W ((HR.out.below R2.out.b).below hb) (by have := HCN.out; omega) hok.2.1 ((HX.out.below R2.out.b).below hb) hk hm (fun x hx => by have := hxs x hx; omega)
    have HSK : Hid (∀ W, Below W3.heap.size W3 W → (fun w' : World => w'.cell? ⟨w.heap.size, 0, none⟩ = some (.slice A n c) ∧ w'.cell? ⟨w.heap.size, 1, none⟩ = some (.int .i64 b)) W) := fun W hb => bkf2 (R2.out.k.later hb)
    have hb0 := hok.2.2
    rw [← hL] at HST HLL
    have HRB := Lib.hid R2.out.b
    clear HOK HL1 hL hok hxs hm4 R2
    go_wp2
    go_loopw [7, 20] (fun p i wr => ∃ k : Nat, k ≤ m ∧ i = .int .i64 k ∧ Hid (wr.ownsRow W3.heap.size 3 1 p k ((L.take k).map (Value.int .i64))) ∧ Hid (Below W3.heap.size W3 wr)) (fun _ i _ => m - (intOf i).toNat)
    case atStart => exact ⟨0, Nat.zero_le _, rfl, Lib.hid (World.ownsRow_nil _ _ _ _), Lib.hid (Below.refl _ _)⟩
    case round =>
      obtain ⟨k, hk, rfl, HI, HB⟩ := hrel
      obtain ⟨A2, cap2, hp, _, _⟩ := rd_of_own HI.out
      subst hp
      by_cases hlt : k < m
      · have hkI : (k : Int) < (m : Int) := by omega
        have HSN := Lib.hid (HST.out k hlt)
        have CS := Lib.hid (CSum.out k hlt)
        have hsb := HFB.out k
        obtain ⟨y, hy⟩ : ∃ y, fsum cs xs k = y := ⟨_, rfl⟩
        rw [hy] at HSN CS hsb
        have CD := Lib.hid (fun w => down_any y b (by omega) (by omega) w)
        obtain ⟨z, hz⟩ : ∃ z, y / b = z := ⟨_, rfl⟩
        rw [hz] at HSN CD
        clear hy hz
        go_wp2
        refine wp_region_held_drew (S := (fun w' : World => w'.cell? ⟨w.heap.size, 0, none⟩ = some (.slice A n c) ∧ w'.cell? ⟨w.heap.size, 1, none⟩ = some (.int .i64 b))) (by kernel_rfl) ?_ ?_
        · exact HSK.out _ HB.out.drew
        intro hHeld
        refine wpAnyH_take (i := 0) (v := ?_) rfl (by kernel_rfl) (by kernel_rfl) (by kernel_rfl) (fun _ _ _ h => h) (Or.inl ⟨by rfl, ?_⟩) (by assumption) ?_
        rotate_left
        · intro w hSw; (try dsimp only at hSw); go_simp; (try (with_reducible rfl))
        try simp only [List.getElem_toArray, List.getElem_cons_succ, List.getElem_cons_zero, Act.put, List.setIfInBounds_toArray, List.set_cons_zero, List.set_cons_succ]
        refine wpAnyH_take (i := 1) (v := ?_) rfl (by kernel_rfl) (by kernel_rfl) (by kernel_rfl) (fun _ _ _ h => h) (Or.inl ⟨by rfl, ?_⟩) (by assumption) ?_
        rotate_left
        · intro w hSw; (try dsimp only at hSw); go_simp; (try (with_reducible rfl))
        try simp only [List.getElem_toArray, List.getElem_cons_succ, List.getElem_cons_zero, Act.put, List.setIfInBounds_toArray, List.set_cons_zero, List.set_cons_succ]
        refine wpAnyH_take (i := 2) (v := ?_) rfl (by kernel_rfl) (by kernel_rfl) (by kernel_rfl) (fun _ _ _ h => h) (Or.inl ⟨by rfl, ?_⟩) (by assumption) ?_
        rotate_left
        · intro w hSw; (try dsimp only at hSw); go_simp; (try (with_reducible rfl))
        try simp only [List.getElem_toArray, List.getElem_cons_succ, List.getElem_cons_zero, Act.put, List.setIfInBounds_toArray, List.set_cons_zero, List.set_cons_succ]
        refine wpAnyH_take (i := 3) (v := ?_) rfl (by kernel_rfl) (by kernel_rfl) (by kernel_rfl) (fun _ _ _ h => h) (Or.inl ⟨by rfl, ?_⟩) (by assumption) ?_
        rotate_left
        · intro w hSw; (try dsimp only at hSw); go_simp; (try (with_reducible rfl))
        try simp only [List.getElem_toArray, List.getElem_cons_succ, List.getElem_cons_zero, Act.put, List.setIfInBounds_toArray, List.set_cons_zero, List.set_cons_succ]
        refine wpAnyH_take (i := 4) (v := ?_) rfl (by kernel_rfl) (by kernel_rfl) (by kernel_rfl) (fun _ _ _ h => h) (Or.inl ⟨by rfl, ?_⟩) (by assumption) ?_
        rotate_left
        · intro w hSw; (try dsimp only at hSw); go_simp; (try (with_reducible rfl))
        try simp only [List.getElem_toArray, List.getElem_cons_succ, List.getElem_cons_zero, Act.put, List.setIfInBounds_toArray, List.set_cons_zero, List.set_cons_succ]
        refine wpAnyH_take (i := 6) (v := ?_) rfl (by kernel_rfl) (by kernel_rfl) (by kernel_rfl) (fun _ _ _ h => h) (Or.inl ⟨by rfl, ?_⟩) (by assumption) ?_
        rotate_left
        · intro w hSw; (try dsimp only at hSw); go_simp; (try (with_reducible rfl))
        try simp only [List.getElem_toArray, List.getElem_cons_succ, List.getElem_cons_zero, Act.put, List.setIfInBounds_toArray, List.set_cons_zero, List.set_cons_succ]
        refine wpAnyH_take (i := 7) (v := ?_) rfl (by kernel_rfl) (by kernel_rfl) (by kernel_rfl) (fun _ _ _ h => h) (Or.inl ⟨by rfl, ?_⟩) (by assumption) ?_
        rotate_left
        · intro w hSw; (try dsimp only at hSw); go_simp; (try (with_reducible rfl))
        try simp only [List.getElem_toArray, List.getElem_cons_succ, List.getElem_cons_zero, Act.put, List.setIfInBounds_toArray, List.set_cons_zero, List.set_cons_succ]
        refine wpAnyH_ready (rs := [5]) (by kernel_rfl) (by simp) ?_
        refine AllReadyH.cons rfl (fun K hK => ?_) AllReadyH.nil
        go_simp
        go_at_call 83
        refine (CS.out _ (HB.out.drew)).mono ?_
        rintro e w' ⟨rfl, rfl⟩
        go_wp2_with fail
        refine hK.out _ _ ?_ (fun hHeld => ?_)
        · clear hK K; exact HSK.out _ (HB.out.drew)
        clear hK K
        try simp only [List.getElem_toArray, List.getElem_cons_succ, List.getElem_cons_zero, Act.put, List.setIfInBounds_toArray, List.set_cons_zero, List.set_cons_succ]
        refine wpAnyH_ready (rs := [8]) (by kernel_rfl) (by simp) ?_
        refine AllReadyH.cons rfl (fun K hK => ?_) AllReadyH.nil
        go_simp
        go_at_call 82
        refine (CD.out _).mono ?_
        rintro e w' ⟨rfl, rfl⟩
        go_wp2_with fail
        refine hK.out _ _ ?_ (fun hHeld => ?_)
        · clear hK K; exact HSK.out _ (HB.out.drew)
        clear hK K
        try simp only [List.getElem_toArray, List.getElem_cons_succ, List.getElem_cons_zero, Act.put, List.setIfInBounds_toArray, List.set_cons_zero, List.set_cons_succ]
        refine wpAnyH_ready (rs := [9]) (by kernel_rfl) (by simp) ?_
        refine AllReadyH.cons rfl (fun K hK => ?_) AllReadyH.nil
        go_simp
        refine hK.out _ _ ?_ (fun hHeld => ?_)
        · clear hK K; exact HSK.out _ ((HB.out.drew).alloc (HB.out.drew).size _)
        clear hK K
        try simp only [List.getElem_toArray, List.getElem_cons_succ, List.getElem_cons_zero, Act.put, List.setIfInBounds_toArray, List.set_cons_zero, List.set_cons_succ]
        refine wpAnyH_ready (rs := [10]) (by kernel_rfl) (by simp) ?_
        refine AllReadyH.cons rfl (fun K hK => ?_) AllReadyH.nil
        refine step_append_at _ rfl (.tmp 23) (.tmp 32) 29 rfl W3.heap.size 3 i0 _ 1 8 Try.underlying29 hi0 hza hzb hzc rfl (by decide) _ k _ rfl ((HI.out.drew).alloc _) ⟨wr.heap.size, 0, none⟩ 1 1 [.int .i64 (z)] rfl rfl (cell_one_new _ _ _) (by simp [Value.oneCell']) (by simp only [maxLen]; omega) (by omega) (by have := (HB.out.drew).size; simp at this ⊢; omega) ?_
        intro v' w4 hown' hgrow _ hat
        obtain ⟨g', cap', rfl⟩ := ownsRow_succ hown'
        have HB4 : Hid (Below W3.heap.size W3 w4) := ((HB.out.drew).alloc (HB.out.drew).size _).grown hgrow (by have := (HB.out.drew).size; simp at this ⊢; omega) (fun z e => ((HI.out.drew).lt z e).1)
        have HO4 : Hid (w4.ownsRow W3.heap.size 3 1 (.slice (some ⟨g', 0, none⟩) (k + 1) cap') (k + 1) ((L.take (k + 1)).map (Value.int .i64))) := by
          refine Lib.hid ?_
          rw [HSN.out, List.map_append]
          exact hown'
        clear hown' hgrow hat
        refine hK.out _ _ ?_ (fun hHeld => ?_)
        · clear hK K; exact HSK.out _ HB4.out
        clear hK K
        try simp only [List.getElem_toArray, List.getElem_cons_succ, List.getElem_cons_zero, Act.put, List.setIfInBounds_toArray, List.set_cons_zero, List.set_cons_succ]
        refine wpAnyH_take (i := 11) (v := ?_) rfl (by kernel_rfl) (by kernel_rfl) (by kernel_rfl) (fun _ _ _ h => h) (Or.inl ⟨by rfl, ?_⟩) (by assumption) ?_
        rotate_left
        · intro w hSw; (try dsimp only at hSw); go_simp; (try (with_reducible rfl))
        try simp only [List.getElem_toArray, List.getElem_cons_succ, List.getElem_cons_zero, Act.put, List.setIfInBounds_toArray, List.set_cons_zero, List.set_cons_succ]
        refine wpAnyH_done (by kernel_rfl) ?_ _
        clear hHeld
        go_wp2
        go_roundw
        case rel => exact ⟨k + 1, by omega, by go_num, HO4, HB4⟩
        case measure => simp [intOf]; omega
      · obtain rfl : m = k := by omega
        have hkI : ¬ (m : Int) < (m : Int) := by omega
        have hfi := HI.out
        rw [List.take_of_length_le (by have := HLL.out; omega)] at hfi
        have HFI := Lib.hid hfi
        clear hfi hlt
        go_wp2
        go_ret2
        exact ⟨⟨_, rfl, by rw [HLL.out]; exact ownMono HFI.out HRB.out.size⟩, HRB.out.trans (HB.out.mono HRB.out.size)⟩
  · have d1 : (E != 0) = true := by rw [bne_iff_ne]; exact h0
    have hL := HL1.out
    rw [if_neg h0] at hL
    subst hL
    clear HOK HL1 h0
    go_wp2
    go_ret2
    exact OwnRes.none_ R2.out.b
set_option maxRecDepth 100000 in
set_option maxHeartbeats 4000000 in
theorem refFilterErr_any (A : Option Addr) (n c : Nat) (b : Int) (cs : List Int) (w : World) (hr : RdI w A n cs) (hn : n ≤ 9223372036854775807) :
    Calls Try.prog 29 #[.agg #[.slice A n c, .int .i64 b]] w fun e w' => e = .returned (.int .i64 (fltE cs b)) ∧ Below w.heap.size w w' := by
  have HE : Hid (fltE cs b = firstNZ [if n = 0 then 10 else 0, if 8 < n then 8 else 0, rngE (-1000) 1000 cs, rngE 1 1000 [b]]) := by show _ = _; unfold fltE; rw [hr.1]
  have R0 := Lib.hid (OneB.start w 52 #[.slice A n c, .int .i64 b])
  have HR := Lib.hid (hr.below R0.out.b)
  have CB := Lib.hid (fun w => within_any b 1 1000 w)
  have HG : Hid (rngE 1 1000 [b] = if fromB 1 1000 [b] = true then 0 else 2) := rfl
  obtain ⟨G, hG⟩ : ∃ G, fromB 1 1000 [b] = G := ⟨_, rfl⟩
  rw [hG] at CB HG
  obtain ⟨F, hF⟩ : ∃ F, fltE cs b = F := ⟨_, rfl⟩
  rw [hF] at HE ⊢
  clear hF hG hr
  go_enter Try.func29, Try.ntmps29
  obtain ⟨W1, hW1⟩ : ∃ W1, w.alloc (.cells #[.slice A n c, .int .i64 b] 52) = W1 := ⟨_, rfl⟩
  rw [hW1] at R0 HR
  obtain ⟨c0, c1⟩ := bkf2 R0.out.k
  by_cases h0 : n = 0
  · have h0b : ((n : Int) == 0) = true := by rw [h0]; rfl
    have hE := HE.out
    rw [if_pos h0] at hE
    clear HE
    go_wp2
    go_ret
    exact ⟨by rw [hE]; rfl, by first | exact R0.out.b | exact below1 _ _⟩
  have h0b : ((n : Int) == 0) = false := by simp; omega
  by_cases h8 : 8 < n
  · have h8I : (8 : Int) < (n : Int) := by omega
    have hE := HE.out
    rw [if_neg h0, if_pos h8] at hE
    clear HE
    go_wp2
    go_ret
    exact ⟨by rw [hE]; rfl, by first | exact R0.out.b | exact below1 _ _⟩
  have h8I : ¬ (8 : Int) < (n : Int) := by omega
  have hE := HE.out
  rw [if_neg h0, if_neg h8] at hE
  have HE2 : Hid (F = firstNZ [rngE (-1000) 1000 cs, rngE 1 1000 [b]]) := hE
  clear HE hE
  go_wp2
  try rw [hW1]
  clear hW1
  go_loop [3] (fun i => ∃ k : Nat, k ≤ n ∧ i = .int .i64 k ∧ Hid (rngE (-1000) 1000 cs = rngE (-1000) 1000 (cs.drop k))) (fun i => n - (intOf i).toNat)
  case atStart => exact ⟨0, Nat.zero_le _, rfl, rfl⟩
  case round =>
    obtain ⟨k, hk, rfl, HF⟩ := hrel
    by_cases hlt : k < n
    · obtain ⟨ad, rfl, _, hc⟩ := HR.out.2 (by omega)
      have hck := hc k hlt
      clear hc
      obtain ⟨x, hx⟩ : ∃ x, cs.getD k 0 = x := ⟨_, rfl⟩
      have hs := rngE_step (-1000) 1000 cs k (by have := HR.out.1; omega)
      rw [hx] at hck hs
      have CX := Lib.hid (fun w => within_any x (-1000) 1000 w)
      have hrx : rngE (-1000) 1000 [x] = if fromB (-1000) 1000 [x] = true then 0 else 2 := rfl
      rw [hrx] at hs
      obtain ⟨y, hy⟩ : ∃ y, fromB (-1000) 1000 [x] = y := ⟨_, rfl⟩
      rw [hy] at hs CX
      have HS := Lib.hid hs; clear hs hx hy hrx
      have hkI : (k : Int) < (n : Int) := by omega
      cases y
      · go_wp2_with fail
        refine (CX.out _).mono ?_
        rintro e w' ⟨rfl, rfl⟩
        go_wp2
        go_ret
        exact ⟨by rw [HE2.out, HF.out, HS.out]; rfl, R0.out.b⟩
      · go_wp2_with fail
        refine (CX.out _).mono ?_
        rintro e w' ⟨rfl, rfl⟩
        go_wp2
        go_round
        case rel => exact ⟨k + 1, by omega, by go_num, by show _ = _; rw [HF.out, HS.out]; rfl⟩
        case measure => simp [intOf]; omega
    · obtain rfl : n = k := by omega
      have hkI : ¬ (n : Int) < (n : Int) := by omega
      have HFF : Hid (F = if G = true then 0 else 2) := by
        show _ = _
        rw [HE2.out, HF.out, List.drop_eq_nil_of_le (by have := HR.out.1; omega), HG.out]
        cases G <;> rfl
      clear hlt HF
      cases G
      · go_wp2_with fail
        refine (CB.out _).mono ?_
        rintro e w' ⟨rfl, rfl⟩
        go_wp2
        go_ret
        exact ⟨by rw [HFF.out]; rfl, R0.out.b⟩
      · go_wp2_with fail
        refine (CB.out _).mono ?_
        rintro e w' ⟨rfl, rfl⟩
        go_wp2
        go_ret
        exact ⟨by rw [HFF.out]; rfl, R0.out.b⟩

end Go.Proofs.Ytepcciodhppbnaa
