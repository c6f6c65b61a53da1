import Derived.Test.YtepcciodhppbnaaS7

namespace Go.Proofs.Ytepcciodhppbnaa
open Go.RowKit

/-! ### package speed -/
theorem swhen_any (b : Bool) (E : Int) (w : World) :
    Calls Try.prog 96 #[.bool b, .int .i64 E] w fun e w' => e = .returned (.int .i64 (if b = true then E else 0)) ∧ w = w' := by
  cases b
  all_goals
    go_enter Try.func96, Try.ntmps96
    go_wp2
    go_ret
    exact ⟨rfl, rfl⟩
set_option maxHeartbeats 1000000 in
theorem sfirstError_any (A : Option Addr) (n c : Nat) (xs : List Int) (w : World) (hr : RdI w A n xs) (hn : n ≤ 9223372036854775806) :
    Calls Try.prog 95 #[.slice A n c] w fun e w' => e = .returned (.int .i64 (firstNZ xs)) ∧ w = w' := by
  have HR := Lib.hid hr; clear hr
  go_enter Try.func95, Try.ntmps95
  go_wp2
  go_loop [7] (fun i => ∃ k : Nat, k ≤ n ∧ i = .int .i64 k ∧ Hid (firstNZ xs = firstNZ (xs.drop k))) (fun i => n - (intOf i).toNat)
  case atStart => exact ⟨0, Nat.zero_le _, rfl, rfl⟩
  case round =>
    obtain ⟨k, hk, rfl, HF⟩ := hrel
    by_cases hlt : k < n
    · obtain ⟨ad, ha, _, hc⟩ := HR.out.2 (by omega)
      have hck := hc k hlt
      clear hc
      subst ha
      obtain ⟨x, hx⟩ : ∃ x, xs.getD k 0 = x := ⟨_, rfl⟩
      have hs := firstNZ_step xs k (by have := HR.out.1; omega)
      rw [hx] at hck hs
      have HS := Lib.hid hs; clear hs hx
      have hkI : (k : Int) < (n : Int) := by omega
      by_cases h0 : x = 0
      · subst h0
        go_wp2
        go_round
        case rel => exact ⟨k + 1, by omega, by go_num, by show _ = _; rw [HF.out, HS.out]; rfl⟩
        case measure => simp [intOf]; omega
      · have h1 : (x == 0) = false := by rw [beq_eq_false_iff_ne]; exact h0
        have h2 : (x != 0) = true := by rw [bne_iff_ne]; exact h0
        go_wp2
        go_ret
        exact ⟨by rw [HF.out, HS.out, if_neg h0]; rfl, rfl⟩
    · obtain rfl : n = k := by omega
      go_wp2
      go_ret
      exact ⟨by rw [HF.out, List.drop_eq_nil_of_le (by have := HR.out.1; omega)]; rfl, rfl⟩
theorem sfirstError2 {E1 E2 F : Int} (hF : firstNZ [E1, E2] = F) (W : World) (g : Nat) (h0 : W.cell? ⟨g, 0, none⟩ = some (.int .i64 E1)) (h1 : W.cell? ⟨g, 1, none⟩ = some (.int .i64 E2)) :
    Calls Try.prog 95 #[.slice (some ⟨g, 0, none⟩) 2 2] W fun e w' => e = .returned (.int .i64 F) ∧ W = w' := by
  subst hF
  exact sfirstError_any _ 2 2 [E1, E2] W (lit2 _ _ _ _ h0 h1) (by omega)
theorem sfirstError3 {E1 E2 E3 F : Int} (hF : firstNZ [E1, E2, E3] = F) (W : World) (g : Nat) (h0 : W.cell? ⟨g, 0, none⟩ = some (.int .i64 E1)) (h1 : W.cell? ⟨g, 1, none⟩ = some (.int .i64 E2)) (h2 : W.cell? ⟨g, 2, none⟩ = some (.int .i64 E3)) :
    Calls Try.prog 95 #[.slice (some ⟨g, 0, none⟩) 3 3] W fun e w' => e = .returned (.int .i64 F) ∧ W = w' := by
  subst hF
  exact sfirstError_any _ 3 3 [E1, E2, E3] W (lit3 _ _ _ _ _ h0 h1 h2) (by omega)
theorem checkPosition_any (n : Int) (w : World) :
    Calls Try.prog 97 #[.int .i64 n] w fun e w' => e = .returned (.int .i64 (rngE 0 1000000 [n])) ∧ w = w' := by
  have HE := Lib.hid (rngE_one 0 1000000 n)
  by_cases h1 : n < 0
  · go_enter Try.func97, Try.ntmps97
    go_wp2_with (go_at_call 96; refine (swhen_any true 2 _).mono ?_; rintro e w' ⟨rfl, rfl⟩)
    go_ret
    exact ⟨retI (a := 2) (by rw [HE.out, if_neg (by omega)]), rfl⟩
  · by_cases h2 : 1000000 < n
    · go_enter Try.func97, Try.ntmps97
      go_wp2_with (go_at_call 96; refine (swhen_any true 2 _).mono ?_; rintro e w' ⟨rfl, rfl⟩)
      go_ret
      exact ⟨retI (a := 2) (by rw [HE.out, if_neg (by omega)]), rfl⟩
    · go_enter Try.func97, Try.ntmps97
      go_wp2_with (go_at_call 96; refine (swhen_any false 2 _).mono ?_; rintro e w' ⟨rfl, rfl⟩)
      go_ret
      exact ⟨retI (a := 0) (by rw [HE.out, if_pos (by omega)]), rfl⟩
theorem checkTime_any (n : Int) (w : World) :
    Calls Try.prog 98 #[.int .i64 n] w fun e w' => e = .returned (.int .i64 (rngE 0 1000000000000 [n])) ∧ w = w' := by
  have HE := Lib.hid (rngE_one 0 1000000000000 n)
  by_cases h1 : n < 0
  · go_enter Try.func98, Try.ntmps98
    go_wp2_with (go_at_call 96; refine (swhen_any true 2 _).mono ?_; rintro e w' ⟨rfl, rfl⟩)
    go_ret
    exact ⟨retI (a := 2) (by rw [HE.out, if_neg (by omega)]), rfl⟩
  · by_cases h2 : 1000000000000 < n
    · go_enter Try.func98, Try.ntmps98
      go_wp2_with (go_at_call 96; refine (swhen_any true 2 _).mono ?_; rintro e w' ⟨rfl, rfl⟩)
      go_ret
      exact ⟨retI (a := 2) (by rw [HE.out, if_neg (by omega)]), rfl⟩
    · go_enter Try.func98, Try.ntmps98
      go_wp2_with (go_at_call 96; refine (swhen_any false 2 _).mono ?_; rintro e w' ⟨rfl, rfl⟩)
      go_ret
      exact ⟨retI (a := 0) (by rw [HE.out, if_pos (by omega)]), rfl⟩

/-- The slice '.slice A n c' reads as nodes. -/
def RdN (w : World) (A : Option Addr) (n : Nat) (ns : List (Int × Int)) : Prop :=
  ns.length = n ∧ (0 < n → ∃ g, A = some ⟨g, 0, none⟩ ∧ g < w.heap.size ∧ ∀ j, j < n → w.cell? ⟨g, j * 2, none⟩ = some (.int .i64 (ns.getD j (0, 0)).1) ∧ w.cell? ⟨g, j * 2 + 1, none⟩ = some (.int .i64 (ns.getD j (0, 0)).2))
theorem RdN.below {w w' : World} {A : Option Addr} {n : Nat} {ns : List (Int × Int)} (h : RdN w A n ns) (hb : Below w.heap.size w w') : RdN w' A n ns := by
  refine ⟨h.1, fun h0 => ?_⟩
  obtain ⟨g, e, hlt, hc⟩ := h.2 h0
  exact ⟨g, e, Nat.lt_of_lt_of_le hlt hb.size, fun j hj => ⟨(hb.cell (p := ⟨g, j * 2, none⟩) hlt).trans (hc j hj).1, (hb.cell (p := ⟨g, j * 2 + 1, none⟩) hlt).trans (hc j hj).2⟩⟩
def nodeE (b x : Int × Int) : Int := firstNZ [rngE 0 1000000 [x.1], rngE 0 1000000000000 [x.2], if x.1 ≤ b.1 ∨ x.2 ≤ b.2 then 9 else 0]
def mapGo : Int × Int → Nat → List (Int × Int) → Int × Int
  | _, _, [] => (0, 0)
  | b, k, x :: l => if nodeE b x = 0 then mapGo x (k + 1) l else ((k : Int), nodeE b x)
def mapR (ns : List (Int × Int)) : Int × Int := if ns.length < 2 then (0, 10) else if 20 < ns.length then (0, 8) else mapGo (-1, -1) 0 ns
theorem mapGo_step (b : Int × Int) (k : Nat) (ns : List (Int × Int)) (hk : k < ns.length) : mapGo b k (ns.drop k) = if nodeE b (ns.getD k (0, 0)) = 0 then mapGo (ns.getD k (0, 0)) (k + 1) (ns.drop (k + 1)) else ((k : Int), nodeE b (ns.getD k (0, 0))) := by
  rw [List.drop_eq_getElem_cons hk]
  simp only [mapGo, List.getD_eq_getElem?_getD, List.getElem?_eq_getElem hk, Option.getD_some]
theorem bk2 {W : World} {g : Nat} {t : TypeId} {x y : Int} (h : Bk W g t #[.int .i64 x, .int .i64 y]) : W.cell? ⟨g, 0, none⟩ = some (.int .i64 x) ∧ W.cell? ⟨g, 1, none⟩ = some (.int .i64 y) ∧ W.frozen? ⟨g, 0, none⟩ = false ∧ W.frozen? ⟨g, 1, none⟩ = false :=
  ⟨by rw [h.cell]; rfl, by rw [h.cell]; rfl, h.frozen 0, h.frozen 1⟩

set_option maxRecDepth 100000 in
set_option maxHeartbeats 4000000 in
theorem CheckMap_any (A : Option Addr) (n c : Nat) (ns : List (Int × Int)) (w : World) (hr : RdN w A n ns) (hn : n ≤ 1000000) :
    Calls Try.prog 45 #[.agg #[.slice A n c]] w fun e w' => e = .returned (.tuple #[.int .i64 (mapR ns).1, .int .i64 (mapR ns).2]) ∧ Below w.heap.size w w' := by
  have HR := Lib.hid hr
  have hl := hr.1
  clear hr
  have HM : Hid (mapR ns = if n < 2 then (0, 10) else if 20 < n then (0, 8) else mapGo (-1, -1) 0 ns) := by show _ = _; unfold mapR; rw [hl]
  have HL := Lib.hid hl
  clear hl
  by_cases h1 : n < 2
  · have h1I : (n : Int) < 2 := by omega
    have h2I : ¬ (20 : Int) < n := by omega
    go_enter Try.func45, Try.ntmps45
    go_wp2
    go_region_held3 (fun w' : World => w'.cell? ⟨w.heap.size, 0, none⟩ = some (.slice A n c)) ((simp [go_sem, *])) (first
      | (go_at_call 96; refine (swhen_any _ _ _).mono ?_; rintro e w' ⟨rfl, rfl⟩)
      | (go_at_call 95; refine (sfirstError2 (E1 := 10) (E2 := 0) (F := 10) rfl _ _ ?_ ?_).mono ?_; (focus (simp [go_sem])); (focus (simp [go_sem])); rintro e w' ⟨rfl, rfl⟩))
    all_goals
      go_wp2
      refine bodyPost_ret (v := .tuple #[.int .i64 0, .int .i64 10]) (by simp [results, Try.results45, go_sem, firstNZ]) rfl ⟨retI2 (by rw [HM.out, if_pos h1]) (by rw [HM.out, if_pos h1]), by go_grown⟩
  · by_cases h2 : 20 < n
    · have h1I : ¬ (n : Int) < 2 := by omega
      have h2I : (20 : Int) < n := by omega
      go_enter Try.func45, Try.ntmps45
      go_wp2
      go_region_held3 (fun w' : World => w'.cell? ⟨w.heap.size, 0, none⟩ = some (.slice A n c)) ((simp [go_sem, *])) (first
        | (go_at_call 96; refine (swhen_any _ _ _).mono ?_; rintro e w' ⟨rfl, rfl⟩)
        | (go_at_call 95; refine (sfirstError2 (E1 := 0) (E2 := 8) (F := 8) rfl _ _ ?_ ?_).mono ?_; (focus (simp [go_sem])); (focus (simp [go_sem])); rintro e w' ⟨rfl, rfl⟩))
      all_goals
        go_wp2
        refine bodyPost_ret (v := .tuple #[.int .i64 0, .int .i64 8]) (by simp [results, Try.results45, go_sem, firstNZ]) rfl ⟨retI2 (by rw [HM.out, if_neg h1, if_pos h2]) (by rw [HM.out, if_neg h1, if_pos h2]), by go_grown⟩
    · have h1I : ¬ (n : Int) < 2 := by omega
      have h2I : ¬ (20 : Int) < n := by omega
      go_enter Try.func45, Try.ntmps45
      go_wp2
      go_region_held3 (fun w' : World => w'.cell? ⟨w.heap.size, 0, none⟩ = some (.slice A n c)) ((simp [go_sem, *])) (first
        | (go_at_call 96; refine (swhen_any _ _ _).mono ?_; rintro e w' ⟨rfl, rfl⟩)
        | (go_at_call 95; refine (sfirstError2 (E1 := 0) (E2 := 0) (F := 0) rfl _ _ ?_ ?_).mono ?_; (focus (simp [go_sem])); (focus (simp [go_sem])); rintro e w' ⟨rfl, rfl⟩))
      all_goals
        go_wp2
        have BW : Hid (Below w.heap.size w ((((w.alloc (.cells #[.slice A n c] 24)).alloc (.cells #[.int .i64 0, .int .i64 0] 30)).alloc (.cells #[.int .i64 (-1), .int .i64 (-1)] 69)).drew)) := by show Below _ _ _; go_grown
        have KW : Hid (Bk ((((w.alloc (.cells #[.slice A n c] 24)).alloc (.cells #[.int .i64 0, .int .i64 0] 30)).alloc (.cells #[.int .i64 (-1), .int .i64 (-1)] 69)).drew) (w.heap.size + 1 + 1) 69 #[.int .i64 (-1), .int .i64 (-1)]) := by
          have h := Bk.new ((w.alloc (.cells #[.slice A n c] 24)).alloc (.cells #[.int .i64 0, .int .i64 0] 30)) 69 #[.int .i64 (-1), .int .i64 (-1)]
          simp only [World.size_alloc] at h
          exact h.drew
        obtain ⟨W, hW⟩ : ∃ W, ((((w.alloc (.cells #[.slice A n c] 24)).alloc (.cells #[.int .i64 0, .int .i64 0] 30)).alloc (.cells #[.int .i64 (-1), .int .i64 (-1)] 69)).drew) = W := ⟨_, rfl⟩
        rw [hW] at KW BW ⊢
        clear hW
        obtain ⟨g5, hg5⟩ : ∃ g5, w.heap.size + 1 + 1 = g5 := ⟨_, rfl⟩
        rw [hg5] at KW ⊢
        have hg5' : w.heap.size < g5 := by omega
        clear hg5
        have HM2 : Hid (mapR ns = mapGo (-1, -1) 0 ns) := by show _ = _; rw [HM.out, if_neg h1, if_neg h2]
        clear HM
        go_loopw [28] (fun i wr => ∃ (k : Nat) (b1 b2 : Int), k ≤ n ∧ i = .int .i64 k ∧ Hid (Bk wr g5 69 #[.int .i64 b1, .int .i64 b2]) ∧ Hid (Below w.heap.size w wr) ∧ Hid (mapR ns = mapGo (b1, b2) k (ns.drop k))) (fun i _ => n - (intOf i).toNat)
        case atStart => exact ⟨0, -1, -1, by omega, rfl, KW, BW, HM2⟩
        case round =>
          obtain ⟨k, b1, b2, hk, rfl, HK, HB, HG⟩ := hrel
          by_cases hlt : k < n
          · have hkI : (k : Int) < (n : Int) := by omega
            have hk0 : (0 : Int) ≤ (k : Int) := by omega
            obtain ⟨g, rfl, hgl, hcs⟩ := (HR.out.below HB.out).2 (by omega)
            obtain ⟨n1, n2⟩ := hcs k hlt
            clear hcs
            have hs := mapGo_step (b1, b2) k ns (by have := HL.out; omega)
            obtain ⟨⟨x, y⟩, hxy⟩ : ∃ p, ns.getD k (0, 0) = p := ⟨_, rfl⟩
            rw [hxy] at n1 n2 hs
            dsimp only at n1 n2
            have HS := Lib.hid hs
            clear hs hxy
            obtain ⟨p1, p2, p3, p4⟩ := bk2 HK.out
            have hlt5 := HK.out.lt
            have hsz := HB.out.size
            obtain ⟨F, hF⟩ : ∃ F, nodeE (b1, b2) (x, y) = F := ⟨_, rfl⟩
            rw [hF] at HS
            have HF : Hid (firstNZ [rngE 0 1000000 [x], rngE 0 1000000000000 [y], if x ≤ b1 ∨ y ≤ b2 then (9 : Int) else 0] = F) := hF
            clear hF
            have CP := Lib.hid (fun w => checkPosition_any x w)
            have CT := Lib.hid (fun w => checkTime_any y w)
            obtain ⟨E1, hE1⟩ : ∃ E, rngE 0 1000000 [x] = E := ⟨_, rfl⟩
            obtain ⟨E2, hE2⟩ : ∃ E, rngE 0 1000000000000 [y] = E := ⟨_, rfl⟩
            rw [hE1] at CP HF
            rw [hE2] at CT HF
            clear hE1 hE2
            go_wp2
            have KX : Hid (Bk (wr.alloc (.cells #[.int .i64 x, .int .i64 y] 69)) wr.heap.size 69 #[.int .i64 x, .int .i64 y]) := Bk.new _ _ _
            have KB : Hid (Bk (wr.alloc (.cells #[.int .i64 x, .int .i64 y] 69)) g5 69 #[.int .i64 b1, .int .i64 b2]) := HK.out.alloc _
            have HB1 : Hid (Below w.heap.size w (wr.alloc (.cells #[.int .i64 x, .int .i64 y] 69))) := HB.out.alloc hsz _
            have hg7 : g5 < wr.heap.size := hlt5
            obtain ⟨g7, hg7e⟩ : ∃ g7, wr.heap.size = g7 := ⟨_, rfl⟩
            obtain ⟨W1, hW1⟩ : ∃ W1, wr.alloc (.cells #[.int .i64 x, .int .i64 y] 69) = W1 := ⟨_, rfl⟩
            have hs1 : w.heap.size ≤ W1.heap.size := by rw [← hW1]; simp; omega
            have hs7 : g7 < W1.heap.size := by rw [← hW1]; simp; omega
            have hs5 : g5 < W1.heap.size := by omega
            rw [hW1] at KX KB HB1 ⊢
            rw [hg7e] at KX hg7 ⊢
            clear hW1 hg7e p1 p2 p3 p4 n1 n2 HK HB hlt5 hsz
            obtain ⟨p1, p2, p3, p4⟩ := bk2 KB.out
            obtain ⟨m1, m2, m3, m4⟩ := bk2 KX.out
            obtain ⟨E3, h3⟩ : ∃ E3 : Int, (if x ≤ b1 ∨ y ≤ b2 then (9 : Int) else 0) = E3 := ⟨_, rfl⟩
            have HE3 : Hid (E3 = if x ≤ b1 ∨ y ≤ b2 then (9 : Int) else 0) := h3.symm
            rw [h3] at HF
            clear h3
            have key : x ≤ b1 ∨ (¬ x ≤ b1 ∧ y ≤ b2) ∨ (¬ x ≤ b1 ∧ ¬ y ≤ b2) := by omega
            rcases key with hx | ⟨hx, hy⟩ | ⟨hx, hy⟩
            all_goals
              first
              | (have _hx : x ≤ b1 := by omega
                 have h3 : E3 = 9 := (by have h := HE3.out; rw [if_pos (by omega)] at h; exact h)
                 subst h3
                 clear HE3
                 refine wp_region_held_drew (S := (fun w' : World => w'.cell? ⟨g7, 0, none⟩ = some (.int .i64 x) ∧ w'.cell? ⟨g7, 1, none⟩ = some (.int .i64 y) ∧ w'.cell? ⟨g5, 0, none⟩ = some (.int .i64 b1) ∧ w'.cell? ⟨g5, 1, none⟩ = some (.int .i64 b2))) (by kernel_rfl) ?_ ?_
                 · (((repeat' apply And.intro) <;> first | assumption | (simp [go_sem, *]; done)))
                 intro hHeld
                 refine wpAnyH_take (i := 0) (v := ?_) rfl (by kernel_rfl) (by kernel_rfl) (by kernel_rfl) (fun _ _ _ h => h) (Or.inl ⟨by rfl, ?_⟩) (by assumption) ?_
                 rotate_left
                 · intro w hSw; (try dsimp only at hSw); go_simp; (try (with_reducible rfl))
                 try simp only [List.getElem_toArray, List.getElem_cons_succ, List.getElem_cons_zero, Act.put, List.setIfInBounds_toArray, List.set_cons_zero, List.set_cons_succ]
                 refine wpAnyH_take (i := 1) (v := ?_) rfl (by kernel_rfl) (by kernel_rfl) (by kernel_rfl) (fun _ _ _ h => h) (Or.inl ⟨by rfl, ?_⟩) (by assumption) ?_
                 rotate_left
                 · intro w hSw; (try dsimp only at hSw); go_simp; (try (with_reducible rfl))
                 try simp only [List.getElem_toArray, List.getElem_cons_succ, List.getElem_cons_zero, Act.put, List.setIfInBounds_toArray, List.set_cons_zero, List.set_cons_succ]
                 refine wpAnyH_take (i := 3) (v := ?_) rfl (by kernel_rfl) (by kernel_rfl) (by kernel_rfl) (fun _ _ _ h => h) (Or.inl ⟨by rfl, ?_⟩) (by assumption) ?_
                 rotate_left
                 · intro w hSw; (try dsimp only at hSw); go_simp; (try (with_reducible rfl))
                 try simp only [List.getElem_toArray, List.getElem_cons_succ, List.getElem_cons_zero, Act.put, List.setIfInBounds_toArray, List.set_cons_zero, List.set_cons_succ]
                 refine wpAnyH_take (i := 4) (v := ?_) rfl (by kernel_rfl) (by kernel_rfl) (by kernel_rfl) (fun _ _ _ h => h) (Or.inl ⟨by rfl, ?_⟩) (by assumption) ?_
                 rotate_left
                 · intro w hSw; (try dsimp only at hSw); go_simp; (try (with_reducible rfl))
                 try simp only [List.getElem_toArray, List.getElem_cons_succ, List.getElem_cons_zero, Act.put, List.setIfInBounds_toArray, List.set_cons_zero, List.set_cons_succ]
                 refine wpAnyH_take (i := 6) (v := ?_) rfl (by kernel_rfl) (by kernel_rfl) (by kernel_rfl) (fun _ _ _ h => h) (Or.inl ⟨by rfl, ?_⟩) (by assumption) ?_
                 rotate_left
                 · intro w hSw; (try dsimp only at hSw); go_simp; (try (with_reducible rfl))
                 try simp only [List.getElem_toArray, List.getElem_cons_succ, List.getElem_cons_zero, Act.put, List.setIfInBounds_toArray, List.set_cons_zero, List.set_cons_succ]
                 refine wpAnyH_take (i := 7) (v := ?_) rfl (by kernel_rfl) (by kernel_rfl) (by kernel_rfl) (fun _ _ _ h => h) (Or.inl ⟨by rfl, ?_⟩) (by assumption) ?_
                 rotate_left
                 · intro w hSw; (try dsimp only at hSw); go_simp; (try (with_reducible rfl))
                 try simp only [List.getElem_toArray, List.getElem_cons_succ, List.getElem_cons_zero, Act.put, List.setIfInBounds_toArray, List.set_cons_zero, List.set_cons_succ]
                 refine wpAnyH_take (i := 8) (v := ?_) rfl (by kernel_rfl) (by kernel_rfl) (by kernel_rfl) (fun _ _ _ h => h) (Or.inl ⟨by rfl, ?_⟩) (by assumption) ?_
                 rotate_left
                 · intro w hSw; (try dsimp only at hSw); go_simp; (try (with_reducible rfl))
                 try simp only [List.getElem_toArray, List.getElem_cons_succ, List.getElem_cons_zero, Act.put, List.setIfInBounds_toArray, List.set_cons_zero, List.set_cons_succ]
                 refine wpAnyH_take (i := 9) (v := ?_) rfl (by kernel_rfl) (by kernel_rfl) (by kernel_rfl) (fun _ _ _ h => h) (Or.inl ⟨by rfl, ?_⟩) (by assumption) ?_
                 rotate_left
                 · intro w hSw; (try dsimp only at hSw); go_simp; (try (with_reducible rfl))
                 try simp only [List.getElem_toArray, List.getElem_cons_succ, List.getElem_cons_zero, Act.put, List.setIfInBounds_toArray, List.set_cons_zero, List.set_cons_succ]
                 refine wpAnyH_take (i := 10) (v := ?_) rfl (by kernel_rfl) (by kernel_rfl) (by kernel_rfl) (fun _ _ _ h => h) (Or.inl ⟨by rfl, ?_⟩) (by assumption) ?_
                 rotate_left
                 · intro w hSw; (try dsimp only at hSw); go_simp; (try (with_reducible rfl))
                 try simp only [List.getElem_toArray, List.getElem_cons_succ, List.getElem_cons_zero, Act.put, List.setIfInBounds_toArray, List.set_cons_zero, List.set_cons_succ]
                 refine wpAnyH_ready (rs := [2]) (by kernel_rfl) (by simp) ?_
                 refine AllReadyH.cons rfl (fun K hK => ?_) AllReadyH.nil
                 go_simp
                 refine (CP.out _).mono ?_; rintro e w' ⟨rfl, rfl⟩
                 go_wp2_with fail
                 refine hK.out _ _ ?_ (fun hHeld => ?_)
                 · clear hK K; (((repeat' apply And.intro) <;> first | assumption | (simp [go_sem, *]; done)))
                 clear hK K
                 try simp only [List.getElem_toArray, List.getElem_cons_succ, List.getElem_cons_zero, Act.put, List.setIfInBounds_toArray, List.set_cons_zero, List.set_cons_succ]
                 refine wpAnyH_ready (rs := [5]) (by kernel_rfl) (by simp) ?_
                 refine AllReadyH.cons rfl (fun K hK => ?_) AllReadyH.nil
                 go_simp
                 refine (CT.out _).mono ?_; rintro e w' ⟨rfl, rfl⟩
                 go_wp2_with fail
                 refine hK.out _ _ ?_ (fun hHeld => ?_)
                 · clear hK K; (((repeat' apply And.intro) <;> first | assumption | (simp [go_sem, *]; done)))
                 clear hK K
                 try simp only [List.getElem_toArray, List.getElem_cons_succ, List.getElem_cons_zero, Act.put, List.setIfInBounds_toArray, List.set_cons_zero, List.set_cons_succ]
                 refine wpAnyH_take (i := 11) (v := ?_) rfl (by kernel_rfl) (by kernel_rfl) (by kernel_rfl) (fun _ _ _ h => h) (Or.inl ⟨by rfl, ?_⟩) (by assumption) ?_
                 rotate_left
                 · intro w hSw; (try dsimp only at hSw); go_simp; (try (with_reducible rfl))
                 try simp only [List.getElem_toArray, List.getElem_cons_succ, List.getElem_cons_zero, Act.put, List.setIfInBounds_toArray, List.set_cons_zero, List.set_cons_succ]
                 refine wpAnyH_take (i := 12) (v := undef) rfl (by kernel_rfl) (by kernel_rfl) (by kernel_rfl) (fun _ _ _ h => h) (Or.inr ⟨by rfl, rfl⟩) (by assumption) ?_
                 try simp only [List.getElem_toArray, List.getElem_cons_succ, List.getElem_cons_zero, Act.put, List.setIfInBounds_toArray, List.set_cons_zero, List.set_cons_succ]
                 refine wpAnyH_take (i := 13) (v := undef) rfl (by kernel_rfl) (by kernel_rfl) (by kernel_rfl) (fun _ _ _ h => h) (Or.inr ⟨by rfl, rfl⟩) (by assumption) ?_
                 try simp only [List.getElem_toArray, List.getElem_cons_succ, List.getElem_cons_zero, Act.put, List.setIfInBounds_toArray, List.set_cons_zero, List.set_cons_succ]
                 refine wpAnyH_take (i := 14) (v := undef) rfl (by kernel_rfl) (by kernel_rfl) (by kernel_rfl) (fun _ _ _ h => h) (Or.inr ⟨by rfl, rfl⟩) (by assumption) ?_
                 try simp only [List.getElem_toArray, List.getElem_cons_succ, List.getElem_cons_zero, Act.put, List.setIfInBounds_toArray, List.set_cons_zero, List.set_cons_succ]
                 refine wpAnyH_take (i := 15) (v := undef) rfl (by kernel_rfl) (by kernel_rfl) (by kernel_rfl) (fun _ _ _ h => h) (Or.inr ⟨by rfl, rfl⟩) (by assumption) ?_
                 try simp only [List.getElem_toArray, List.getElem_cons_succ, List.getElem_cons_zero, Act.put, List.setIfInBounds_toArray, List.set_cons_zero, List.set_cons_succ]
                 refine wpAnyH_take (i := 16) (v := undef) rfl (by kernel_rfl) (by kernel_rfl) (by kernel_rfl) (fun _ _ _ h => h) (Or.inr ⟨by rfl, rfl⟩) (by assumption) ?_
                 try simp only [List.getElem_toArray, List.getElem_cons_succ, List.getElem_cons_zero, Act.put, List.setIfInBounds_toArray, List.set_cons_zero, List.set_cons_succ]
                 refine wpAnyH_take (i := 17) (v := ?_) rfl (by kernel_rfl) (by kernel_rfl) (by kernel_rfl) (fun _ _ _ h => h) (Or.inl ⟨by rfl, ?_⟩) (by assumption) ?_
                 rotate_left
                 · intro w hSw; (try dsimp only at hSw); go_simp; (try (with_reducible rfl))
                 try simp only [List.getElem_toArray, List.getElem_cons_succ, List.getElem_cons_zero, Act.put, List.setIfInBounds_toArray, List.set_cons_zero, List.set_cons_succ]
                 refine wpAnyH_ready (rs := [18]) (by kernel_rfl) (by simp) ?_
                 refine AllReadyH.cons rfl (fun K hK => ?_) AllReadyH.nil
                 go_simp
                 refine (swhen_any _ _ _).mono ?_; rintro e w' ⟨rfl, rfl⟩
                 go_wp2_with fail
                 refine hK.out _ _ ?_ (fun hHeld => ?_)
                 · clear hK K; (((repeat' apply And.intro) <;> first | assumption | (simp [go_sem, *]; done)))
                 clear hK K
                 try simp only [List.getElem_toArray, List.getElem_cons_succ, List.getElem_cons_zero, Act.put, List.setIfInBounds_toArray, List.set_cons_zero, List.set_cons_succ]
                 refine wpAnyH_ready (rs := [19]) (by kernel_rfl) (by simp) ?_
                 refine AllReadyH.cons rfl (fun K hK => ?_) AllReadyH.nil
                 go_simp
                 refine hK.out _ _ ?_ (fun hHeld => ?_)
                 · clear hK K; (((repeat' apply And.intro) <;> first | assumption | (simp [go_sem, *]; done)))
                 clear hK K
                 try simp only [List.getElem_toArray, List.getElem_cons_succ, List.getElem_cons_zero, Act.put, List.setIfInBounds_toArray, List.set_cons_zero, List.set_cons_succ]
                 refine wpAnyH_ready (rs := [20]) (by kernel_rfl) (by simp) ?_
                 refine AllReadyH.cons rfl (fun K hK => ?_) AllReadyH.nil
                 go_simp
                 refine (sfirstError3 HF.out _ _ ?_ ?_ ?_).mono ?_; (focus (simp [go_sem])); (focus (simp [go_sem])); (focus (simp [go_sem])); rintro e w' ⟨rfl, rfl⟩
                 go_wp2_with fail
                 refine hK.out _ _ ?_ (fun hHeld => ?_)
                 · clear hK K; (((repeat' apply And.intro) <;> first | assumption | (simp [go_sem, *]; done)))
                 clear hK K
                 try simp only [List.getElem_toArray, List.getElem_cons_succ, List.getElem_cons_zero, Act.put, List.setIfInBounds_toArray, List.set_cons_zero, List.set_cons_succ]
                 refine wpAnyH_take (i := 21) (v := ?_) rfl (by kernel_rfl) (by kernel_rfl) (by kernel_rfl) (fun _ _ _ h => h) (Or.inl ⟨by rfl, ?_⟩) (by assumption) ?_
                 rotate_left
                 · intro w hSw; (try dsimp only at hSw); go_simp; (try (with_reducible rfl))
                 try simp only [List.getElem_toArray, List.getElem_cons_succ, List.getElem_cons_zero, Act.put, List.setIfInBounds_toArray, List.set_cons_zero, List.set_cons_succ]
                 refine wpAnyH_done (by kernel_rfl) ?_ _)
              | (have h9 : E3 = 9 ∨ E3 = 0 := by have := HE3.out; split at this <;> omega
                 first
                   | (have h3 : E3 = 9 := (by have h := HE3.out; rw [if_pos (by omega)] at h; exact h); subst h3)
                   | (have h3 : E3 = 0 := (by have h := HE3.out; rw [if_neg (by omega)] at h; exact h); subst h3)
                 clear h9 HE3
                 go_region_held3 (fun w' : World => w'.cell? ⟨g7, 0, none⟩ = some (.int .i64 x) ∧ w'.cell? ⟨g7, 1, none⟩ = some (.int .i64 y) ∧ w'.cell? ⟨g5, 0, none⟩ = some (.int .i64 b1) ∧ w'.cell? ⟨g5, 1, none⟩ = some (.int .i64 b2)) (((repeat' apply And.intro) <;> first | assumption | (simp [go_sem, *]; done))) (first
                   | (go_at_call 97; refine (CP.out _).mono ?_; rintro e w' ⟨rfl, rfl⟩)
                   | (go_at_call 98; refine (CT.out _).mono ?_; rintro e w' ⟨rfl, rfl⟩)
                   | (go_at_call 96; refine (swhen_any _ _ _).mono ?_; rintro e w' ⟨rfl, rfl⟩)
                   | (go_at_call 95; refine (sfirstError3 HF.out _ _ ?_ ?_ ?_).mono ?_; (focus (simp [go_sem])); (focus (simp [go_sem])); (focus (simp [go_sem])); rintro e w' ⟨rfl, rfl⟩)))
            all_goals
              first
              | (have KB2 := Lib.hid ((KB.out.alloc (.cells #[.int .i64 E1, .int .i64 E2, .int .i64 9] 30)).drew)
                 have KX2 := Lib.hid ((KX.out.alloc (.cells #[.int .i64 E1, .int .i64 E2, .int .i64 9] 30)).drew)
                 have HB2 := Lib.hid ((HB1.out.alloc hs1 (.cells #[.int .i64 E1, .int .i64 E2, .int .i64 9] 30)).drew)
                 obtain ⟨W2, hW2⟩ : ∃ W2, (W1.alloc (.cells #[.int .i64 E1, .int .i64 E2, .int .i64 9] 30)).drew = W2 := ⟨_, rfl⟩
                 rw [hW2] at KB2 KX2 HB2 ⊢
                 clear hW2)
              | (have KB2 := Lib.hid ((KB.out.alloc (.cells #[.int .i64 E1, .int .i64 E2, .int .i64 0] 30)).drew)
                 have KX2 := Lib.hid ((KX.out.alloc (.cells #[.int .i64 E1, .int .i64 E2, .int .i64 0] 30)).drew)
                 have HB2 := Lib.hid ((HB1.out.alloc hs1 (.cells #[.int .i64 E1, .int .i64 E2, .int .i64 0] 30)).drew)
                 obtain ⟨W2, hW2⟩ : ∃ W2, (W1.alloc (.cells #[.int .i64 E1, .int .i64 E2, .int .i64 0] 30)).drew = W2 := ⟨_, rfl⟩
                 rw [hW2] at KB2 KX2 HB2 ⊢
                 clear hW2)
              clear p1 p2 p3 p4 m1 m2 m3 m4 KB KX HB1 hs1 hs7 hs5 HF CP CT
              obtain ⟨p1, p2, p3, p4⟩ := bk2 KB2.out
              obtain ⟨m1, m2, m3, m4⟩ := bk2 KX2.out
              go_wp2
              · have h0 := ne0_of (F := F) (by assumption)
                refine bodyPost_ret (v := .tuple #[.int .i64 k, .int .i64 F]) (by simp [results, Try.results45, go_sem]) rfl ⟨retI2 ?_ ?_, HB2.out⟩
                · rw [HG.out, HS.out, if_neg h0]
                · rw [HG.out, HS.out, if_neg h0]
              · have h0 := eq0_of (F := F) (by assumption)
                go_roundw
                case rel =>
                  refine ⟨k + 1, x, y, by omega, by go_num, ?_, ?_, ?_⟩
                  · have h := (KB2.out.set_ 0 (.int .i64 x)).set_ 1 (.int .i64 y)
                    exact h
                  · exact (HB2.out.setCell (p := ⟨g5, 0, none⟩) (by simp; omega) _).setCell (p := ⟨g5, 1, none⟩) (by simp; omega) _
                  · show _ = _; rw [HG.out, HS.out, if_pos h0]
                case measure => simp [intOf]; omega
          · obtain rfl : k = n := by omega
            go_wp2
            refine bodyPost_ret (v := .tuple #[.int .i64 0, .int .i64 0]) (by simp [results, Try.results45, go_sem]) rfl ⟨retI2 ?_ ?_, HB.out⟩
            · rw [HG.out, List.drop_eq_nil_of_le (by have := HL.out; omega)]; rfl
            · rw [HG.out, List.drop_eq_nil_of_le (by have := HL.out; omega)]; rfl

end Go.Proofs.Ytepcciodhppbnaa
