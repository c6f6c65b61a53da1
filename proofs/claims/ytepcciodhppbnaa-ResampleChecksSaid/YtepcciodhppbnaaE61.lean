import Derived.Test.YtepcciodhppbnaaE60

namespace Go.Proofs.Ytepcciodhppbnaa
open Go.RowKit

/-! ### filters: errors and sums -/
def fltE (cs : List Int) (b : Int) : Int := firstNZ [if cs.length = 0 then 10 else 0, if 8 < cs.length then 8 else 0, rngE (-1000) 1000 cs, rngE 1 1000 [b]]
theorem rngE_all {lo hi : Int} {xs : List Int} (h : rngE lo hi xs = 0) : ∀ x ∈ xs, lo ≤ x ∧ x ≤ hi := by
  unfold rngE at h
  by_cases h2 : fromB lo hi xs = true
  · exact fromB_all h2
  · rw [if_neg h2] at h; cases h
theorem rngE_ofall {lo hi : Int} {xs : List Int} (h : ∀ x ∈ xs, lo ≤ x ∧ x ≤ hi) : rngE lo hi xs = 0 := by
  unfold rngE
  rw [if_pos]
  unfold fromB
  rw [List.all_eq_true]
  intro x hx
  have := h x hx
  simp; omega
theorem fltE_zero {cs : List Int} {b : Int} (h : fltE cs b = 0) : (1 ≤ cs.length ∧ cs.length ≤ 8) ∧ (∀ c ∈ cs, -1000 ≤ c ∧ c ≤ 1000) ∧ 1 ≤ b ∧ b ≤ 1000 := by
  have h1 := firstNZ_zero h (if cs.length = 0 then 10 else 0) (by simp)
  have h2 := firstNZ_zero h (if 8 < cs.length then 8 else 0) (by simp)
  have h3 := firstNZ_zero h (rngE (-1000) 1000 cs) (by simp)
  have h4 := firstNZ_zero h (rngE 1 1000 [b]) (by simp)
  refine ⟨⟨?_, ?_⟩, rngE_all h3, rngE_zero h4⟩
  · rcases Nat.eq_zero_or_pos cs.length with h0 | h0
    · rw [if_pos h0] at h1; cases h1
    · omega
  · rcases Nat.lt_or_ge 8 cs.length with h0 | h0
    · rw [if_pos h0] at h2; cases h2
    · omega
theorem fltE_of {cs : List Int} {b : Int} (h : (1 ≤ cs.length ∧ cs.length ≤ 8) ∧ (∀ c ∈ cs, -1000 ≤ c ∧ c ≤ 1000) ∧ 1 ≤ b ∧ b ≤ 1000) : fltE cs b = 0 := by
  unfold fltE
  rw [if_neg (by omega), if_neg (by omega), rngE_ofall h.2.1, rngE_of h.2.2]
  rfl
theorem below4 (w : World) (o p q r : Obj) : Below w.heap.size w ((((w.alloc o).alloc p).alloc q).alloc r) := (below3 w o p q).alloc (by simp; omega) _
set_option maxRecDepth 100000 in
set_option maxHeartbeats 4000000 in
theorem CheckFilter_any (A : Option Addr) (n c : Nat) (cs : List Int) (b : Int) (w : World) (hr : RdI w A n cs) (hn : n ≤ 9223372036854775806) :
    Calls Try.prog 79 #[.agg #[.slice A n c, .int .i64 b]] w fun e w' => e = .returned (.int .i64 (fltE cs b)) ∧ Below w.heap.size w w' := by
  have CE : Hid (∀ W a d, Below w.heap.size w W → W.cell? a = some (.int .i64 (-1000)) → W.cell? d = some (.int .i64 1000) → Calls Try.prog 124 #[.slice A n c, .func (.func 117) #[] #[.pointer (some a), .pointer (some d)]] W fun e w' => e = .returned (.int .i64 (rngE (-1000) 1000 cs)) ∧ W = w') := fun W a d hb h1 h2 => checkEach_any A n c cs (-1000) 1000 a d W (hr.below hb) hn h1 h2
  have HE : Hid (fltE cs b = firstNZ [if n = 0 then 10 else 0, if 8 < n then 8 else 0, rngE (-1000) 1000 cs, rngE 1 1000 [b]]) := by show _ = _; unfold fltE; rw [hr.1]
  obtain ⟨F, hF⟩ : ∃ F, fltE cs b = F := ⟨_, rfl⟩
  rw [hF] at HE ⊢
  obtain ⟨E, hE⟩ : ∃ E, rngE (-1000) 1000 cs = E := ⟨_, rfl⟩
  rw [hE] at CE HE
  obtain ⟨G, hG⟩ : ∃ G, rngE 1 1000 [b] = G := ⟨_, rfl⟩
  rw [hG] at HE
  have CG := Lib.hid (fun a d W (ha : W.cell? a = some (.int .i64 1)) (hb : W.cell? d = some (.int .i64 1000)) => from1_any b 1 1000 a d W ha hb)
  rw [hG] at CG
  clear hF hE hG hr
  obtain ⟨z0, hz0⟩ : ∃ z, ((n : Int) == 0) = z := ⟨_, rfl⟩
  obtain ⟨z1, hz1⟩ : ∃ z, decide ((8 : Int) < (n : Int)) = z := ⟨_, rfl⟩
  have HF : Hid (firstNZ [if z0 = true then 10 else 0, if z1 = true then 8 else 0, E, G] = F) := by
    refine Lib.hid ?_
    rw [HE.out]
    have e0 : (if z0 = true then (10 : Int) else 0) = if n = 0 then 10 else 0 := by
      by_cases h : n = 0
      · have : z0 = true := by rw [← hz0, h]; rfl
        rw [if_pos this, if_pos h]
      · have : ¬ z0 = true := by rw [← hz0]; simp; omega
        rw [if_neg this, if_neg h]
    have e1 : (if z1 = true then (8 : Int) else 0) = if 8 < n then 8 else 0 := by
      by_cases h : 8 < n
      · have : z1 = true := by rw [← hz1]; exact decide_eq_true (by omega)
        rw [if_pos this, if_pos h]
      · have : ¬ z1 = true := by rw [← hz1]; simp; omega
        rw [if_neg this, if_neg h]
    rw [e0, e1]
  clear HE
  have CW0 := Lib.hid (fun w => when_any z0 10 w)
  have CW1 := Lib.hid (fun w => when_any z1 8 w)
  obtain ⟨k0, hk0⟩ : ∃ k, (if z0 = true then (10 : Int) else 0) = k := ⟨_, rfl⟩
  obtain ⟨k1, hk1⟩ : ∃ k, (if z1 = true then (8 : Int) else 0) = k := ⟨_, rfl⟩
  rw [hk0] at HF CW0
  rw [hk1] at HF CW1
  clear hk0 hk1
  go_enter Try.func79, Try.ntmps79
  go_wp2
  go_region_held3 (fun w' : World => w'.cell? ⟨w.heap.size, 0, none⟩ = some (.slice A n c) ∧ w'.cell? ⟨w.heap.size, 1, none⟩ = some (.int .i64 b)) ((go_split_ands; simp [go_sem, *])) (first
    | (go_at_call 68; refine (CW0.out _).mono ?_; rintro e w' ⟨rfl, rfl⟩)
    | (go_at_call 68; refine (CW1.out _).mono ?_; rintro e w' ⟨rfl, rfl⟩)
    | (go_at_call 63; refine (from_any _ _ _).mono ?_; rintro e w' ⟨rfl, rfl⟩)
    | (go_at_call 127; refine (atMost_any 1000 (by omega) _).mono ?_; rintro e w' ⟨rfl, rfl⟩)
    | (go_at_call 117; refine (CG.out _ _ _ ?_ ?_).mono ?_; (focus (simp [go_sem])); (focus (simp [go_sem])); rintro e w' ⟨rfl, rfl⟩)
    | (go_at_call 124; refine (CE.out _ _ _ ?_ ?_ ?_).mono ?_; (focus ((repeat (first | exact Below.refl _ _ | refine Below.drew ?_ | refine belowDrewN ?_ _ | refine Below.alloc ?_ (by first | (simp; done) | (simp; omega)) _)))); (focus (simp [go_sem])); (focus (simp [go_sem])); rintro e w' ⟨rfl, rfl⟩)
    | (go_at_call 62; refine (firstError4 HF.out _ _ ?_ ?_ ?_ ?_).mono ?_; (focus (simp [go_sem])); (focus (simp [go_sem])); (focus (simp [go_sem])); (focus (simp [go_sem])); rintro e w' ⟨rfl, rfl⟩))
  all_goals
    go_wp2
    go_ret
    exact ⟨rfl, by (repeat (first | exact Below.refl _ _ | refine Below.drew ?_ | refine belowDrewN ?_ _ | refine Below.alloc ?_ (by first | (simp; done) | (simp; omega)) _))⟩

theorem fsP_bd {cs xs : List Int} (hc : ∀ c ∈ cs, -1000 ≤ c ∧ c ≤ 1000) (hx : ∀ x ∈ xs, -1000000000000 ≤ x ∧ x ≤ 1000000000000) (n : Nat) : ∀ k : Nat, -(1000000000000000 * (k : Int)) ≤ fsP cs xs n k ∧ fsP cs xs n k ≤ 1000000000000000 * (k : Int)
  | 0 => by simp [fsP]
  | k + 1 => by
    have ih := fsP_bd hc hx n k
    have h := mul_bd (getD_bd (by omega) hc k) (getD_bd (by omega) hx (n - k)) (by omega) (by omega)
    show _ ≤ fsP cs xs n k + (if k ≤ n then _ else 0) ∧ fsP cs xs n k + (if k ≤ n then _ else 0) ≤ _
    split <;> omega
theorem fsum_bd {cs xs : List Int} (hl : cs.length ≤ 8) (hc : ∀ c ∈ cs, -1000 ≤ c ∧ c ≤ 1000) (hx : ∀ x ∈ xs, -1000000000000 ≤ x ∧ x ≤ 1000000000000) (n : Nat) : -8000000000000000 ≤ fsum cs xs n ∧ fsum cs xs n ≤ 8000000000000000 := by
  have := fsP_bd hc hx n cs.length
  unfold fsum
  omega
set_option maxRecDepth 100000 in
set_option maxHeartbeats 1000000 in
theorem sumAt_any (A : Option Addr) (n c : Nat) (cs : List Int) (B : Option Addr) (m d : Nat) (xs : List Int) (q : Nat) (w : World) (hr : RdI w A n cs) (hn : n ≤ 8) (hc : ∀ c ∈ cs, -1000 ≤ c ∧ c ≤ 1000) (hx : RdI w B m xs) (hq : q < m) (hm : m ≤ 1000000) (hxs : ∀ x ∈ xs, -1000000000000 ≤ x ∧ x ≤ 1000000000000) :
    Calls Try.prog 83 #[.slice A n c, .slice B m d, .int .i64 (q : Int)] w fun e w' => e = .returned (.int .i64 (fsum cs xs q)) ∧ w = w' := by
  have HR := Lib.hid hr
  have HX := Lib.hid hx
  have HC : Hid (∀ k, -1000 ≤ cs.getD k 0 ∧ cs.getD k 0 ≤ 1000) := fun k => getD_bd (by omega) hc k
  have HXS : Hid (∀ k, -1000000000000 ≤ xs.getD k 0 ∧ xs.getD k 0 ≤ 1000000000000) := fun k => getD_bd (by omega) hxs k
  have HB : Hid (∀ k : Nat, -(1000000000000000 * (k : Int)) ≤ fsP cs xs q k ∧ fsP cs xs q k ≤ 1000000000000000 * (k : Int)) := fsP_bd hc hxs q
  have HS : Hid (∀ k, fsP cs xs q (k + 1) = fsP cs xs q k + (if k ≤ q then cs.getD k 0 * xs.getD (q - k) 0 else 0)) := fun k => rfl
  have HF : Hid (fsP cs xs q n = fsum cs xs q) := by show _ = _; rw [fsum, hr.1]
  have H0 : Hid (fsP cs xs q 0 = 0) := rfl
  obtain ⟨F, hF⟩ : ∃ F, fsum cs xs q = F := ⟨_, rfl⟩
  rw [hF] at HF ⊢
  obtain ⟨P, hP⟩ : ∃ P, fsP cs xs q = P := ⟨_, rfl⟩
  rw [hP] at HF HS HB H0
  clear hF hP hr hx hc hxs
  go_enter Try.func83, Try.ntmps83
  go_wp2
  go_loop [7, 12] (fun s i => ∃ k : Nat, k ≤ n ∧ i = .int .i64 k ∧ s = .int .i64 (P k)) (fun _ i => n - (intOf i).toNat)
  case atStart => exact ⟨0, Nat.zero_le _, rfl, by rw [H0.out]⟩
  case round =>
    obtain ⟨k, hk, rfl, rfl⟩ := hrel
    by_cases hlt : k < n
    · obtain ⟨ad, rfl, _, hca⟩ := HR.out.2 (by omega)
      have hck := hca k hlt
      have hcb := HC.out k
      have hs := HS.out k
      have hb := HB.out k
      clear hca
      obtain ⟨x, hx⟩ : ∃ x, cs.getD k 0 = x := ⟨_, rfl⟩
      rw [hx] at hck hcb hs
      clear hx
      have hkI : (k : Int) < (n : Int) := by omega
      by_cases hq2 : k ≤ q
      · obtain ⟨bd, rfl, _, hcx⟩ := HX.out.2 (by omega)
        have hcy := hcx (q - k) (by omega)
        have hyb := HXS.out (q - k)
        clear hcx
        rw [if_pos hq2] at hs
        obtain ⟨y, hy⟩ : ∃ y, xs.getD (q - k) 0 = y := ⟨_, rfl⟩
        rw [hy] at hcy hyb hs
        obtain ⟨j, hj⟩ : ∃ j, q - k = j := ⟨_, rfl⟩
        rw [hj] at hcy
        have v1 : IntKind.i64.wrap ((q : Int) - (k : Int)) = (j : Int) := by rw [show (q : Int) - (k : Int) = (j : Int) by omega]; exact IntWalk.i64_in _ (by omega)
        have hjm : (j : Int) < (m : Int) := by omega
        have hjn : j < m := by omega
        have hmul := mul_bd hcb hyb (by omega) (by omega)
        obtain ⟨p, hp⟩ : ∃ p, P k = p := ⟨_, rfl⟩
        rw [hp] at hs hb
        have w1 : IntKind.i64.wrap (x * y) = x * y := IntWalk.i64_in _ (by omega)
        have w2 : IntKind.i64.wrap (p + x * y) = p + x * y := IntWalk.i64_in _ (by omega)
        rw [hp]
        have hqI : (k : Int) ≤ (q : Int) := by omega
        have HSS := Lib.hid hs
        have HYD := Lib.hid hy
        have HJD := Lib.hid hj
        clear hs hy hj hp
        go_wp2
        go_round
        case rel => exact ⟨k + 1, by omega, by go_num, by rw [HSS.out]⟩
        case measure => simp [intOf]; omega
      · rw [if_neg hq2, Int.add_zero] at hs
        have hqI : ¬ (k : Int) ≤ (q : Int) := by omega
        have HSS := Lib.hid hs
        clear hs
        go_wp2
        go_round
        case rel => exact ⟨k + 1, by omega, by go_num, by rw [HSS.out]⟩
        case measure => simp [intOf]; omega
    · obtain rfl : n = k := by omega
      have hkI : ¬ (n : Int) < (n : Int) := by omega
      clear hlt
      go_wp2
      go_ret
      exact ⟨by rw [HF.out]; rfl, rfl⟩

end Go.Proofs.Ytepcciodhppbnaa
