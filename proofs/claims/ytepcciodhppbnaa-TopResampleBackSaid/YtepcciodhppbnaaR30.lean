import Derived.Test.YtepcciodhppbnaaR29
import Derived.Test.YtepcciodhppbnaaS4

namespace Go.Proofs.Ytepcciodhppbnaa
open Go.RowKit

/-- The greatest step of the first samples of a list. -/
def mxL (T : List Int) : Nat → Int
  | 0 => 0
  | 1 => 0
  | u + 2 => if mxL T (u + 1) < absF (T.getD (u + 1) 0 - T.getD u 0) then absF (T.getD (u + 1) 0 - T.getD u 0) else mxL T (u + 1)
theorem mxL_bd {T : List Int} (h : ∀ i, -30000 ≤ T.getD i 0 ∧ T.getD i 0 ≤ 30000) : ∀ n, 0 ≤ mxL T n ∧ mxL T n ≤ 60000
  | 0 => by simp [mxL]
  | 1 => by simp [mxL]
  | u + 2 => by
    have ih := mxL_bd h (u + 1)
    have h1 := h (u + 1)
    have h2 := h u
    unfold mxL absF
    split <;> split <;> omega
theorem mxL_ge {T : List Int} : ∀ n i, i + 1 < n → absF (T.getD (i + 1) 0 - T.getD i 0) ≤ mxL T n
  | 0, i, h => absurd h (by omega)
  | 1, i, h => absurd h (by omega)
  | u + 2, i, h => by
    unfold mxL
    by_cases hi : i = u
    · subst hi; split <;> omega
    · have ih := mxL_ge (T := T) (u + 1) i (by omega)
      split <;> omega
theorem timLo_bd {x1 x2 y1 y2 t : Int} (hx : x1 < y1) (hy : x2 < y2) (ht : x1 ≤ t ∧ t ≤ y1) : x2 ≤ timLo x1 x2 y1 y2 t ∧ timLo x1 x2 y1 y2 t ≤ y2 := by
  unfold timLo timP
  obtain ⟨D, hD⟩ : ∃ D, y2 - x2 = D := ⟨_, rfl⟩
  obtain ⟨j, hj⟩ : ∃ j, t - x1 = j := ⟨_, rfl⟩
  obtain ⟨L, hL⟩ : ∃ L, y1 - x1 = L := ⟨_, rfl⟩
  rw [hD, hj, hL]
  have h1 : 0 ≤ D * j := Int.mul_nonneg (by omega) (by omega)
  have h2 : D * j ≤ D * L := Int.mul_le_mul_of_nonneg_left (by omega) (by omega)
  have h3 : 0 ≤ D * j / L := Int.ediv_nonneg h1 (by omega)
  have h4 : D * j / L ≤ D := Int.ediv_le_of_le_mul (by omega) h2
  omega
theorem back_walk (A : Option Addr) (m c : Nat) (ns : List (Int × Int)) (s st r : Int) (w : World) (hr : RdP w A m ns) (hm0 : m ≤ 9223372036854775807) (hA : A = none → m = 0 ∧ c = 0) :
    Calls Try.prog 7 #[.agg #[.slice A m c, .int .i64 s, .int .i64 st, .int .i64 r]] w fun e w' => e = .returned (.bool true) ∧ Below w.heap.size w w' := by
  by_cases h1 : m ≤ 20
  rotate_left
  · exact tbk_1 A m c ns s st r w hr hm0 (by omega)
  have hl : ns.length = m := hr.1
  have CM := fun W (h : RdP W A m ns) => refMapErr_any A m c ns W h (by omega)
  by_cases hM : (mapR ns).2 = 0
  rotate_left
  · exact tbk_2 A m c ns s st r w hr hm0 _ hM h1 CM
  rw [hM] at CM
  obtain ⟨hok, hl2, hl20⟩ := mapR_ok hM
  obtain ⟨⟨f1, f2⟩, hf⟩ : ∃ x, ns.getD 0 (0, 0) = x := ⟨_, rfl⟩
  have CF := fun W (h : RdP W A m ns) => refFirst_any m c ns A W h (by omega) (by omega) f1 f2 hf
  by_cases hF : f1 = 0 ∧ f2 = 0
  rotate_left
  · exact tbk_3 A m c ns s st r w hr hm0 f1 f2 hF h1 CM CF
  obtain ⟨rfl, rfl⟩ := hF
  obtain ⟨⟨z1, z2⟩, hz⟩ : ∃ x, ns.getD (m - 1) (0, 0) = x := ⟨_, rfl⟩
  have CL := fun W (h : RdP W A m ns) => refLast_any m c ns A W h (m - 1) (by omega) (by omega) z1 z2 hz
  by_cases h60 : z1 ≤ 60
  rotate_left
  · exact tbk_4 A m c ns s st r w hr hm0 z1 z2 (by omega) h1 CM CF CL
  have W1 := fun W => within_any s 1 1000 W
  by_cases hs : 1 ≤ s ∧ s ≤ 1000
  rotate_left
  · rw [show fromB 1 1000 [s] = false by rw [fromB_one]; exact decide_eq_false hs] at W1
    exact tbk_5 A m c ns s st r w hr hm0 z1 z2 h60 h1 CM CF CL W1
  rw [show fromB 1 1000 [s] = true by rw [fromB_one]; exact decide_eq_true hs] at W1
  have W2 := fun W => within_any st (-1000) 1000 W
  by_cases hst : -1000 ≤ st ∧ st ≤ 1000
  rotate_left
  · rw [show fromB (-1000) 1000 [st] = false by rw [fromB_one]; exact decide_eq_false hst] at W2
    exact tbk_6 A m c ns s st r w hr hm0 z1 z2 h60 h1 CM CF CL W1 W2
  rw [show fromB (-1000) 1000 [st] = true by rw [fromB_one]; exact decide_eq_true hst] at W2
  have W3 := fun W => within_any r (-64) 64 W
  by_cases hrr : -64 ≤ r ∧ r ≤ 64
  rotate_left
  · rw [show fromB (-64) 64 [r] = false by rw [fromB_one]; exact decide_eq_false hrr] at W3
    exact tbk_7 A m c ns s st r w hr hm0 z1 z2 h60 h1 CM CF CL W1 W2 W3
  rw [show fromB (-64) 64 [r] = true by rw [fromB_one]; exact decide_eq_true hrr] at W3
  by_cases h2k : z2 ≤ 20000
  rotate_left
  · exact tbk_8 A m c ns s st r w hr hm0 z1 z2 h60 (by omega) h1 CM CF CL W1 W2 W3
  have g1 := nodes_pos_le hok (m - 1) 0 (by omega)
  have g2 := nodes_le hok (m - 1) 0 (by omega)
  rw [Nat.zero_add, hz, hf] at g1 g2
  simp only at g1 g2
  by_cases hd : 400 ≤ z2 / s
  · exact tbk_9 A m c ns s st r w hr hm0 z1 z2 h60 h2k g2 hs.1 hd h1 CM CF CL W1 W2 W3
  obtain ⟨L, hL⟩ : ∃ L : Nat, z1 = (L : Int) := ⟨z1.toNat, by omega⟩
  subst hL
  have hdn : 0 ≤ z2 / s := Int.ediv_nonneg g2 (by omega)
  obtain ⟨K, hK⟩ : ∃ K : Nat, z2 / s + 1 = (K : Int) := ⟨(z2 / s + 1).toNat, by omega⟩
  have hzl : ns.getD (ns.length - 1) (0, 0) = ((L : Int), z2) := by rw [hl]; exact hz
  have piece : ∀ i : Nat, i ≤ L → ∃ p, p + 1 < m ∧ (∀ j, j < p → (ns.getD (j + 1) (0, 0)).1 < (i : Int)) ∧ (ns.getD p (0, 0)).1 ≤ (i : Int) ∧ (i : Int) ≤ (ns.getD (p + 1) (0, 0)).1 := fun i hi => by
    obtain ⟨p, hp, hb, ha, hc⟩ := first_pieceQ (t := (i : Int)) (ns := ns) (m - 1) (by omega) (by omega) (by rw [hf]; show (0 : Int) ≤ _; omega) (by rw [hz]; show _ ≤ (L : Int); omega)
    exact ⟨p, by omega, hb, ha, hc⟩
  have hT : ∀ i : Nat, i ≤ L → (timR (i : Int) ns).2.2 = 0 := fun i hi => by
    obtain ⟨p, hp, hb, ha, hc⟩ := piece i hi
    rw [timR_at hM (by omega) hb ha hc]
  have hlo : ∀ i : Nat, i ≤ L → 0 ≤ (timR (i : Int) ns).1 ∧ (timR (i : Int) ns).1 ≤ 20000 := fun i hi => by
    obtain ⟨p, hp, hb, ha, hc⟩ := piece i hi
    rw [timR_at hM (by omega) hb ha hc]
    have k := hok p (by omega)
    have hbd := timLo_bd k.1.2.1 k.2.2.1 ⟨ha, hc⟩
    have e1 := nodes_le hok p 0 (by omega)
    have e2 := nodes_le hok (m - 1 - (p + 1)) (p + 1) (by omega)
    rw [Nat.zero_add, hf] at e1
    rw [show p + 1 + (m - 1 - (p + 1)) = m - 1 by omega, hz] at e2
    simp only at e1 e2 ⊢
    omega
  have hTi : ∀ i : Nat, i ≤ L → (tapeL st r ns (L + 1)).getD i 0 = st + r * (timR (i : Int) ns).1 / 64 := fun i hi => tapeL_at st r ns (L + 1) i (by omega)
  have hTb : ∀ i, -30000 ≤ (tapeL st r ns (L + 1)).getD i 0 ∧ (tapeL st r ns (L + 1)).getD i 0 ≤ 30000 := fun i => by
    by_cases hi : i ≤ L
    · rw [hTi i hi]
      have hb := hlo i hi
      have := mul_bd (a := r) (b := (timR (i : Int) ns).1) (A := 64) (B := 20000) hrr (by omega) (by omega) (by omega)
      omega
    · rw [List.getD_eq_getElem?_getD, List.getElem?_eq_none (by rw [tapeL_len]; omega)]
      simp
  have hmx := mxL_bd hTb
  refine tbk_loop A m c ns s st r w hr hm0 h1 L (L + 1) (by omega) rfl z2 hs hst hrr g2 h2k (by omega) K ((List.range K).map (fun k : Nat => outF 1 (tapeL st r ns (L + 1)) (posR ((k : Int) * s) ns).1)) (fun i => (timR (i : Int) ns).1) (fun i => (timR (i : Int) ns).2.1) (tapeL st r ns (L + 1)) (sigE (tapeL st r ns (L + 1))) (mxL (tapeL st r ns (L + 1)))
    CM CF CL W1 W2 W3 (fun W h => copyMap_any A m c ns W hA h (by omega)) ?_ ?_ (fun A' c' W h => refSignalErr_any A' (L + 1) c' _ W h (by omega)) hTi (tapeL_len _ _ _ _) hlo ?_ ?_ (hmx _) hK rfl rfl (fun u => rfl)
  · intro i hi A' c' W h
    have := TimeAt_any A' m c' ns (i : Int) W h (by omega)
    unfold TimRes at this
    rw [hT i hi] at this
    exact this
  · intro i hi W h
    obtain ⟨p, hp, hb, ha, hc⟩ := piece i hi
    have k := hok p (by omega)
    have := refTimeAt_any A m c ns (i : Int) W h (by omega) p hp hb _ _ _ _ rfl rfl k.1 k.2 ⟨ha, hc⟩
    rw [timR_at hM (by omega) hb ha hc]
    exact this
  · intro hS A' c' B' d' W h h2
    have hrul : rulC 1 1 0 0 s m ns = 0 := by
      unfold rulC
      have e1 : degE 1 = 0 := by decide
      have e2 : mpC 0 0 s ns = 0 := by
        unfold mpC
        rw [hM]
        have : rngE 1 1000000000000 [s] = 0 := by
          show (if fromB 1 1000000000000 [s] = true then 0 else 2) = 0
          rw [show fromB 1 1000000000000 [s] = true by rw [fromB_one]; exact decide_eq_true (by omega)]; rfl
        rw [this]; rfl
      rw [if_neg (by omega), if_pos e1, if_neg (by omega), e2]
    have := Resampled_01 1 1 0 0 s A' m c' ns B' (L + 1) d' _ W h (by omega) h2 hrul hS
    rw [if_neg (by decide), (back_outs (s := s) (n := L + 1) (K := K) (tapeL st r ns (L + 1)) hM (by rw [hf]) hs.1 (by rw [hzl]; show (L : Int) + 1 = _; omega) (by rw [hzl]; exact hK) (by omega)).1] at this
    exact Calls.mono this (fun e w' ho => OwnRes.rd ho (by simp))
  · intro hS k hk
    have hks := (back_outs (s := s) (n := L + 1) (K := K) (tapeL st r ns (L + 1)) hM (by rw [hf]) hs.1 (by rw [hzl]; show (L : Int) + 1 = _; omega) (by rw [hzl]; exact hK) (by omega)).2 k hk
    have h0 : 0 ≤ (k : Int) * s := Int.mul_nonneg (by omega) (by omega)
    have hb := back_bd (t := (k : Int) * s) (st := st) (r := r) (sp := mxL (tapeL st r ns (L + 1)) (L + 1)) (n := L + 1) hM (by rw [hf]; exact h0) hks (by rw [hzl]; show (L : Int) + 1 = _; omega) hrr (sigE_zero hS).2 (hmx _).1 (fun i hi => by
      have := mxL_ge (T := tapeL st r ns (L + 1)) (L + 1) i hi
      unfold absF at this
      split at this <;> omega)
    have e : ((List.range K).map (fun k : Nat => outF 1 (tapeL st r ns (L + 1)) (posR ((k : Int) * s) ns).1)).getD k 0 = outF 1 (tapeL st r ns (L + 1)) (posR ((k : Int) * s) ns).1 := by
      simp [List.getD_eq_getElem?_getD, List.getElem?_range hk]
    rw [e]
    rw [hzl] at hks
    exact ⟨hb, by have : (k : Int) * s ≤ z2 := hks; omega⟩

end Go.Proofs.Ytepcciodhppbnaa
