import Derived.Test.YtnmfeonagigkeaaDoorU9
import Derived.Test.YtnmfeonagigkeaaDoorV4
import Derived.Test.YtnmfeonagigkeaaDoorV2
namespace Go.Proofs.YtnmfeonagigkeaaDoor

/-- A straight line. -/
def lineL (s d : Int) (n : Nat) : List Int := (List.range n).map fun (i : Nat) => s + (i : Int) * d
theorem lineL_length (s d : Int) (n : Nat) : (lineL s d n).length = n := by simp [lineL]
theorem lineL_succ (s d : Int) (n : Nat) : lineL s d (n + 1) = lineL s d n ++ [s + (n : Int) * d] := by simp [lineL, List.range_succ]
theorem lineL_at (s d : Int) (n i : Nat) (h : i < n) : (lineL s d n).getD i 0 = s + (i : Int) * d := by
  rw [List.getD_eq_getElem?_getD, List.getElem?_eq_getElem (by rw [lineL_length]; exact h)]
  simp [lineL]
theorem line_bd {s d : Int} {i : Nat} (hs : -10000 ≤ s ∧ s ≤ 10000) (hd : -1000 ≤ d ∧ d ≤ 1000) (hi : i ≤ 60) : (-60000 ≤ (i : Int) * d ∧ (i : Int) * d ≤ 60000) := by
  have h := mul_bd (x := d) (t := (i : Int)) (M := 1000) (T := 60) (by omega) (by omega) (by omega) (by omega) (by omega)
  rw [Int.mul_comm d (i : Int)] at h
  omega
theorem lineL_small {s d : Int} {n : Nat} (hs : -10000 ≤ s ∧ s ≤ 10000) (hd : -1000 ≤ d ∧ d ≤ 1000) (hn : n ≤ 60) : Small (lineL s d n) := by
  intro x hx
  unfold lineL at hx
  obtain ⟨i, hi, rfl⟩ := List.mem_map.1 hx
  have h := line_bd (i := i) hs hd (by have := List.mem_range.1 hi; omega)
  omega

/-- A gap is spoilt. -/
def spStep (z : Int) (l : List Int) (g : Int × Int) : List Int := bridgeTo (z, z) l g.1.toNat g.2.toNat (g.2.toNat + 1 - g.1.toNat)
def spL (z : Int) (xs : List Int) (gs : List (Int × Int)) : List Int := gs.foldl (spStep z) xs
theorem spL_snoc (z : Int) (xs : List Int) (gs : List (Int × Int)) (g : Int × Int) : spL z xs (gs ++ [g]) = spStep z (spL z xs gs) g := by simp [spL]
theorem spL_length (z : Int) : ∀ (gs : List (Int × Int)) (xs : List Int), (spL z xs gs).length = xs.length
  | [], _ => rfl
  | g :: gs, xs => by
    show (spL z (spStep z xs g) gs).length = _
    rw [spL_length z gs]
    exact bridgeTo_length _ _ _ _ _
theorem spL_out (z : Int) (i : Nat) : ∀ (gs : List (Int × Int)) (l : List Int), i < l.length → (∀ g ∈ gs, ¬ (g.1.toNat ≤ i ∧ i ≤ g.2.toNat)) → (spL z l gs).getD i 0 = l.getD i 0
  | [], _, _, _ => rfl
  | g :: gs, l, hl, h => by
    show (spL z (spStep z l g) gs).getD i 0 = _
    rw [spL_out z i gs _ (by show i < (bridgeTo _ _ _ _ _).length; rw [bridgeTo_length]; exact hl) fun q hq => h q (List.mem_cons_of_mem _ hq)]
    have h0 := h g (List.mem_cons_self ..)
    show (bridgeTo _ _ _ _ _).getD i 0 = _
    rw [bridgeTo_getD _ _ _ _ _ _ hl, if_neg (by omega)]
theorem spL_small {z : Int} (hz : -100000 ≤ z ∧ z ≤ 100000) : ∀ (gs : List (Int × Int)) (l : List Int), Small l → Small (spL z l gs)
  | [], _, h => h
  | g :: gs, l, h => by
    refine spL_small hz gs _ fun x hx => ?_
    unfold spStep bridgeTo at hx
    obtain ⟨i, _, rfl⟩ := List.mem_map.1 hx
    split
    · unfold bridgeAt
      rw [lerp_same]
      show -1000000 ≤ z ∧ z ≤ 1000000
      omega
    · exact h.at_ i
theorem ext_getD {a b : List Int} (hl : a.length = b.length) (h : ∀ i, i < a.length → a.getD i 0 = b.getD i 0) : a = b := by
  apply List.ext_getElem hl
  intro i h1 h2
  have := h i h1
  simpa [List.getD_eq_getElem?_getD, List.getElem?_eq_getElem h1, List.getElem?_eq_getElem h2] using this
theorem gaps_after {count : Int} {gs : List (Int × Int)} (hF : gapsF count none gs = 0) {i j : Nat} (hi : i < j) (hj : j < gs.length) : (gs.getD i (0, 0)).2 + 2 ≤ (gs.getD j (0, 0)).1 := by
  have h := hF
  rw [getD_split (gs := gs) (m := i) (by omega)] at h
  obtain ⟨h1, h2, h3, h4⟩ := gapsF_after h
  obtain ⟨_, _, h5⟩ := sumG_some h1 h4
  refine (h5 _ ?_).1
  rw [List.getD_eq_getElem?_getD, List.getElem?_eq_getElem hj, Option.getD_some]
  have e : gs[j] = (gs.drop (i + 1))[j - (i + 1)]'(by rw [List.length_drop]; omega) := by rw [List.getElem_drop]; congr 1; omega
  rw [e]
  exact List.getElem_mem _
theorem gaps_apart {count : Int} {gs : List (Int × Int)} (hF : gapsF count none gs = 0) {i j : Nat} (hi : i < gs.length) (hj : j < gs.length) (hne : i ≠ j) : (gs.getD i (0, 0)).2 + 2 ≤ (gs.getD j (0, 0)).1 ∨ (gs.getD j (0, 0)).2 + 2 ≤ (gs.getD i (0, 0)).1 := by
  rcases Nat.lt_or_gt_of_ne hne with h | h
  · exact Or.inl (gaps_after hF h hj)
  · exact Or.inr (gaps_after hF h hi)
theorem lerp_line (s d a b j : Int) (h : a < b) : lerp (s + a * d) (s + b * d) (j - a) (b - a) = s + j * d := by
  unfold lerp
  have e : (s + b * d - (s + a * d)) * (j - a) = (b - a) * (d * (j - a)) := by
    rw [show s + b * d - (s + a * d) = (b - a) * d by rw [Int.sub_mul]; omega, Int.mul_assoc]
  rw [e, Int.mul_ediv_cancel_left _ (by omega), Int.mul_sub, Int.mul_comm d j, Int.mul_comm d a]
  omega
theorem straight {s d z : Int} {n : Nat} {gs : List (Int × Int)} (hF : gapsF (n : Nat) none gs = 0) (hE : ∀ m, m < gs.length → (gs.getD m (0, 0)).1 ≠ 0 ∧ (gs.getD m (0, 0)).2 ≠ (n : Int) - 1) : refL (spL z (lineL s d n) gs) gs = lineL s d n := by
  have hl : (spL z (lineL s d n) gs).length = n := by rw [spL_length, lineL_length]
  have hF' : gapsF ((spL z (lineL s d n) gs).length : Nat) none gs = 0 := by rw [hl]; exact hF
  have hout : ∀ p, p < n → (∀ m, m < gs.length → ¬ inG gs m p) → (spL z (lineL s d n) gs).getD p 0 = s + (p : Int) * d := by
    intro p hp h
    rw [spL_out z p gs _ (by rw [lineL_length]; exact hp), lineL_at _ _ _ _ hp]
    intro g hg h1
    obtain ⟨m, hm, e⟩ := List.mem_iff_getElem.1 hg
    have h2 := h m hm
    have h3 := gapsF_ok hF g hg
    unfold inG at h2
    have e' : gs.getD m (0, 0) = g := by simp [List.getD_eq_getElem?_getD, List.getElem?_eq_getElem hm, e]
    rw [e'] at h2
    omega
  apply ext_getD
  · rw [refL_length, hl, lineL_length]
  · intro j hj
    rw [refL_length, hl] at hj
    rw [lineL_at _ _ _ _ hj]
    by_cases hex : ∃ m, m < gs.length ∧ inG gs m j
    · obtain ⟨m, hm, hin⟩ := hex
      have h3 := gapsF_ok hF _ (getD_mem hm)
      have hEm := hE m hm
      have hap : ∀ p : Nat, (p : Int) = (gs.getD m (0, 0)).1 - 1 ∨ (p : Int) = (gs.getD m (0, 0)).2 + 1 → ∀ q, q < gs.length → ¬ inG gs q p := by
        intro p hp q hq h
        unfold inG at h
        by_cases e : q = m
        · subst e; omega
        · have := gaps_apart hF hq hm e
          omega
      unfold inG at hin
      have h4 : (gs.getD m (0, 0)).1.toNat ≤ j ∧ j ≤ (gs.getD m (0, 0)).2.toNat := by omega
      rw [refL_in hF' (getD_split hm) h4]
      unfold bridgeAt endsL
      rw [if_neg (by omega), if_neg (by rw [hl]; omega)]
      dsimp only
      rw [hout _ (by omega) (hap _ (by omega)), hout _ (by omega) (hap _ (by omega))]
      have e1 : (((gs.getD m (0, 0)).1.toNat - 1 : Nat) : Int) = ((gs.getD m (0, 0)).1.toNat : Int) - 1 := by omega
      have e2 : (((gs.getD m (0, 0)).2.toNat + 1 : Nat) : Int) = ((gs.getD m (0, 0)).2.toNat : Int) + 1 := by omega
      rw [e1, e2]
      exact lerp_line s d _ _ _ (by omega)
    · rw [bridge_out hF' (by rw [hl]; exact hj) fun m hm h => hex ⟨m, hm, h⟩]
      exact hout j hj fun m hm h => hex ⟨m, hm, h⟩
theorem small_pos {xs : List Int} (hl : xs.length ≤ 200) (h : Small xs) : posE xs = 0 := by
  unfold posE
  rw [if_neg (by omega), if_pos]
  unfold fromB
  rw [List.all_eq_true]
  intro x hx
  have := h x hx
  simp; omega
theorem line_pos {s d : Int} {n : Nat} (hs : -10000 ≤ s ∧ s ≤ 10000) (hd : -1000 ≤ d ∧ d ≤ 1000) (hn : n ≤ 60) : posE (lineL s d n) = 0 := small_pos (by rw [lineL_length]; omega) (lineL_small hs hd hn)
theorem line_turn {s d : Int} {n : Nat} (hs : -10000 ≤ s ∧ s ≤ 10000) (hd : -1000 ≤ d ∧ d ≤ 1000) (hn : n ≤ 60) (h2 : 2 ≤ n) : turnErr (lineL s d n) = 0 := by
  unfold turnErr
  rw [if_pos (line_pos hs hd hn), if_neg (by rw [lineL_length]; omega)]
theorem line_vel {s d : Int} {n : Nat} (hs : -10000 ≤ s ∧ s ≤ 10000) (hd : -1000 ≤ d ∧ d ≤ 1000) (hn : n ≤ 60) (h2 : 2 ≤ n) : (velX (lineL s d n)).length = n - 1 ∧ ∀ i, i < n - 1 → (velX (lineL s d n)).getD i 0 = d := by
  unfold velX
  rw [if_pos (line_turn hs hd hn h2)]
  refine ⟨by rw [velL_length, lineL_length], fun i hi => ?_⟩
  rw [velL_at _ _ (by rw [lineL_length]; exact hi), lineL_at _ _ _ _ (by omega), lineL_at _ _ _ _ (by omega)]
  rw [show ((i + 1 : Nat) : Int) = (i : Int) + 1 by omega, Int.add_mul, Int.one_mul]
  omega
theorem line_jmp {s d : Int} {n : Nat} (hs : -10000 ≤ s ∧ s ≤ 10000) (hd : -1000 ≤ d ∧ d ≤ 1000) (hn : n ≤ 60) : jmpE (lineL s d n) (if d < 0 then -d else d) = 0 ∧ jmpL (lineL s d n) (if d < 0 then -d else d) = [] := by
  have h1 : jmpE (lineL s d n) (if d < 0 then -d else d) = 0 := by
    unfold jmpE
    rw [if_pos (line_pos hs hd hn)]
    unfold limE
    rw [if_pos (by rw [fromB_one]; split <;> omega)]
  refine ⟨h1, ?_⟩
  unfold jmpL
  rw [if_pos h1, lineL_length]
  have h : ∀ k, k ≤ n → jmpTo (lineL s d n) (if d < 0 then -d else d) k = [] := by
    intro k
    induction k with
    | zero => intro _; rfl
    | succ k ih =>
      intro hk
      unfold jmpTo
      rw [if_neg]
      · exact ih (by omega)
      · rintro ⟨h0, hj⟩
        unfold jmpB at hj
        rw [lineL_at _ _ _ _ (by omega), lineL_at _ _ _ _ (by omega)] at hj
        rw [show ((k - 1 : Nat) : Int) = (k : Int) - 1 by omega, Int.sub_mul, Int.one_mul] at hj
        rw [show s + (k : Int) * d - (s + ((k : Int) * d - d)) = d by omega] at hj
        have : fromB (-(if d < 0 then -d else d)) (if d < 0 then -d else d) [d] = true := by rw [fromB_one]; split <;> omega
        rw [this] at hj
        cases hj
  exact h n (Nat.le_refl n)

end Go.Proofs.YtnmfeonagigkeaaDoor
