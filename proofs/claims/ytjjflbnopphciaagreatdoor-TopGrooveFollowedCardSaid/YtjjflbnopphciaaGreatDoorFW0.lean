import Derived.Test.YtjjflbnopphciaaGreatDoorXI
import Derived.Test.YtjjflbnopphciaaGreatDoorXG
import Derived.Test.YtjjflbnopphciaaGreatDoorXE
import Derived.Test.YtjjflbnopphciaaGreatDoorXJ
import Derived.Test.YtjjflbnopphciaaGreatDoorXK
import Derived.Test.YtjjflbnopphciaaGreatDoorXF
namespace Go.Proofs.YtjjflbnopphciaaGreatDoor
open Go.RowKit

/-- The pixel of step k of the ring r, from the center. -/
def PT (r k : Nat) : Int × Int := (refRing r).getD (r * k) (0, 0)
theorem PT_ring : ∀ k, k < 8 → ∀ i, i < 6 → 8 * (1 + i) * k / 8 < (ringTo 6 6 (1 + i) 5).length ∧ (ringTo 6 6 (1 + i) 5).getD (8 * (1 + i) * k / 8) (0, 0) = (6 + (PT (1 + i) k).1, 6 + (PT (1 + i) k).2) := by decide +kernel
theorem PT_bd : ∀ k, k < 8 → ∀ i, i < 6 → (1 + i) * k < (refRing (1 + i)).length ∧ (-6 ≤ (PT (1 + i) k).1 ∧ (PT (1 + i) k).1 ≤ 6) ∧ -6 ≤ (PT (1 + i) k).2 ∧ (PT (1 + i) k).2 ≤ 6 := by decide +kernel
theorem PT_injB : ((List.range 8).all fun k => (List.range 6).all fun i => (List.range 8).all fun k' => (List.range 6).all fun i' => !(PT (1 + i) k == PT (1 + i') k') || (i == i' && k == k')) = true := by decide +kernel
theorem PT_inj (k : Nat) (hk : k < 8) (i : Nat) (hi : i < 6) (k' : Nat) (hk' : k' < 8) (i' : Nat) (hi' : i' < 6) (h : PT (1 + i) k = PT (1 + i') k') : i = i' ∧ k = k' := by
  have h1 := List.all_eq_true.1 (List.all_eq_true.1 (List.all_eq_true.1 (List.all_eq_true.1 PT_injB k (List.mem_range.2 hk)) i (List.mem_range.2 hi)) k' (List.mem_range.2 hk')) i' (List.mem_range.2 hi')
  rw [h] at h1
  simpa using h1

/-- Eight radii that are near. -/
structure Radii8 (R : Nat → Int) : Prop where
  bd : ∀ k, k < 8 → 1 ≤ R k ∧ R k ≤ 6
  near : ∀ k, k + 1 < 8 → -1 ≤ R (k + 1) - R k ∧ R (k + 1) - R k ≤ 1
theorem Radii8.nat {R : Nat → Int} (h : Radii8 R) {k : Nat} (hk : k < 8) : ∃ i, i < 6 ∧ R k = ((1 + i : Nat) : Int) ∧ (R k).toNat = 1 + i := by
  have := h.bd k hk
  exact ⟨(R k).toNat - 1, by omega, by omega, by omega⟩

def hitW (R : Nat → Int) (c : Int) (k y x : Nat) : Bool := (List.range k).any fun j => decide ((j : Int) ≠ c) && decide (PT (R j).toNat j = ((x : Int) - 6, (y : Int) - 6))
theorem hitW_iff {R : Nat → Int} {c : Int} {k y x : Nat} : hitW R c k y x = true ↔ ∃ j, j < k ∧ (j : Int) ≠ c ∧ PT (R j).toNat j = ((x : Int) - 6, (y : Int) - 6) := by
  unfold hitW
  rw [List.any_eq_true]
  constructor
  · rintro ⟨j, hj, h⟩
    rw [Bool.and_eq_true, decide_eq_true_eq, decide_eq_true_eq] at h
    exact ⟨j, List.mem_range.1 hj, h.1, h.2⟩
  · rintro ⟨j, hj, h1, h2⟩
    exact ⟨j, List.mem_range.2 hj, by rw [Bool.and_eq_true, decide_eq_true_eq, decide_eq_true_eq]; exact ⟨h1, h2⟩⟩
def rowW (R : Nat → Int) (L c : Int) (k y : Nat) : List Int := (List.range 13).map fun x => if hitW R c k y x = true then 0 else L
/-- The image after k steps are drawn. -/
def imgW (R : Nat → Int) (L c : Int) (k : Nat) : List (List Int) := (List.range 13).map (rowW R L c k)
theorem rowW_length (R : Nat → Int) (L c : Int) (k y : Nat) : (rowW R L c k y).length = 13 := by simp [rowW]
theorem imgW_length (R : Nat → Int) (L c : Int) (k : Nat) : (imgW R L c k).length = 13 := by simp [imgW]
theorem imgW_at (R : Nat → Int) (L c : Int) (k y : Nat) (h : y < 13) : (imgW R L c k).getD y [] = rowW R L c k y := by
  simp [imgW, List.getD_eq_getElem?_getD, h]
theorem rowW_at (R : Nat → Int) (L c : Int) (k y x : Nat) (h : x < 13) : (rowW R L c k y).getD x 0 = if hitW R c k y x = true then 0 else L := by
  simp [rowW, List.getD_eq_getElem?_getD, h]
theorem rowW_zero (R : Nat → Int) (L c : Int) (y : Nat) : rowW R L c 0 y = List.replicate 13 L := by
  refine List.eq_replicate_iff.2 ⟨rowW_length _ _ _ _ _, fun b hb => ?_⟩
  obtain ⟨i, _, rfl⟩ := List.mem_map.1 hb
  rfl
theorem hitW_skip {R : Nat → Int} {c : Int} {k : Nat} (h : (k : Int) = c) (y x : Nat) : hitW R c (k + 1) y x = hitW R c k y x := by
  rw [Bool.eq_iff_iff, hitW_iff, hitW_iff]
  constructor
  · rintro ⟨j, hj, h1, h2⟩
    exact ⟨j, by have : j ≠ k := fun e => h1 (by rw [e]; exact h); omega, h1, h2⟩
  · rintro ⟨j, hj, h1, h2⟩
    exact ⟨j, by omega, h1, h2⟩
theorem imgW_skip {R : Nat → Int} {L c : Int} {k : Nat} (h : (k : Int) = c) : imgW R L c (k + 1) = imgW R L c k := by
  unfold imgW
  apply List.map_congr_left
  intro y _
  unfold rowW
  apply List.map_congr_left
  intro x _
  rw [hitW_skip h]
theorem hitW_step {R : Nat → Int} {c : Int} {k : Nat} (h : (k : Int) ≠ c) (y x : Nat) : hitW R c (k + 1) y x = (hitW R c k y x || decide (PT (R k).toNat k = ((x : Int) - 6, (y : Int) - 6))) := by
  rw [Bool.eq_iff_iff, Bool.or_eq_true, hitW_iff, hitW_iff, decide_eq_true_eq]
  constructor
  · rintro ⟨j, hj, h1, h2⟩
    by_cases e : j = k
    · subst e; exact .inr h2
    · exact .inl ⟨j, by omega, h1, h2⟩
  · rintro (⟨j, hj, h1, h2⟩ | h2)
    · exact ⟨j, by omega, h1, h2⟩
    · exact ⟨k, by omega, h, h2⟩
theorem rowW_other {R : Nat → Int} {L c : Int} {k y : Nat} (h : (k : Int) ≠ c) (hy : (PT (R k).toNat k).2 ≠ (y : Int) - 6) : rowW R L c (k + 1) y = rowW R L c k y := by
  unfold rowW
  apply List.map_congr_left
  intro x _
  rw [hitW_step h, decide_eq_false (fun e => hy (by rw [e])), Bool.or_false]
theorem rowW_set {R : Nat → Int} {L c : Int} {k y X : Nat} (h : (k : Int) ≠ c) (hp : PT (R k).toNat k = ((X : Int) - 6, (y : Int) - 6)) : rowW R L c (k + 1) y = (rowW R L c k y).set X 0 := by
  apply List.ext_getElem
  · simp [rowW]
  · intro i h1 h2
    rw [List.getElem_set]
    simp only [rowW, List.getElem_map, List.getElem_range]
    rw [hitW_step h, hp]
    by_cases e : X = i
    · subst e; simp
    · rw [if_neg e, decide_eq_false (fun e2 => e (by have := (Prod.mk.inj e2).1; omega)), Bool.or_false]
theorem imgW_set {R : Nat → Int} {L c : Int} {k X Y : Nat} (h : (k : Int) ≠ c) (hY : Y < 13) (hp : PT (R k).toNat k = ((X : Int) - 6, (Y : Int) - 6)) : imgW R L c (k + 1) = (imgW R L c k).set Y (((imgW R L c k).getD Y []).set X 0) := by
  rw [imgW_at R L c k Y hY]
  apply List.ext_getElem
  · simp [imgW]
  · intro i h1 h2
    rw [List.getElem_set]
    simp only [imgW, List.getElem_map, List.getElem_range]
    by_cases e : Y = i
    · subst e; rw [if_pos rfl]; exact rowW_set h hp
    · rw [if_neg e]
      exact rowW_other h (by rw [hp]; exact fun e2 => e (by omega))
theorem imgW_row {R : Nat → Int} {L c : Int} {k : Nat} (hL : 0 ≤ L ∧ L ≤ 255) : ∀ r ∈ imgW R L c k, r.length = 13 ∧ ∀ x ∈ r, 0 ≤ x ∧ x ≤ 255 := by
  intro r hr
  obtain ⟨y, _, rfl⟩ := List.mem_map.1 hr
  refine ⟨rowW_length _ _ _ _ _, fun x hx => ?_⟩
  obtain ⟨i, _, rfl⟩ := List.mem_map.1 hx
  split
  · omega
  · exact hL
theorem imgW_grid {R : Nat → Int} {L c : Int} {k : Nat} (hL : 0 ≤ L ∧ L ≤ 255) : gridE 24 24 (imgW R L c k) = 0 := by
  have hr := rowsE_of (cols := 13) (lo := 0) (hi := 255) (imgW_row (R := R) (c := c) (k := k) hL)
  have e : imgW R L c k = rowW R L c k 0 :: ((List.range 12).map fun y => rowW R L c k (y + 1)) := by
    show (List.range (12 + 1)).map _ = _
    rw [List.range_succ_eq_map, List.map_cons, List.map_map]; rfl
  rw [e] at hr ⊢
  show (if (rowW R L c k 0).length = 0 then (10 : Int) else if 24 < ((List.range 12).map fun y => rowW R L c k (y + 1)).length + 1 ∨ 24 < (rowW R L c k 0).length then 8 else rowsE (rowW R L c k 0).length 0 255 (rowW R L c k 0 :: ((List.range 12).map fun y => rowW R L c k (y + 1)))) = 0
  rw [rowW_length, if_neg (by omega), if_neg (by simp), hr]

/-- The strip that the drawn image gives. -/
def stripW (R : Nat → Int) (L c : Int) : List (List Int) := (List.range 8).map fun (k : Nat) => (List.range 6).map fun (i : Nat) => if (k : Int) ≠ c ∧ R k = ((1 + i : Nat) : Int) then 0 else L
theorem strip_cell {R : Nat → Int} (hR : Radii8 R) {L c : Int} {k i : Nat} (hk : k < 8) (hi : i < 6) : cellU (imgW R L c 8) 6 6 8 k (1 + i) = if (k : Int) ≠ c ∧ R k = ((1 + i : Nat) : Int) then 0 else L := by
  obtain ⟨h1, h2⟩ := PT_ring k hk i hi
  obtain ⟨_, ⟨b1, b2⟩, b3, b4⟩ := PT_bd k hk i hi
  unfold cellU
  have e : ((ringTo 6 6 (1 + i) 5).map (pix (imgW R L c 8))).getD (8 * (1 + i) * k / 8) 0 = pix (imgW R L c 8) ((ringTo 6 6 (1 + i) 5).getD (8 * (1 + i) * k / 8) (0, 0)) := by
    rw [List.getD_eq_getElem?_getD, List.getD_eq_getElem?_getD, List.getElem?_map, List.getElem?_eq_getElem h1]
    rfl
  rw [e, h2]
  unfold pix
  rw [imgW_at _ _ _ _ _ (by omega), rowW_at _ _ _ _ _ _ (by omega)]
  have hh : hitW R c 8 (6 + (PT (1 + i) k).2).toNat (6 + (PT (1 + i) k).1).toNat = true ↔ (k : Int) ≠ c ∧ R k = ((1 + i : Nat) : Int) := by
    rw [hitW_iff]
    have e1 : (((6 + (PT (1 + i) k).1).toNat : Nat) : Int) - 6 = (PT (1 + i) k).1 := by omega
    have e2 : (((6 + (PT (1 + i) k).2).toNat : Nat) : Int) - 6 = (PT (1 + i) k).2 := by omega
    constructor
    · rintro ⟨j, hj, hc, hp⟩
      rw [e1, e2] at hp
      obtain ⟨i', hi', r1, r2⟩ := hR.nat hj
      rw [r2] at hp
      obtain ⟨a1, a2⟩ := PT_inj j hj i' hi' k hk i hi hp
      subst a1; subst a2
      exact ⟨hc, r1⟩
    · rintro ⟨hc, hr⟩
      refine ⟨k, hk, hc, ?_⟩
      rw [e1, e2, show (R k).toNat = 1 + i by omega]
  by_cases hx : (k : Int) ≠ c ∧ R k = ((1 + i : Nat) : Int)
  · show (if hitW R c 8 (6 + (PT (1 + i) k).2).toNat (6 + (PT (1 + i) k).1).toNat = true then (0 : Int) else L) = _
    rw [if_pos (hh.2 hx), if_pos hx]
  · show (if hitW R c 8 (6 + (PT (1 + i) k).2).toNat (6 + (PT (1 + i) k).1).toNat = true then (0 : Int) else L) = _
    rw [if_neg (fun h => hx (hh.1 h)), if_neg hx]
theorem unE_W {R : Nat → Int} {L c : Int} (hL : 0 ≤ L ∧ L ≤ 255) : unE (imgW R L c 8) 6 6 1 6 8 = 0 := by
  unfold unE vwE
  rw [if_pos (imgW_grid hL), if_pos (by decide), if_pos (by decide), if_pos (by decide)]
  have hb : hasB (imgW R L c 8) 6 6 6 = true := by
    unfold hasB
    rw [imgW_at _ _ _ _ _ (by omega), rowW_length, imgW_length]
    decide
  rw [if_pos hb]
theorem unX_W {R : Nat → Int} (hR : Radii8 R) {L c : Int} (hL : 0 ≤ L ∧ L ≤ 255) : unX (imgW R L c 8) 6 6 1 6 8 = stripW R L c := by
  unfold unX
  rw [if_pos (unE_W hL)]
  show unL (imgW R L c 8) 6 6 8 1 6 = stripW R L c
  unfold unL stripW
  apply List.map_congr_left
  intro k hk
  unfold rowU
  apply List.map_congr_left
  intro i hi
  exact strip_cell hR (List.mem_range.1 hk) (List.mem_range.1 hi)

theorem strip_at (R : Nat → Int) (L c : Int) (k : Nat) (h : k < 8) : (stripW R L c).getD k [] = (List.range 6).map fun (i : Nat) => if (k : Int) ≠ c ∧ R k = ((1 + i : Nat) : Int) then 0 else L := by
  simp [stripW, List.getD_eq_getElem?_getD, h]
theorem strip_len (R : Nat → Int) (L c : Int) : (stripW R L c).length = 8 := by simp [stripW]
theorem strip_row {R : Nat → Int} {L c : Int} (hL : 0 ≤ L ∧ L ≤ 255) : ∀ r ∈ stripW R L c, r.length = 6 ∧ ∀ x ∈ r, 0 ≤ x ∧ x ≤ 255 := by
  intro r hr
  obtain ⟨y, _, rfl⟩ := List.mem_map.1 hr
  refine ⟨by simp, fun x hx => ?_⟩
  obtain ⟨i, _, rfl⟩ := List.mem_map.1 hx
  split
  · omega
  · exact hL
theorem strip_tk {R : Nat → Int} {L c b : Int} (hL : 0 ≤ L ∧ L ≤ 255) (hb : 0 ≤ b ∧ b ≤ 1000) : TkOk (stripW R L c) b 8 6 :=
  ⟨strip_len _ _ _, by omega, by omega, by omega, by omega, strip_row hL, hb⟩
theorem strip_cols (R : Nat → Int) (L c : Int) : colsOf (stripW R L c) = 6 := by
  unfold colsOf
  rw [strip_at _ _ _ _ (by omega)]
  simp
theorem strip_task {R : Nat → Int} {L c b : Int} (hL : 0 ≤ L ∧ L ≤ 255) (hb : 0 ≤ b ∧ b ≤ 1000) : taskE (stripW R L c) b = 0 := by
  have hr := rowsE_of (cols := 6) (lo := 0) (hi := 255) (strip_row (R := R) (c := c) hL)
  have hg : gridE 40 12 (stripW R L c) = 0 := by
    have e : stripW R L c = ((List.range 6).map fun (i : Nat) => if ((0 : Nat) : Int) ≠ c ∧ R 0 = ((1 + i : Nat) : Int) then 0 else L) :: ((List.range 7).map fun (k : Nat) => (List.range 6).map fun (i : Nat) => if ((k + 1 : Nat) : Int) ≠ c ∧ R (k + 1) = ((1 + i : Nat) : Int) then 0 else L) := by
      show (List.range (7 + 1)).map _ = _
      rw [List.range_succ_eq_map, List.map_cons, List.map_map]; rfl
    rw [e] at hr ⊢
    generalize hA : ((List.range 6).map fun (i : Nat) => if ((0 : Nat) : Int) ≠ c ∧ R 0 = ((1 + i : Nat) : Int) then (0 : Int) else L) = A at hr ⊢
    generalize hB : ((List.range 7).map fun (k : Nat) => (List.range 6).map fun (i : Nat) => if ((k + 1 : Nat) : Int) ≠ c ∧ R (k + 1) = ((1 + i : Nat) : Int) then (0 : Int) else L) = B at hr ⊢
    have lA : A.length = 6 := by rw [← hA]; simp
    have lB : B.length = 7 := by rw [← hB]; simp
    show (if A.length = 0 then (10 : Int) else if 40 < B.length + 1 ∨ 12 < A.length then 8 else rowsE A.length 0 255 (A :: B)) = 0
    rw [lA, lB, if_neg (by omega), if_neg (by omega), hr]
  unfold taskE
  rw [if_pos hg, if_pos (by rw [fromB_one]; exact hb)]

theorem strip_val {R : Nat → Int} {L c : Int} {q : List Int} {k : Nat} (hk : k < 8) (hq : 0 ≤ q.getD k 0 ∧ q.getD k 0 ≤ 5) : valAt (stripW R L c) q k = if (k : Int) ≠ c ∧ R k - 1 = q.getD k 0 then 0 else L := by
  unfold valAt
  rw [strip_at _ _ _ _ hk, List.getD_eq_getElem?_getD, List.getElem?_map, List.getElem?_range (by omega)]
  show (if _ then _ else _) = _
  by_cases h : (k : Int) ≠ c ∧ R k - 1 = q.getD k 0
  · rw [if_pos h, if_pos ⟨h.1, by omega⟩]
  · rw [if_neg h, if_neg (fun e => h ⟨e.1, by omega⟩)]

/-- The light that no path through k steps avoids. -/
def litW (L c : Int) (k : Nat) : Int := if 0 ≤ c ∧ c < (k : Int) then L else 0
theorem litW_same {L c : Int} {k : Nat} (h : (k : Int) ≠ c) : litW L c (k + 1) = litW L c k := by
  unfold litW
  by_cases e : 0 ≤ c ∧ c < (k : Int)
  · rw [if_pos e, if_pos (by omega)]
  · rw [if_neg e, if_neg (by omega)]
theorem litW_hit {L c : Int} {k : Nat} (h : (k : Int) = c) : litW L c (k + 1) = litW L c k + L := by
  unfold litW
  rw [if_pos (by omega), if_neg (by omega)]; omega
def drawnW (R : Nat → Int) : List Int := (List.range 8).map fun k => R k - 1
theorem drawn_at (R : Nat → Int) (k : Nat) (h : k < 8) : (drawnW R).getD k 0 = R k - 1 := by simp [drawnW, List.getD_eq_getElem?_getD, h]
theorem drawn_path {R : Nat → Int} (hR : Radii8 R) : pathE 8 6 (drawnW R) = 0 := by
  refine path_of (by simp [drawnW]) (fun j hj => ?_) (fun j hj => ?_)
  · rw [drawn_at R j hj]; have := hR.bd j hj; omega
  · rw [drawn_at R j (by omega), drawn_at R (j + 1) hj]; have := hR.near j hj; omega
theorem bendAt_bd {b : Int} (hb : 0 ≤ b) (q : List Int) (k : Nat) : 0 ≤ bendAt b q k ∧ bendAt b q k ≤ if k = 0 then 0 else b := by
  unfold bendAt
  split
  · omega
  · split <;> omega
theorem drawn_cost {R : Nat → Int} (hR : Radii8 R) {L c b : Int} (hb : 0 ≤ b) : ∀ k, k ≤ 8 → costF (stripW R L c) b (drawnW R) k ≤ litW L c k + b * ((k - 1 : Nat) : Int)
  | 0, _ => by simp only [costF, litW]; rw [if_neg (by omega)]; simp
  | k + 1, hk => by
    have ih := drawn_cost hR (L := L) (c := c) hb k (by omega)
    have hbd := hR.bd k (by omega)
    have hv := strip_val (R := R) (L := L) (c := c) (q := drawnW R) (k := k) (by omega) (by rw [drawn_at R k (by omega)]; omega)
    have hbe := bendAt_bd hb (drawnW R) k
    rw [drawn_at R k (by omega)] at hv
    rw [costF, hv]
    have hbb : b * ((k - 1 : Nat) : Int) + (if k = 0 then 0 else b) = b * ((k + 1 - 1 : Nat) : Int) := by
      by_cases e : k = 0
      · subst e; simp
      · rw [if_neg e, Nat.add_sub_cancel]
        obtain ⟨j, rfl⟩ : ∃ j, k = j + 1 := ⟨k - 1, by omega⟩
        rw [Nat.add_sub_cancel, show ((j + 1 : Nat) : Int) = (j : Int) + 1 by omega, Int.mul_add, Int.mul_one]
    rw [← hbb]
    by_cases e : (k : Int) = c
    · rw [if_neg (by omega), litW_hit e]; omega
    · rw [if_pos ⟨e, rfl⟩, litW_same e]; omega
theorem miss_cost {R : Nat → Int} {L c b : Int} (hL : 0 ≤ L) (hb : 0 ≤ b) {q : List Int} (hq : ∀ k, k < 8 → 0 ≤ q.getD k 0 ∧ q.getD k 0 ≤ 5) : ∀ k, k ≤ 8 → litW L c k ≤ costF (stripW R L c) b q k ∧ ((∃ j, j < k ∧ (j : Int) ≠ c ∧ q.getD j 0 ≠ R j - 1) → litW L c k + L ≤ costF (stripW R L c) b q k)
  | 0, _ => by
    refine ⟨by simp only [costF, litW]; rw [if_neg (by omega)]; omega, ?_⟩
    rintro ⟨j, hj, _⟩; omega
  | k + 1, hk => by
    obtain ⟨i1, i2⟩ := miss_cost hL hb (R := R) (c := c) hq k (by omega)
    have hv := strip_val (R := R) (L := L) (c := c) (q := q) (k := k) (by omega) (hq k (by omega))
    have hbe := bendAt_bd hb q k
    have hlit : litW L c (k + 1) ≤ litW L c k + (if (k : Int) ≠ c ∧ R k - 1 = q.getD k 0 then 0 else L) := by
      by_cases e : (k : Int) = c
      · rw [litW_hit e, if_neg (by omega)]; omega
      · rw [litW_same e]; split <;> omega
    rw [costF, hv]
    refine ⟨by omega, ?_⟩
    rintro ⟨j, hj, hc, hne⟩
    by_cases e : j = k
    · subst e
      rw [if_neg (by rintro ⟨_, e2⟩; exact hne e2.symm), litW_same hc]
      omega
    · have := i2 ⟨j, by omega, hc, hne⟩
      omega
/-- The best path follows the groove. -/
theorem best_follows {R : Nat → Int} (hR : Radii8 R) {L c b : Int} (hL : 1 ≤ L ∧ L ≤ 255) (hb : 0 ≤ b ∧ b ≤ 1000) (h7 : 7 * b < L) {l : List Int} {n : Int} (hbl : bestL (stripW R L c) b = (l, n)) :
    pathE 8 6 l = 0 ∧ (∀ k : Nat, k < 8 → (k : Int) ≠ c → l.getD k 0 = R k - 1) ∧ (∀ k, k < 8 → 0 ≤ l.getD k 0 ∧ l.getD k 0 ≤ 5) ∧ l.length = 8 ∧ bestTo (fun _ _ => true) b 6 (stripW R L c) 6 = (l, n) ∧ 0 ≤ n ∧ n < 50200 := by
  have ht := strip_task (R := R) (c := c) (L := L) (b := b) (by omega) hb
  unfold bestL at hbl
  rw [if_pos ht, strip_cols] at hbl
  obtain ⟨h1, h2, h3, h4, h5, _⟩ := best_spec (strip_tk (by omega) hb) hbl
  have hlen : l.length = 8 := by
    unfold pathE at h1
    by_cases e : l.length = 8
    · exact e
    · rw [if_neg e] at h1; omega
  have hin : ∀ k, k < 8 → 0 ≤ l.getD k 0 ∧ l.getD k 0 ≤ 5 := fun k hk => by
    have := nth_nonneg h1 k hk
    omega
  have hg := h5 _ (drawn_path hR)
  have hd := drawn_cost hR (L := L) (c := c) hb.1 8 (Nat.le_refl _)
  have hm := miss_cost (R := R) (L := L) (c := c) (by omega) hb.1 hin 8 (Nat.le_refl _)
  refine ⟨h1, fun k hk hc => ?_, hin, hlen, hbl, h3, h4⟩
  apply Classical.byContradiction
  intro hne
  have := hm.2 ⟨k, hk, hc, hne⟩
  rw [h2] at this
  have e7 : b * ((8 - 1 : Nat) : Int) = 7 * b := by rw [Int.mul_comm]; rfl
  omega

/-- The crack that is reported. -/
def crkW (c : Int) : List (Int × Int) := if 0 ≤ c then [(c, c)] else []
theorem crack_found {R : Nat → Int} {L c : Int} (hL : 1 ≤ L) {l : List Int} (hin : ∀ k, k < 8 → 0 ≤ l.getD k 0 ∧ l.getD k 0 ≤ 5) (hf : ∀ k : Nat, k < 8 → (k : Int) ≠ c → l.getD k 0 = R k - 1) : ∀ k, k ≤ 8 → crF (stripW R L c) l 0 k = if 0 ≤ c ∧ c < (k : Int) then [(c, c)] else []
  | 0, _ => by rw [if_neg (by omega)]; rfl
  | k + 1, hk => by
    have ih := crack_found hL hin hf k (by omega)
    have hv := strip_val (R := R) (L := L) (c := c) (q := l) (k := k) (by omega) (hin k (by omega))
    by_cases e : (k : Int) = c
    · rw [if_neg (by omega)] at hv
      rw [if_neg (by omega)] at ih
      rw [crF_first (by rw [hv]; omega) (by rw [ih]; rfl), ih, if_pos (by omega), List.nil_append, e]
    · rw [if_pos ⟨e, (hf k (by omega) e).symm⟩] at hv
      rw [crF_skip (by rw [hv]; omega), ih]
      by_cases e2 : 0 ≤ c ∧ c < (k : Int)
      · rw [if_pos e2, if_pos (by omega)]
      · rw [if_neg e2, if_neg (by omega)]
theorem crk_W {R : Nat → Int} {L c b : Int} (hL : 1 ≤ L ∧ L ≤ 255) (hb : 0 ≤ b ∧ b ≤ 1000) (hc : -1 ≤ c ∧ c ≤ 6) {l : List Int} (hp : pathE 8 6 l = 0) (hin : ∀ k, k < 8 → 0 ≤ l.getD k 0 ∧ l.getD k 0 ≤ 5) (hf : ∀ k : Nat, k < 8 → (k : Int) ≠ c → l.getD k 0 = R k - 1) :
    crkE (stripW R L c) b 8 l 0 = 0 ∧ crkL (stripW R L c) b 8 l 0 = crkW c := by
  have h0 : crkE (stripW R L c) b 8 l 0 = 0 := by
    unfold crkE cstE
    rw [if_pos (strip_task (by omega) hb), strip_cols, hp]
    rfl
  refine ⟨h0, ?_⟩
  unfold crkL crkW
  rw [if_pos h0, crack_found hL.1 hin hf 8 (Nat.le_refl _)]
  by_cases e : 0 ≤ c
  · rw [if_pos e, if_pos (by omega)]
  · rw [if_neg e, if_neg (by omega)]

theorem getD_small {l : List Int} (hlen : l.length = 8) {lo hi : Int} (h : ∀ k, k < 8 → lo ≤ l.getD k 0 ∧ l.getD k 0 ≤ hi) : ∀ x ∈ l, lo ≤ x ∧ x ≤ hi := by
  intro x hx
  obtain ⟨j, hj, rfl⟩ := mem_getD l 0 hx
  exact h j (by omega)
theorem pos_of {l : List Int} (hlen : l.length = 8) (h : Small l) : posE l = 0 := by
  unfold posE
  rw [if_neg (by omega), if_pos]
  unfold fromB
  rw [List.all_eq_true]
  intro x hx
  simpa using h x hx
theorem bridge_W {R : Nat → Int} {c : Int} (hc : -1 ≤ c ∧ c ≤ 6) {l : List Int} (hlen : l.length = 8) (hin : ∀ k, k < 8 → 0 ≤ l.getD k 0 ∧ l.getD k 0 ≤ 5) (hf : ∀ k : Nat, k < 8 → (k : Int) ≠ c → l.getD k 0 = R k - 1) :
    brE l (crkW c) = 0 ∧ (brL l (crkW c)).length = 8 ∧ posE (brL l (crkW c)) = 0 ∧ (∀ k : Nat, k < 8 → (k : Int) ≠ c → (brL l (crkW c)).getD k 0 = R k - 1) := by
  have hsm : Small l := fun x hx => by have := getD_small hlen hin x hx; omega
  have hp := pos_of hlen hsm
  have he : brE l (crkW c) = 0 := by
    unfold brE
    rw [if_pos hp, hlen]
    unfold crkW
    by_cases e : 0 ≤ c
    · rw [if_pos e]
      have hg : gapE ((8 : Nat) : Int) none (c, c) = 0 := by
        unfold gapE
        rw [if_pos (by refine ⟨⟨?_, ?_⟩, ?_, ?_⟩ <;> (show _ ≤ _; omega)), if_neg (by show ¬ c < c; omega)]
      have hgf : gapsF ((8 : Nat) : Int) none [(c, c)] = 0 := by
        unfold gapsF
        rw [if_pos hg]; rfl
      unfold gapsE
      rw [if_pos hgf, if_neg]
      rw [List.mem_singleton]
      intro e2
      have := Prod.mk.inj e2
      omega
    · rw [if_neg e]
      rfl
  have hb : brL l (crkW c) = bridgedL l (crkW c) := by unfold brL; rw [if_pos he]
  rw [hb]
  have hbl : (bridgedL l (crkW c)).length = 8 := by rw [bridgedL_length, hlen]
  refine ⟨he, hbl, pos_of hbl (bridgedL_small hsm _), fun k hk hne => ?_⟩
  rw [← hf k hk hne]
  unfold crkW
  by_cases e : 0 ≤ c
  · rw [if_pos e]
    show (bridgeL l c.toNat c.toNat).getD k 0 = _
    unfold bridgeL bridgeTo
    rw [hlen, List.getD_eq_getElem?_getD, List.getElem?_map, List.getElem?_range hk]
    show (if _ then _ else _) = _
    rw [if_neg (by omega)]
  · rw [if_neg e]; rfl
theorem back_W {b : List Int} (hlen : b.length = 8) (hp : posE b = 0) : turnErr b = 0 ∧ (velX b).length = 7 ∧ psE (b.getD 0 0) (velX b) = 0 ∧ psL (b.getD 0 0) (velX b) = b := by
  have ht : turnErr b = 0 := by unfold turnErr; rw [if_pos hp, if_neg (by omega)]
  have hv : velX b = velL b := by unfold velX; rw [if_pos ht]
  obtain ⟨h1, h2⟩ := psE_vel hp (by omega)
  rw [hv]
  exact ⟨ht, by rw [velL_length, hlen], h1, h2⟩
theorem prices_W {R : Nat → Int} {L c b : Int} (hL : 1 ≤ L ∧ L ≤ 255) (hb : 0 ≤ b ∧ b ≤ 1000) {l : List Int} {n : Int} (hbl : bestTo (fun _ _ => true) b 6 (stripW R L c) 6 = (l, n)) :
    cpE (stripW R L c) b 8 (prTo (stripW R L c) b 6 8) = 0 ∧ boundF (prTo (stripW R L c) b 6 8) = n := by
  have htk := strip_tk (R := R) (c := c) (L := L) (b := b) (by omega) hb
  refine ⟨?_, prTo_bound htk hbl⟩
  unfold cpE
  rw [if_pos (strip_task (by omega) hb), strip_cols]
  exact prTo_ok htk
end Go.Proofs.YtjjflbnopphciaaGreatDoor
