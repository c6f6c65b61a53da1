import Derived.Test.YtpkjkegcdddimaaDoorD0
import Derived.Test.YtpkjkegcdddimaaDoorJ4
import Derived.Test.YtpkjkegcdddimaaDoorR6
namespace Go.Proofs.YtpkjkegcdddimaaDoor

theorem start_shift (cx cy : Int) (r : Nat) : ∀ i, startOf cx cy r i = (cx + (startOf 0 0 r i).1, cy + (startOf 0 0 r i).2)
  | 0 => by simp [startOf]
  | i + 1 => by
    have ih := start_shift cx cy r i
    unfold startOf
    rw [ih]
    ext <;> dsimp only <;> omega
theorem side_shift (cx cy : Int) (r i k : Nat) : sideTo cx cy r i k = (sideTo 0 0 r i k).map fun p => (cx + p.1, cy + p.2) := by
  unfold sideTo
  rw [List.map_map]
  refine congrArg (fun f => (List.range k).map f) (funext fun q => ?_)
  unfold ptOf
  rw [start_shift cx cy r i]
  ext <;> simp [Function.comp] <;> omega
theorem ring_shift (cx cy : Int) (r : Nat) : ∀ i, ringTo cx cy r i = (ringTo 0 0 r i).map fun p => (cx + p.1, cy + p.2)
  | 0 => rfl
  | i + 1 => by
    unfold ringTo
    rw [ring_shift cx cy r i, side_shift, List.map_append]
theorem ring_size (cx cy : Int) (r : Nat) : (ringTo cx cy r 5).length = 8 * r := by
  have h1 : ∀ i, (ringTo cx cy r (i + 1)).length = (ringTo cx cy r i).length + (sd i).2.2 * r := fun i => by simp [ringTo, sideTo]
  have e0 := h1 0; have e1 := h1 1; have e2 := h1 2; have e3 := h1 3; have e4 := h1 4
  have e : (ringTo cx cy r 0).length = 0 := rfl
  simp only [show (sd 0).2.2 = 1 from rfl, show (sd 1).2.2 = 2 from rfl, show (sd 2).2.2 = 2 from rfl, show (sd 3).2.2 = 2 from rfl, show (sd 4).2.2 = 1 from rfl, Nat.reduceAdd] at e0 e1 e2 e3 e4
  omega
/-- A point of a ring around a center, in an image of n rows and m columns. -/
def ptIn (n m : Nat) (cx cy : Int) (p : Int × Int) : Prop := (0 ≤ cy + p.2 ∧ cy + p.2 ≤ (n : Int) - 1) ∧ 0 ≤ cx + p.1 ∧ cx + p.1 ≤ (m : Int) - 1
instance (n m : Nat) (cx cy : Int) (p : Int × Int) : Decidable (ptIn n m cx cy p) := by unfold ptIn; infer_instance
def ptF (n m : Nat) (cx cy : Int) (l : List (Int × Int)) (i : Nat) : Int := if ptIn n m cx cy (l.getD i (0, 0)) then 0 else 23
theorem ring_bd {r : Nat} (h0 : 0 < r) {p : Int × Int} (h : p ∈ refRing r) : -(r : Int) ≤ p.1 ∧ p.1 ≤ r ∧ -(r : Int) ≤ p.2 ∧ p.2 ≤ r := by
  obtain ⟨q, rfl⟩ : ∃ q, r = q + 1 := ⟨r - 1, by omega⟩
  rw [refRing_same] at h
  have := ring_in h
  omega
theorem ring_ends {r : Nat} (h0 : 0 < r) : ((r : Int), (0 : Int)) ∈ refRing r ∧ ((0 : Int), (r : Int)) ∈ refRing r ∧ (-(r : Int), (0 : Int)) ∈ refRing r ∧ ((0 : Int), -(r : Int)) ∈ refRing r := by
  unfold refRing rgA rgB rgC rgD rgE
  simp only [List.mem_append, List.mem_map, List.mem_range]
  refine ⟨?_, ?_, ?_, ?_⟩
  · exact .inl (.inl (.inl (.inl ⟨0, by omega, rfl⟩)))
  · exact .inl (.inl (.inl (.inr ⟨r - 1, by omega, by ext <;> dsimp only <;> omega⟩)))
  · exact .inl (.inl (.inr ⟨r - 1, by omega, by ext <;> dsimp only <;> omega⟩))
  · exact .inl (.inr ⟨r - 1, by omega, by ext <;> dsimp only <;> omega⟩)
/-- The ring lies in the image, or a point of it doesn't. -/
theorem ring_has {n m r : Nat} {cx cy : Int} (h0 : 0 < r) : (∀ p ∈ refRing r, ptIn n m cx cy p) ↔ ((r : Int) ≤ cx ∧ cx ≤ (m : Int) - 1 - r) ∧ (r : Int) ≤ cy ∧ cy ≤ (n : Int) - 1 - r := by
  constructor
  · intro h
    obtain ⟨e1, e2, e3, e4⟩ := ring_ends h0
    have h1 := h _ e1; have h2 := h _ e2; have h3 := h _ e3; have h4 := h _ e4
    unfold ptIn at h1 h2 h3 h4
    dsimp only at h1 h2 h3 h4
    omega
  · intro h p hp
    have := ring_bd h0 hp
    unfold ptIn
    omega
theorem getD_mem2 {l : List (Int × Int)} {j : Nat} (h : j < l.length) : l.getD j (0, 0) ∈ l := by
  rw [List.getD_eq_getElem?_getD, List.getElem?_eq_getElem h]; exact List.getElem_mem _
theorem ptF_ok {n m : Nat} {cx cy : Int} {l : List (Int × Int)} (h : firstF (ptF n m cx cy l) l.length = 0) : ∀ p ∈ l, ptIn n m cx cy p := by
  intro p hp
  obtain ⟨i, hi, rfl⟩ := List.mem_iff_getElem.1 hp
  have := firstF_ok h i hi
  unfold ptF at this
  rw [List.getD_eq_getElem?_getD, List.getElem?_eq_getElem hi, Option.getD_some] at this
  by_cases e : ptIn n m cx cy l[i]
  · exact e
  · rw [if_neg e] at this; omega
theorem ptF_val (n m : Nat) (cx cy : Int) (l : List (Int × Int)) : ∀ k, firstF (ptF n m cx cy l) k = 0 ∨ firstF (ptF n m cx cy l) k = 23
  | 0 => .inl rfl
  | k + 1 => by
    show (if firstF (ptF n m cx cy l) k = 0 then ptF n m cx cy l k else firstF (ptF n m cx cy l) k) = 0 ∨ _ = 23
    have e : firstF (ptF n m cx cy l) (k + 1) = if firstF (ptF n m cx cy l) k = 0 then ptF n m cx cy l k else firstF (ptF n m cx cy l) k := rfl
    rw [e]
    rcases ptF_val n m cx cy l k with h | h
    · rw [if_pos h]; unfold ptF; split
      · exact .inl rfl
      · exact .inr rfl
    · rw [if_neg (by omega)]; exact .inr h
theorem ptF_all {n m : Nat} {cx cy : Int} {l : List (Int × Int)} (h : ∀ p ∈ l, ptIn n m cx cy p) : ∀ k, k ≤ l.length → firstF (ptF n m cx cy l) k = 0
  | 0, _ => rfl
  | k + 1, hk => by
    rw [firstF_step (ptF_all h k (by omega))]
    exact if_pos (h _ (getD_mem2 (by omega)))
/-- What the reference answers of a ring. -/
def rrE (n m : Nat) (cx cy r : Int) : Int := if 1 ≤ r ∧ r ≤ 24 then (if (0 ≤ cx ∧ cx ≤ 24) ∧ 0 ≤ cy ∧ cy ≤ 24 then firstF (ptF n m cx cy (refRing r.toNat)) (refRing r.toNat).length else 23) else 2
def rrL (rows : List (List Int)) (cx cy : Int) (l : List (Int × Int)) : List Int := l.map fun p => pix rows (cx + p.1, cy + p.2)
def rrX (rows : List (List Int)) (n m : Nat) (cx cy r : Int) : List Int := if rrE n m cx cy r = 0 then rrL rows cx cy (refRing r.toNat) else []
theorem rr_same {rows : List (List Int)} {n m : Nat} {cx cy r : Int} (hg : gridE 24 24 rows = 0) (hn : rows.length = n) (hm : (rows.getD 0 []).length = m) : rrE n m cx cy r = ringE rows cx cy r ∧ rrX rows n m cx cy r = ringX rows cx cy r := by
  have hb : n ≤ 24 ∧ m ≤ 24 := by
    obtain ⟨m', g1, g2, g3, g4, g5, g6⟩ := grid_ok hg
    omega
  have hE : rrE n m cx cy r = ringE rows cx cy r := by
    unfold rrE ringE
    rw [if_pos hg]
    by_cases h1 : 1 ≤ r ∧ r ≤ 24
    · rw [if_pos h1, if_pos (fromB_one.2 h1)]
      obtain ⟨q, rfl⟩ : ∃ q : Nat, r = (q : Int) := ⟨r.toNat, by omega⟩
      have hq : 0 < q := by omega
      rw [Int.toNat_natCast]
      unfold hasB
      rw [hm, hn]
      by_cases h2 : ((q : Int) ≤ cx ∧ cx ≤ (m : Int) - 1 - q) ∧ (q : Int) ≤ cy ∧ cy ≤ (n : Int) - 1 - q
      · rw [if_pos (by omega), fromB_one.2 h2.1, fromB_one.2 h2.2, ptF_all ((ring_has hq).2 h2) _ (Nat.le_refl _)]
        rfl
      · have e : ¬ (fromB (q : Int) ((m : Int) - 1 - q) [cx] && fromB (q : Int) ((n : Int) - 1 - q) [cy]) = true := by
          rw [Bool.and_eq_true, fromB_one, fromB_one]; exact h2
        rw [if_neg e]
        by_cases h3 : (0 ≤ cx ∧ cx ≤ 24) ∧ 0 ≤ cy ∧ cy ≤ 24
        · rw [if_pos h3]
          rcases ptF_val n m cx cy (refRing q) (refRing q).length with h | h
          · exact absurd ((ring_has hq).1 (ptF_ok h)) h2
          · exact h
        · rw [if_neg h3]
    · rw [if_neg h1, if_neg (by rw [fromB_one]; exact h1)]
  refine ⟨hE, ?_⟩
  unfold rrX ringX
  rw [hE]
  by_cases h0 : ringE rows cx cy r = 0
  · rw [if_pos h0, if_pos h0]
    have h1 : 1 ≤ r ∧ r ≤ 24 := by
      unfold ringE at h0
      rw [if_pos hg] at h0
      by_cases h1 : fromB 1 24 [r] = true
      · exact fromB_one.1 h1
      · rw [if_neg h1] at h0; omega
    obtain ⟨q, rfl⟩ : ∃ q : Nat, r = ((q + 1 : Nat) : Int) := ⟨r.toNat - 1, by omega⟩
    rw [Int.toNat_natCast, refRing_same, ring_shift cx cy (q + 1) 5, List.map_map]
    rfl
  · rw [if_neg h0, if_neg h0]

end Go.Proofs.YtpkjkegcdddimaaDoor
