import Derived.Test.YtofdjapbofagiaaDoorGD
import Derived.Test.YtofdjapbofagiaaDoorJ4
import Derived.Test.YtofdjapbofagiaaDoorR6
import Derived.Test.YtofdjapbofagiaaDoorGX
import Derived.Test.YtofdjapbofagiaaDoorR5
import Derived.Test.YtofdjapbofagiaaDoorB5
import Derived.Test.YtofdjapbofagiaaDoorJ5
namespace Go.Proofs.YtofdjapbofagiaaDoor

theorem start_shift (cx cy : Int) (r : Nat) : ∀ i, startOf cx cy r i = (cx + (startOf 0 0 r i).1, cy + (startOf 0 0 r i).2)
  | 0 => by simp [startOf]
  | i + 1 => by
    have ih := start_shift cx cy r i
    unfold startOf
    rw [ih]
    ext <;> dsimp only <;> omega
theorem side_shift (cx cy : Int) (r i k : Nat) : sideTo cx cy r i k = (sideTo 0 0 r i k).map fun p => (cx + p.1, cy + p.2) := by
  unfold sideTo
  rw [List.map_map]
  refine congrArg (fun f => (List.range k).map f) (funext fun q => ?_)
  unfold ptOf
  rw [start_shift cx cy r i]
  ext <;> simp [Function.comp] <;> omega
theorem ring_shift (cx cy : Int) (r : Nat) : ∀ i, ringTo cx cy r i = (ringTo 0 0 r i).map fun p => (cx + p.1, cy + p.2)
  | 0 => rfl
  | i + 1 => by
    unfold ringTo
    rw [ring_shift cx cy r i, side_shift, List.map_append]
theorem ring_size (cx cy : Int) (r : Nat) : (ringTo cx cy r 5).length = 8 * r := by
  have h1 : ∀ i, (ringTo cx cy r (i + 1)).length = (ringTo cx cy r i).length + (sd i).2.2 * r := fun i => by simp [ringTo, sideTo]
  have e0 := h1 0; have e1 := h1 1; have e2 := h1 2; have e3 := h1 3; have e4 := h1 4
  have e : (ringTo cx cy r 0).length = 0 := rfl
  simp only [show (sd 0).2.2 = 1 from rfl, show (sd 1).2.2 = 2 from rfl, show (sd 2).2.2 = 2 from rfl, show (sd 3).2.2 = 2 from rfl, show (sd 4).2.2 = 1 from rfl, Nat.reduceAdd] at e0 e1 e2 e3 e4
  omega
/-- A point of a ring around a center, in an image of n rows and m columns. -/
def ptIn (n m : Nat) (cx cy : Int) (p : Int × Int) : Prop := (0 ≤ cy + p.2 ∧ cy + p.2 ≤ (n : Int) - 1) ∧ 0 ≤ cx + p.1 ∧ cx + p.1 ≤ (m : Int) - 1
instance (n m : Nat) (cx cy : Int) (p : Int × Int) : Decidable (ptIn n m cx cy p) := by unfold ptIn; infer_instance
def ptF (n m : Nat) (cx cy : Int) (l : List (Int × Int)) (i : Nat) : Int := if ptIn n m cx cy (l.getD i (0, 0)) then 0 else 23
theorem ring_bd {r : Nat} (h0 : 0 < r) {p : Int × Int} (h : p ∈ refRing r) : -(r : Int) ≤ p.1 ∧ p.1 ≤ r ∧ -(r : Int) ≤ p.2 ∧ p.2 ≤ r := by
  obtain ⟨q, rfl⟩ : ∃ q, r = q + 1 := ⟨r - 1, by omega⟩
  rw [refRing_same] at h
  have := ring_in h
  omega
theorem ring_ends {r : Nat} (h0 : 0 < r) : ((r : Int), (0 : Int)) ∈ refRing r ∧ ((0 : Int), (r : Int)) ∈ refRing r ∧ (-(r : Int), (0 : Int)) ∈ refRing r ∧ ((0 : Int), -(r : Int)) ∈ refRing r := by
  unfold refRing rgA rgB rgC rgD rgE
  simp only [List.mem_append, List.mem_map, List.mem_range]
  refine ⟨?_, ?_, ?_, ?_⟩
  · exact .inl (.inl (.inl (.inl ⟨0, by omega, rfl⟩)))
  · exact .inl (.inl (.inl (.inr ⟨r - 1, by omega, by ext <;> dsimp only <;> omega⟩)))
  · exact .inl (.inl (.inr ⟨r - 1, by omega, by ext <;> dsimp only <;> omega⟩))
  · exact .inl (.inr ⟨r - 1, by omega, by ext <;> dsimp only <;> omega⟩)
/-- The ring lies in the image, or a point of it doesn't. -/
theorem ring_has {n m r : Nat} {cx cy : Int} (h0 : 0 < r) : (∀ p ∈ refRing r, ptIn n m cx cy p) ↔ ((r : Int) ≤ cx ∧ cx ≤ (m : Int) - 1 - r) ∧ (r : Int) ≤ cy ∧ cy ≤ (n : Int) - 1 - r := by
  constructor
  · intro h
    obtain ⟨e1, e2, e3, e4⟩ := ring_ends h0
    have h1 := h _ e1; have h2 := h _ e2; have h3 := h _ e3; have h4 := h _ e4
    unfold ptIn at h1 h2 h3 h4
    dsimp only at h1 h2 h3 h4
    omega
  · intro h p hp
    have := ring_bd h0 hp
    unfold ptIn
    omega
theorem getD_mem2 {l : List (Int × Int)} {j : Nat} (h : j < l.length) : l.getD j (0, 0) ∈ l := by
  rw [List.getD_eq_getElem?_getD, List.getElem?_eq_getElem h]; exact List.getElem_mem _
theorem ptF_ok {n m : Nat} {cx cy : Int} {l : List (Int × Int)} (h : firstF (ptF n m cx cy l) l.length = 0) : ∀ p ∈ l, ptIn n m cx cy p := by
  intro p hp
  obtain ⟨i, hi, rfl⟩ := List.mem_iff_getElem.1 hp
  have := firstF_ok h i hi
  unfold ptF at this
  rw [List.getD_eq_getElem?_getD, List.getElem?_eq_getElem hi, Option.getD_some] at this
  by_cases e : ptIn n m cx cy l[i]
  · exact e
  · rw [if_neg e] at this; omega
theorem ptF_val (n m : Nat) (cx cy : Int) (l : List (Int × Int)) : ∀ k, firstF (ptF n m cx cy l) k = 0 ∨ firstF (ptF n m cx cy l) k = 23
  | 0 => .inl rfl
  | k + 1 => by
    show (if firstF (ptF n m cx cy l) k = 0 then ptF n m cx cy l k else firstF (ptF n m cx cy l) k) = 0 ∨ _ = 23
    have e : firstF (ptF n m cx cy l) (k + 1) = if firstF (ptF n m cx cy l) k = 0 then ptF n m cx cy l k else firstF (ptF n m cx cy l) k := rfl
    rw [e]
    rcases ptF_val n m cx cy l k with h | h
    · rw [if_pos h]; unfold ptF; split
      · exact .inl rfl
      · exact .inr rfl
    · rw [if_neg (by omega)]; exact .inr h
theorem ptF_all {n m : Nat} {cx cy : Int} {l : List (Int × Int)} (h : ∀ p ∈ l, ptIn n m cx cy p) : ∀ k, k ≤ l.length → firstF (ptF n m cx cy l) k = 0
  | 0, _ => rfl
  | k + 1, hk => by
    rw [firstF_step (ptF_all h k (by omega))]
    exact if_pos (h _ (getD_mem2 (by omega)))
/-- What the reference answers of a ring. -/
def rrE (n m : Nat) (cx cy r : Int) : Int := if 1 ≤ r ∧ r ≤ 24 then (if (0 ≤ cx ∧ cx ≤ 24) ∧ 0 ≤ cy ∧ cy ≤ 24 then firstF (ptF n m cx cy (refRing r.toNat)) (refRing r.toNat).length else 23) else 2
def rrL (rows : List (List Int)) (cx cy : Int) (l : List (Int × Int)) : List Int := l.map fun p => pix rows (cx + p.1, cy + p.2)
def rrX (rows : List (List Int)) (n m : Nat) (cx cy r : Int) : List Int := if rrE n m cx cy r = 0 then rrL rows cx cy (refRing r.toNat) else []
theorem rr_same {rows : List (List Int)} {n m : Nat} {cx cy r : Int} (hg : gridE 24 24 rows = 0) (hn : rows.length = n) (hm : (rows.getD 0 []).length = m) : rrE n m cx cy r = ringE rows cx cy r ∧ rrX rows n m cx cy r = ringX rows cx cy r := by
  have hb : n ≤ 24 ∧ m ≤ 24 := by
    obtain ⟨m', g1, g2, g3, g4, g5, g6⟩ := grid_ok hg
    omega
  have hE : rrE n m cx cy r = ringE rows cx cy r := by
    unfold rrE ringE
    rw [if_pos hg]
    by_cases h1 : 1 ≤ r ∧ r ≤ 24
    · rw [if_pos h1, if_pos (fromB_one.2 h1)]
      obtain ⟨q, rfl⟩ : ∃ q : Nat, r = (q : Int) := ⟨r.toNat, by omega⟩
      have hq : 0 < q := by omega
      rw [Int.toNat_natCast]
      unfold hasB
      rw [hm, hn]
      by_cases h2 : ((q : Int) ≤ cx ∧ cx ≤ (m : Int) - 1 - q) ∧ (q : Int) ≤ cy ∧ cy ≤ (n : Int) - 1 - q
      · rw [if_pos (by omega), fromB_one.2 h2.1, fromB_one.2 h2.2, ptF_all ((ring_has hq).2 h2) _ (Nat.le_refl _)]
        rfl
      · have e : ¬ (fromB (q : Int) ((m : Int) - 1 - q) [cx] && fromB (q : Int) ((n : Int) - 1 - q) [cy]) = true := by
          rw [Bool.and_eq_true, fromB_one, fromB_one]; exact h2
        rw [if_neg e]
        by_cases h3 : (0 ≤ cx ∧ cx ≤ 24) ∧ 0 ≤ cy ∧ cy ≤ 24
        · rw [if_pos h3]
          rcases ptF_val n m cx cy (refRing q) (refRing q).length with h | h
          · exact absurd ((ring_has hq).1 (ptF_ok h)) h2
          · exact h
        · rw [if_neg h3]
    · rw [if_neg h1, if_neg (by rw [fromB_one]; exact h1)]
  refine ⟨hE, ?_⟩
  unfold rrX ringX
  rw [hE]
  by_cases h0 : ringE rows cx cy r = 0
  · rw [if_pos h0, if_pos h0]
    have h1 : 1 ≤ r ∧ r ≤ 24 := by
      unfold ringE at h0
      rw [if_pos hg] at h0
      by_cases h1 : fromB 1 24 [r] = true
      · exact fromB_one.1 h1
      · rw [if_neg h1] at h0; omega
    obtain ⟨q, rfl⟩ : ∃ q : Nat, r = ((q + 1 : Nat) : Int) := ⟨r.toNat - 1, by omega⟩
    rw [Int.toNat_natCast, refRing_same, ring_shift cx cy (q + 1) 5, List.map_map]
    rfl
  · rw [if_neg h0, if_neg h0]

end Go.Proofs.YtofdjapbofagiaaDoor

namespace Go.Proofs.YtofdjapbofagiaaDoor
open Go.RowKit

/-- Rows of the call's own, no two of which share memory. -/
def RowsN (W : World) (base : Nat) (L : List (Value × List Int)) : Prop :=
  (∀ p ∈ L, W.ownsRow base 3 1 p.1 p.2.length (p.2.map (Value.int .i64))) ∧ L.Pairwise fun p q => ∀ g, p.1.ownBlock = some g → q.1.ownBlock ≠ some g
theorem RowsN.drew {W : World} {base : Nat} {L : List (Value × List Int)} (h : RowsN W base L) : RowsN W.drew base L := ⟨fun p hp => (h.1 p hp).drew, h.2⟩
theorem RowsN.alloc {W : World} {base : Nat} {L : List (Value × List Int)} (h : RowsN W base L) (o : Obj) : RowsN (W.alloc o) base L := ⟨fun p hp => (h.1 p hp).alloc o, h.2⟩
theorem RowsN.later {W W' : World} {base : Nat} {L : List (Value × List Int)} (h : RowsN W base L) (hb : Below W.heap.size W W') : RowsN W' base L := ⟨fun p hp => ownLater (h.1 p hp) hb, h.2⟩
theorem RowsN.step {W W' : World} {base : Nat} {pre post : List (Value × List Int)} {v v' : Value} {xs : List Int} {u : Int} (h : RowsN W base (pre ++ (v, xs) :: post))
    (ho : W'.ownsRow base 3 1 v' (xs.length + 1) (xs.map (Value.int .i64) ++ [.int .i64 u])) (hg : W.grownBy W' v.ownBlock) (hat : v'.ownBlock = v.ownBlock ∨ v'.ownBlock = some W.heap.size) : RowsN W' base (pre ++ (v', xs ++ [u]) :: post) := by
  obtain ⟨h1, h2⟩ := h
  rw [List.pairwise_append] at h2
  obtain ⟨hp, hc, hx⟩ := h2
  rw [List.pairwise_cons] at hc
  obtain ⟨hc1, hc2⟩ := hc
  have key : ∀ p : Value × List Int, p ∈ pre ∨ p ∈ post → W.ownsRow base 3 1 p.1 p.2.length (p.2.map (Value.int .i64)) ∧ (∀ g, p.1.ownBlock = some g → v.ownBlock ≠ some g) := by
    intro p hpp
    refine ⟨h1 p (by rcases hpp with h | h <;> simp [h]), fun g hg1 hg2 => ?_⟩
    rcases hpp with h | h
    · exact hx p h (v, xs) (List.mem_cons_self ..) g hg1 hg2
    · exact hc1 p h g hg2 hg1
  have kept : ∀ p : Value × List Int, p ∈ pre ∨ p ∈ post → W'.ownsRow base 3 1 p.1 p.2.length (p.2.map (Value.int .i64)) := by
    intro p hpp
    obtain ⟨k1, k2⟩ := key p hpp
    refine k1.kept hg ?_
    cases hb : p.1.ownBlock with
    | none => exact .inl rfl
    | some g => exact .inr fun e => k2 g hb e.symm
  have apart : ∀ p : Value × List Int, p ∈ pre ∨ p ∈ post → ∀ g, p.1.ownBlock = some g → v'.ownBlock ≠ some g := by
    intro p hpp g hb e
    obtain ⟨k1, k2⟩ := key p hpp
    rcases hat with h | h
    · rw [h] at e; exact k2 g hb e
    · rw [h] at e
      have := (k1.lt g hb).2
      injection e with e
      omega
  refine ⟨?_, ?_⟩
  · intro p hpm
    rcases List.mem_append.1 hpm with h | h
    · exact kept p (Or.inl h)
    · rcases List.mem_cons.1 h with rfl | h
      · show W'.ownsRow base 3 1 v' (xs ++ [u]).length ((xs ++ [u]).map (Value.int .i64))
        rw [List.map_append, List.length_append]
        exact ho
      · exact kept p (Or.inr h)
  · rw [List.pairwise_append]
    refine ⟨hp, ?_, ?_⟩
    · rw [List.pairwise_cons]
      refine ⟨fun q hq g hg1 hg2 => apart q (Or.inr hq) g hg2 hg1, hc2⟩
    · intro p hpp q hq
      rcases List.mem_cons.1 hq with rfl | hq
      · exact fun g hb => apart p (Or.inl hpp) g hb
      · exact hx p hpp q (List.mem_cons_of_mem _ hq)
/-- A row of integers lies in no block of slices. -/
theorem row_not {W : World} {base b n : Nat} {v : Value} {xs cs : List Value} (h : W.ownsRow base 3 1 v n xs) (hb : Bk W b 38 cs.toArray) : v.ownBlock ≠ some b := by
  rcases h.2 with ⟨rfl, _⟩ | ⟨g, cap, cur, rfl, _, hg, _⟩
  · simp [Value.ownBlock]
  · simp only [Value.ownBlock]
    intro e
    injection e with e
    subst e
    have hb' : W.heap[g]? = _ := hb
    rw [hg] at hb'
    injection hb' with h1
    injection h1 with _ h2
    exact absurd h2 (by decide)
theorem RowsN.far {W : World} {base b : Nat} {L : List (Value × List Int)} {cs : List Value} (h : RowsN W base L) (hb : Bk W b 38 cs.toArray) (i : Nat) (u : Value) : RowsN (W.setCell ⟨b, i, none⟩ u) base L :=
  ⟨fun p hp => (h.1 p hp).kept (grownBy_setCellG W ⟨b, i, none⟩ u) (by
    cases hv : p.1.ownBlock with
    | none => exact .inl rfl
    | some g => exact .inr (by rw [← hv]; exact row_not (h.1 p hp) hb)), h.2⟩
/-- A strip under way: its rows, in a block of the call's own. -/
def StripR (W : World) (b n : Nat) (L : Nat → List Int) (more : List (Value × List Int)) : Prop :=
  ∃ Ls : List (Value × List Int), Ls.length = n ∧ (∀ k, k < n → (Ls.getD k (undef, [])).2 = L k) ∧ Bk W b 38 (Ls.map Prod.fst).toArray ∧ RowsN W b (Ls ++ more)
theorem StripR.made {W : World} {b n : Nat} (h : Bk W b 38 (List.replicate n (Value.slice none 0 0)).toArray) : StripR W b n (fun _ => []) [] := by
  refine ⟨List.replicate n (Value.slice none 0 0, []), by simp, fun k hk => by simp [List.getD_eq_getElem?_getD, List.getElem?_replicate, hk], by rw [List.map_replicate]; exact h, ?_⟩
  rw [List.append_nil]
  refine ⟨fun p hp => ?_, ?_⟩
  · rw [(List.mem_replicate.1 hp).2]; exact World.ownsRow_nil _ _ _ _
  · rw [List.pairwise_replicate]
    right
    intro g hg
    simp [Value.ownBlock] at hg
theorem StripR.later {W W' : World} {b n : Nat} {L : Nat → List Int} {more : List (Value × List Int)} (h : StripR W b n L more) (hb : Below W.heap.size W W') : StripR W' b n L more := by
  obtain ⟨Ls, h1, h2, h3, h4⟩ := h
  exact ⟨Ls, h1, h2, h3.later hb, h4.later hb⟩
theorem StripR.and {W W' : World} {b n : Nat} {L : Nat → List Int} {v : Value} {xs : List Int} (h : StripR W b n L []) (hb : Below W.heap.size W W') (ho : W'.ownsRow W.heap.size 3 1 v xs.length (xs.map (Value.int .i64))) (hw : b ≤ W.heap.size) : StripR W' b n L [(v, xs)] := by
  obtain ⟨Ls, h1, h2, h3, h4⟩ := h
  rw [List.append_nil] at h4
  refine ⟨Ls, h1, h2, h3.later hb, ?_, ?_⟩
  · intro p hp
    rcases List.mem_append.1 hp with h | h
    · exact ownLater (h4.1 p h) hb
    · rw [List.mem_singleton.1 h]; exact ownMono ho hw
  · rw [List.pairwise_append]
    refine ⟨h4.2, List.pairwise_singleton _ _, fun p hp q hq g hg e => ?_⟩
    rw [List.mem_singleton.1 hq] at e
    have := ((h4.1 p hp).lt g hg).2
    have := (ho.lt g e).1
    omega
theorem StripR.only {W : World} {b n : Nat} {L : Nat → List Int} {more : List (Value × List Int)} (h : StripR W b n L more) : StripR W b n L [] := by
  obtain ⟨Ls, h1, h2, h3, h4⟩ := h
  refine ⟨Ls, h1, h2, h3, ?_⟩
  rw [List.append_nil]
  exact ⟨fun p hp => h4.1 p (List.mem_append_left _ hp), (List.pairwise_append.1 h4.2).1⟩
/-- The row at an index, before it grows. -/
theorem StripR.at_ {W : World} {b n k : Nat} {L : Nat → List Int} {more : List (Value × List Int)} (h : StripR W b n L more) (hk : k < n) :
    ∃ v pre post, W.cell? ⟨b, k, none⟩ = some v ∧ pre.length = k ∧ Bk W b 38 ((pre ++ (v, L k) :: post).map Prod.fst).toArray ∧ (pre ++ (v, L k) :: post).length = n ∧ (∀ j, j < n → ((pre ++ (v, L k) :: post).getD j (undef, [])).2 = L j) ∧ RowsN W b (pre ++ (v, L k) :: (post ++ more)) := by
  obtain ⟨Ls, h1, h2, h3, h4⟩ := h
  have hk1 : k < Ls.length := by omega
  obtain ⟨⟨v, xs⟩, hv⟩ : ∃ p, Ls[k] = p := ⟨_, rfl⟩
  have e : Ls = Ls.take k ++ (v, xs) :: Ls.drop (k + 1) := by
    rw [← hv, ← List.drop_eq_getElem_cons hk1, List.take_append_drop]
  have hx : xs = L k := by
    have := h2 k hk
    rw [List.getD_eq_getElem?_getD, List.getElem?_eq_getElem hk1, Option.getD_some, hv] at this
    exact this
  subst hx
  refine ⟨v, Ls.take k, Ls.drop (k + 1), ?_, by rw [List.length_take]; omega, by rw [← e]; exact h3, by rw [← e]; exact h1, by rw [← e]; exact h2, ?_⟩
  · rw [h3.cell]
    simp [List.getElem?_map, List.getElem?_eq_getElem hk1, hv]
  · rw [show Ls.take k ++ (v, L k) :: (Ls.drop (k + 1) ++ more) = Ls ++ more by conv => rhs; rw [e]; simp]
    exact h4
theorem StripR.put {W : World} {b n k : Nat} {L : Nat → List Int} {more : List (Value × List Int)} {pre post : List (Value × List Int)} {v v' : Value} {x : Int} {W' : World} (hk : k < n) (hpl : pre.length = k) (h3 : Bk W b 38 ((pre ++ (v, L k) :: post).map Prod.fst).toArray) (h1 : (pre ++ (v, L k) :: post).length = n) (h2 : ∀ j, j < n → ((pre ++ (v, L k) :: post).getD j (undef, [])).2 = L j)
    (h4 : RowsN W b (pre ++ (v, L k) :: (post ++ more))) (ho : W'.ownsRow b 3 1 v' ((L k).length + 1) ((L k).map (Value.int .i64) ++ [.int .i64 x])) (hg : W.grownBy W' v.ownBlock) (hat : v'.ownBlock = v.ownBlock ∨ v'.ownBlock = some W.heap.size) :
    StripR (W'.setCell ⟨b, k, none⟩ v') b n (fun j => if j = k then L k ++ [x] else L j) more := by
  have hne : v.ownBlock ≠ some b := row_not (h4.1 (v, L k) (by simp)) h3
  have h5 : Bk W' b 38 ((pre ++ (v, L k) :: post).map Prod.fst).toArray := h3.grown hg (fun e => hne e.symm)
  have h6 := h4.step ho hg hat
  refine ⟨pre ++ (v', L k ++ [x]) :: post, by simpa using h1, fun j hj => ?_, ?_, ?_⟩
  · by_cases e : j = k
    · subst e
      dsimp only
      rw [if_pos rfl, List.getD_eq_getElem?_getD, List.getElem?_append_right (by omega), hpl]
      simp
    · dsimp only
      rw [if_neg e, ← h2 j hj]
      simp only [List.getD_eq_getElem?_getD]
      rcases Nat.lt_or_ge j k with h | h
      · rw [List.getElem?_append_left (by omega), List.getElem?_append_left (by omega)]
      · rw [List.getElem?_append_right (by omega), List.getElem?_append_right (by omega), hpl]
        obtain ⟨t, ht⟩ : ∃ t, j - k = t + 1 := ⟨j - k - 1, by omega⟩
        rw [ht]; simp
  · have h7 := h5.set_ k v'
    have e : (((pre ++ (v, L k) :: post).map Prod.fst).toArray).setIfInBounds k v' = ((pre ++ (v', L k ++ [x]) :: post).map Prod.fst).toArray := by
      simp only [List.setIfInBounds_toArray, List.map_append, List.map_cons]
      rw [List.set_append_right _ _ (by simp [hpl]), List.length_map, hpl, Nat.sub_self, List.set_cons_zero]
    rw [e] at h7
    exact h7
  · rw [show pre ++ (v', L k ++ [x]) :: post ++ more = pre ++ (v', L k ++ [x]) :: (post ++ more) by simp]
    exact h6.far h5 k v'
theorem StripR.read {W : World} {b n : Nat} {L : Nat → List Int} {more : List (Value × List Int)} (h : StripR W b n L more) (hm : ∀ k, k < n → (L k).length ≤ 1000000) : RdGN W (some ⟨b, 0, none⟩) n ((List.range n).map L) := by
  obtain ⟨Ls, h1, h2, h3, h4⟩ := h
  refine ⟨by simp, fun hn => ⟨_, rfl, h3.lt, fun j hj => ?_⟩⟩
  have hj1 : j < Ls.length := by omega
  obtain ⟨⟨v, xs⟩, hv⟩ : ∃ p, Ls[j] = p := ⟨_, rfl⟩
  have hx : xs = L j := by
    have := h2 j hj
    rw [List.getD_eq_getElem?_getD, List.getElem?_eq_getElem hj1, Option.getD_some, hv] at this
    exact this
  subst hx
  have ho : W.ownsRow b 3 1 v (L j).length ((L j).map (Value.int .i64)) := h4.1 (v, L j) (by rw [← hv]; exact List.mem_append_left _ (List.getElem_mem _))
  obtain ⟨B, c, rfl, _, hr, hn'⟩ := rd_ownN ho
  refine ⟨B, _, c, ?_, ?_, by have := hm j hj; omega, hn'⟩
  · rw [addOff, h3.cell]
    simp [List.getElem?_map, List.getElem?_eq_getElem hj1, hv]
  · have e : ((List.range n).map L).getD j [] = L j := by simp [List.getD_eq_getElem?_getD, hj]
    rw [e]; exact hr
theorem make_strip (c : Nat) (hc : c ≤ 1000000) (W : World) :
    (Instr.makeSlice 41 (.int .i64 (c : Int)) (.int .i64 (c : Int))).run Tryd.prog W = .ok (.slice (some ⟨W.heap.size, 0, none⟩) c c) (W.alloc (.cells (List.replicate c (Value.slice none 0 0)).toArray 38)) := by
  obtain ⟨i0, hi, hz0, hz1, hz2⟩ := info_parts sliceInfo
  have hr := run_make (P := Tryd.prog) W 41 38 i0 _ Tryd.underlying41 hi hz0 .i64 .i64 c c (by omega) (by omega) (by rw [hz2]; omega) (by omega)
  rw [hr]
  have e : madeCells (Value.cells (.slice none 0 0)) ((c : Int).toNat * i0.size) = (List.replicate c (Value.slice none 0 0)).toArray := by
    rw [hz1]
    apply Array.ext'
    have := toList_madeCells_one (Value.slice none 0 0) c
    simp only [Int.toNat_natCast, Nat.mul_one]
    show (madeCells #[Value.slice none 0 0] c).toList = _
    rw [this]
  rw [e]
  simp
/-- A row of a strip that is unrolled. -/
def cellU (rows : List (List Int)) (cx cy : Int) (st k r : Nat) : Int := ((ringTo cx cy r 5).map (pix rows)).getD (8 * r * k / st) 0
def rowU (rows : List (List Int)) (cx cy : Int) (st lo k t : Nat) : List Int := (List.range t).map fun i => cellU rows cx cy st k (lo + i)
theorem rowU_succ (rows : List (List Int)) (cx cy : Int) (st lo k t : Nat) : rowU rows cx cy st lo k (t + 1) = rowU rows cx cy st lo k t ++ [cellU rows cx cy st k (lo + t)] := by simp [rowU, List.range_succ]
theorem rowU_length (rows : List (List Int)) (cx cy : Int) (st lo k t : Nat) : (rowU rows cx cy st lo k t).length = t := by simp [rowU]
def unL (rows : List (List Int)) (cx cy : Int) (st lo t : Nat) : List (List Int) := (List.range st).map fun k => rowU rows cx cy st lo k t
/-- A slice of rows that reads as a list, and an error. -/
def ResG (w : World) (E : Int) (rows : List (List Int)) (e : Ending) (w' : World) : Prop :=
  (∃ A c, e = .returned (.tuple #[.slice A rows.length c, .int .i64 E]) ∧ RdGN w' A rows.length rows) ∧ Below w.heap.size w w'
theorem ResG.none_ {w w' : World} {E : Int} (h : Below w.heap.size w w') : ResG w E [] (.returned (.tuple #[.slice none 0 0, .int .i64 E])) w' := ⟨⟨_, _, rfl, rfl, fun h => absurd h (by simp)⟩, h⟩

end Go.Proofs.YtofdjapbofagiaaDoor

namespace Go.Proofs.YtofdjapbofagiaaDoor
open Go.RowKit

theorem hasRing_any (ad : Addr) (n c m c' : Nat) (B : Option Addr) (rows : List (List Int)) (cx cy r : Int) (W : World) (hck : CellAt W ad (.slice B m c')) (hn : 0 < n ∧ n ≤ 24) (hm : 0 < m ∧ m ≤ 24) (hr : 0 ≤ r ∧ r ≤ 24) (hln : rows.length = n) (hlm : (rows.getD 0 []).length = m) :
    Calls Tryd.prog 49 #[.agg #[.slice (some ad) n c], .agg #[.int .i64 cx, .int .i64 cy], .int .i64 r] W fun e w' => e = .returned (.bool (hasB rows cx cy r)) ∧ Below W.heap.size W w' := by
  have hHB : hasB rows cx cy r = (fromB r ((m : Int) - 1 - r) [cx] && fromB r ((n : Int) - 1 - r) [cy]) := by unfold hasB; rw [hlm, hln]
  cases hb : fromB r ((m : Int) - 1 - r) [cx] with
  | true =>
    refine (hasRing_yes ad n c m c' B cx cy r W hck.2 hck.1 hn.1 (by omega) (by omega) (by omega) hb).mono ?_
    rintro e w' ⟨rfl, h⟩
    exact ⟨by rw [hHB, hb, Bool.true_and], h⟩
  | false =>
    refine (hasRing_no ad n c m c' B cx cy r W hck.2 hck.1 hn.1 (by omega) (by omega) (by omega) hb).mono ?_
    rintro e w' ⟨rfl, h⟩
    exact ⟨by rw [hHB, hb, Bool.false_and], h⟩
theorem from_both {lo hi x y : Int} : fromB lo hi [x, y] = true ↔ (lo ≤ x ∧ x ≤ hi) ∧ lo ≤ y ∧ y ≤ hi := by simp [fromB]
/-- What is wrong with a view of a valid image of n rows and m columns. -/
def vwE (rows : List (List Int)) (cx cy lo hi st : Int) : Int :=
  if ((1 ≤ lo ∧ lo ≤ 24) ∧ 1 ≤ hi ∧ hi ≤ 24) ∧ 1 ≤ st ∧ st ≤ 40 then (if lo ≤ hi then (if hi - lo + 1 ≤ 12 then (if hasB rows cx cy hi = true then 0 else 23) else 8) else 9) else 2
def unE (rows : List (List Int)) (cx cy lo hi st : Int) : Int := if gridE 24 24 rows = 0 then vwE rows cx cy lo hi st else gridE 24 24 rows
def unX (rows : List (List Int)) (cx cy lo hi st : Int) : List (List Int) := if unE rows cx cy lo hi st = 0 then unL rows cx cy st.toNat lo.toNat (hi - lo + 1).toNat else []

set_option maxRecDepth 100000 in
set_option maxHeartbeats 2000000 in
theorem un_img (A : Option Addr) (n c : Nat) (rows : List (List Int)) (cx cy lo hi st : Int) (w : World) (hr : RdG w A n rows) (hn : n ≤ 1000000) (E : Int) (hE : gridE 24 24 rows = E) (h0 : E ≠ 0) :
    Calls Tryd.prog 13 #[.agg #[.slice A n c], .agg #[.int .i64 cx, .int .i64 cy, .int .i64 lo, .int .i64 hi, .int .i64 st]] w (ResG w E []) := by
  have hb0 : Below w.heap.size w ((w.alloc (.cells #[.slice A n c] 24)).alloc (.cells #[.int .i64 cx, .int .i64 cy, .int .i64 lo, .int .i64 hi, .int .i64 st] 30)) := ((Below.refl _ w).alloc (Nat.le_refl _) _).alloc (by simp) _
  have HNI : Hid (Bk ((w.alloc (.cells #[.slice A n c] 24)).alloc (.cells #[.int .i64 cx, .int .i64 cy, .int .i64 lo, .int .i64 hi, .int .i64 st] 30)) w.heap.size 24 #[.slice A n c]) := (Bk.new w 24 #[.slice A n c]).alloc _
  have HNV : Hid (Bk ((w.alloc (.cells #[.slice A n c] 24)).alloc (.cells #[.int .i64 cx, .int .i64 cy, .int .i64 lo, .int .i64 hi, .int .i64 st] 30)) (w.heap.size + 1) 30 #[.int .i64 cx, .int .i64 cy, .int .i64 lo, .int .i64 hi, .int .i64 st]) := by
    have := Bk.new (w.alloc (.cells #[.slice A n c] 24)) 30 #[.int .i64 cx, .int .i64 cy, .int .i64 lo, .int .i64 hi, .int .i64 st]
    show Bk _ _ _ _
    simpa using this
  have HB0 := Lib.hid hb0
  have CI := Lib.hid (checkImage_any A n c rows _ (hr.below hb0) (by omega))
  rw [hE] at CI
  have h1 : (E != 0) = true := by simpa using h0
  clear hr hb0 h0 hE
  go_enter Tryd.func13, Tryd.ntmps13
  go_wp2_with fail
  refine CI.out.mono ?_
  rintro e w1 ⟨rfl, hb1⟩
  have HB1 : Hid (Below w.heap.size w w1) := HB0.out.trans (hb1.mono HB0.out.size)
  clear hb1 CI
  go_wp2
  go_ret2
  exact ResG.none_ HB1.out

set_option maxRecDepth 100000 in
set_option maxHeartbeats 2000000 in
theorem un_range1 (A : Option Addr) (n c : Nat) (rows : List (List Int)) (cx cy lo hi st : Int) (w : World) (hr : RdG w A n rows) (hn : n ≤ 1000000) (hg : gridE 24 24 rows = 0) (h1 : ¬ ((1 ≤ lo ∧ lo ≤ 24) ∧ 1 ≤ hi ∧ hi ≤ 24)) :
    Calls Tryd.prog 13 #[.agg #[.slice A n c], .agg #[.int .i64 cx, .int .i64 cy, .int .i64 lo, .int .i64 hi, .int .i64 st]] w (ResG w 2 []) := by
  have hb0 : Below w.heap.size w ((w.alloc (.cells #[.slice A n c] 24)).alloc (.cells #[.int .i64 cx, .int .i64 cy, .int .i64 lo, .int .i64 hi, .int .i64 st] 30)) := ((Below.refl _ w).alloc (Nat.le_refl _) _).alloc (by simp) _
  have HNI : Hid (Bk ((w.alloc (.cells #[.slice A n c] 24)).alloc (.cells #[.int .i64 cx, .int .i64 cy, .int .i64 lo, .int .i64 hi, .int .i64 st] 30)) w.heap.size 24 #[.slice A n c]) := (Bk.new w 24 #[.slice A n c]).alloc _
  have HNV : Hid (Bk ((w.alloc (.cells #[.slice A n c] 24)).alloc (.cells #[.int .i64 cx, .int .i64 cy, .int .i64 lo, .int .i64 hi, .int .i64 st] 30)) (w.heap.size + 1) 30 #[.int .i64 cx, .int .i64 cy, .int .i64 lo, .int .i64 hi, .int .i64 st]) := by
    have := Bk.new (w.alloc (.cells #[.slice A n c] 24)) 30 #[.int .i64 cx, .int .i64 cy, .int .i64 lo, .int .i64 hi, .int .i64 st]
    show Bk _ _ _ _
    simpa using this
  have HB0 := Lib.hid hb0
  have CI := Lib.hid (checkImage_any A n c rows _ (hr.below hb0) (by omega))
  rw [hg] at CI
  have CA2 : Hid (∀ W g, W.cell? ⟨g, 0, none⟩ = some (.int .i64 lo) → W.cell? ⟨g, 1, none⟩ = some (.int .i64 hi) → Calls Tryd.prog 48 #[.int .i64 1, .int .i64 24, .slice (some ⟨g, 0, none⟩) 2 2] W fun e w' => e = .returned (.bool false) ∧ W = w') := fun W g k1 k2 => by
    have h := areFrom_any (some ⟨g, 0, none⟩) 2 2 [lo, hi] 1 24 W (lit2 _ _ _ _ k1 k2) (by omega)
    rw [show fromB 1 24 [lo, hi] = false by rw [Bool.eq_false_iff]; intro e; exact h1 (from_both.1 e)] at h
    exact h
  clear h1
  clear hr hb0 hg
  go_enter Tryd.func13, Tryd.ntmps13
  go_wp2_with fail
  refine CI.out.mono ?_
  rintro e w1 ⟨rfl, hb1⟩
  have HB1 : Hid (Below w.heap.size w w1) := HB0.out.trans (hb1.mono HB0.out.size)
  have HNI1 := Lib.hid (HNI.out.later hb1)
  have HNV1 := Lib.hid (HNV.out.later hb1)
  have hz1 : w.heap.size + 2 ≤ w1.heap.size := by have := hb1.size; simp at this; omega
  have i0 : w1.cell? ⟨w.heap.size, 0, none⟩ = some (.slice A n c) := by rw [HNI1.out.cell]; rfl
  have v0 : w1.cell? ⟨w.heap.size + 1, 0, none⟩ = some (.int .i64 cx) := by rw [HNV1.out.cell]; rfl
  have v1 : w1.cell? ⟨w.heap.size + 1, 1, none⟩ = some (.int .i64 cy) := by rw [HNV1.out.cell]; rfl
  have v2 : w1.cell? ⟨w.heap.size + 1, 2, none⟩ = some (.int .i64 lo) := by rw [HNV1.out.cell]; rfl
  have v3 : w1.cell? ⟨w.heap.size + 1, 3, none⟩ = some (.int .i64 hi) := by rw [HNV1.out.cell]; rfl
  have v4 : w1.cell? ⟨w.heap.size + 1, 4, none⟩ = some (.int .i64 st) := by rw [HNV1.out.cell]; rfl
  have x4 := cellA (.cells #[.int .i64 lo, .int .i64 hi] 3) v4
  have y4 := cellA (.cells #[.int .i64 st] 3) x4
  have yi := cellA (.cells #[.int .i64 st] 3) (cellA (.cells #[.int .i64 lo, .int .i64 hi] 3) i0)
  have y0 := cellA (.cells #[.int .i64 st] 3) (cellA (.cells #[.int .i64 lo, .int .i64 hi] 3) v0)
  have y1 := cellA (.cells #[.int .i64 st] 3) (cellA (.cells #[.int .i64 lo, .int .i64 hi] 3) v1)
  have y2 := cellA (.cells #[.int .i64 st] 3) (cellA (.cells #[.int .i64 lo, .int .i64 hi] 3) v2)
  have y3 := cellA (.cells #[.int .i64 st] 3) (cellA (.cells #[.int .i64 lo, .int .i64 hi] 3) v3)
  clear hb1 CI HNI HNV HB0
  go_wp2_with fail
  refine (CA2.out _ _ (by simp [go_sem]) (by simp [go_sem])).mono ?_
  rintro e w' ⟨rfl, rfl⟩
  go_wp2
  go_ret2
  exact ResG.none_ (HB1.out.alloc (by omega) _)

set_option maxRecDepth 100000 in
set_option maxHeartbeats 2000000 in
theorem un_range2 (A : Option Addr) (n c : Nat) (rows : List (List Int)) (cx cy lo hi st : Int) (w : World) (hr : RdG w A n rows) (hn : n ≤ 1000000) (hg : gridE 24 24 rows = 0) (h1 : (1 ≤ lo ∧ lo ≤ 24) ∧ 1 ≤ hi ∧ hi ≤ 24) (h2 : ¬ (1 ≤ st ∧ st ≤ 40)) :
    Calls Tryd.prog 13 #[.agg #[.slice A n c], .agg #[.int .i64 cx, .int .i64 cy, .int .i64 lo, .int .i64 hi, .int .i64 st]] w (ResG w 2 []) := by
  have hb0 : Below w.heap.size w ((w.alloc (.cells #[.slice A n c] 24)).alloc (.cells #[.int .i64 cx, .int .i64 cy, .int .i64 lo, .int .i64 hi, .int .i64 st] 30)) := ((Below.refl _ w).alloc (Nat.le_refl _) _).alloc (by simp) _
  have HNI : Hid (Bk ((w.alloc (.cells #[.slice A n c] 24)).alloc (.cells #[.int .i64 cx, .int .i64 cy, .int .i64 lo, .int .i64 hi, .int .i64 st] 30)) w.heap.size 24 #[.slice A n c]) := (Bk.new w 24 #[.slice A n c]).alloc _
  have HNV : Hid (Bk ((w.alloc (.cells #[.slice A n c] 24)).alloc (.cells #[.int .i64 cx, .int .i64 cy, .int .i64 lo, .int .i64 hi, .int .i64 st] 30)) (w.heap.size + 1) 30 #[.int .i64 cx, .int .i64 cy, .int .i64 lo, .int .i64 hi, .int .i64 st]) := by
    have := Bk.new (w.alloc (.cells #[.slice A n c] 24)) 30 #[.int .i64 cx, .int .i64 cy, .int .i64 lo, .int .i64 hi, .int .i64 st]
    show Bk _ _ _ _
    simpa using this
  have HB0 := Lib.hid hb0
  have CI := Lib.hid (checkImage_any A n c rows _ (hr.below hb0) (by omega))
  rw [hg] at CI
  have CA2 : Hid (∀ W g, W.cell? ⟨g, 0, none⟩ = some (.int .i64 lo) → W.cell? ⟨g, 1, none⟩ = some (.int .i64 hi) → Calls Tryd.prog 48 #[.int .i64 1, .int .i64 24, .slice (some ⟨g, 0, none⟩) 2 2] W fun e w' => e = .returned (.bool true) ∧ W = w') := fun W g k1 k2 => by
    have h := areFrom_any (some ⟨g, 0, none⟩) 2 2 [lo, hi] 1 24 W (lit2 _ _ _ _ k1 k2) (by omega)
    rw [show fromB 1 24 [lo, hi] = true by rw [from_both]; exact h1] at h
    exact h
  have CA1 : Hid (∀ W g, W.cell? ⟨g, 0, none⟩ = some (.int .i64 st) → Calls Tryd.prog 48 #[.int .i64 1, .int .i64 40, .slice (some ⟨g, 0, none⟩) 1 1] W fun e w' => e = .returned (.bool false) ∧ W = w') := fun W g k1 => by
    have h := areFrom_any (some ⟨g, 0, none⟩) 1 1 [st] 1 40 W (lit1 _ _ _ k1) (by omega)
    rw [show fromB 1 40 [st] = false by rw [Bool.eq_false_iff]; intro e; exact h2 (fromB_one.1 e)] at h
    exact h
  clear h1 h2
  clear hr hb0 hg
  go_enter Tryd.func13, Tryd.ntmps13
  go_wp2_with fail
  refine CI.out.mono ?_
  rintro e w1 ⟨rfl, hb1⟩
  have HB1 : Hid (Below w.heap.size w w1) := HB0.out.trans (hb1.mono HB0.out.size)
  have HNI1 := Lib.hid (HNI.out.later hb1)
  have HNV1 := Lib.hid (HNV.out.later hb1)
  have hz1 : w.heap.size + 2 ≤ w1.heap.size := by have := hb1.size; simp at this; omega
  have i0 : w1.cell? ⟨w.heap.size, 0, none⟩ = some (.slice A n c) := by rw [HNI1.out.cell]; rfl
  have v0 : w1.cell? ⟨w.heap.size + 1, 0, none⟩ = some (.int .i64 cx) := by rw [HNV1.out.cell]; rfl
  have v1 : w1.cell? ⟨w.heap.size + 1, 1, none⟩ = some (.int .i64 cy) := by rw [HNV1.out.cell]; rfl
  have v2 : w1.cell? ⟨w.heap.size + 1, 2, none⟩ = some (.int .i64 lo) := by rw [HNV1.out.cell]; rfl
  have v3 : w1.cell? ⟨w.heap.size + 1, 3, none⟩ = some (.int .i64 hi) := by rw [HNV1.out.cell]; rfl
  have v4 : w1.cell? ⟨w.heap.size + 1, 4, none⟩ = some (.int .i64 st) := by rw [HNV1.out.cell]; rfl
  have x4 := cellA (.cells #[.int .i64 lo, .int .i64 hi] 3) v4
  have y4 := cellA (.cells #[.int .i64 st] 3) x4
  have yi := cellA (.cells #[.int .i64 st] 3) (cellA (.cells #[.int .i64 lo, .int .i64 hi] 3) i0)
  have y0 := cellA (.cells #[.int .i64 st] 3) (cellA (.cells #[.int .i64 lo, .int .i64 hi] 3) v0)
  have y1 := cellA (.cells #[.int .i64 st] 3) (cellA (.cells #[.int .i64 lo, .int .i64 hi] 3) v1)
  have y2 := cellA (.cells #[.int .i64 st] 3) (cellA (.cells #[.int .i64 lo, .int .i64 hi] 3) v2)
  have y3 := cellA (.cells #[.int .i64 st] 3) (cellA (.cells #[.int .i64 lo, .int .i64 hi] 3) v3)
  clear hb1 CI HNI HNV HB0
  go_wp2_with fail
  refine (CA2.out _ _ (by simp [go_sem]) (by simp [go_sem])).mono ?_
  rintro e w' ⟨rfl, rfl⟩
  go_wp2_with fail
  refine (CA1.out _ _ ?_).mono ?_
  · simp [go_sem]
  rintro e w' ⟨rfl, rfl⟩
  go_wp2
  go_ret2
  exact ResG.none_ ((HB1.out.alloc (by omega) _).alloc (by simp; omega) _)

set_option maxRecDepth 100000 in
set_option maxHeartbeats 2000000 in
theorem un_order (A : Option Addr) (n c : Nat) (rows : List (List Int)) (cx cy lo hi st : Int) (w : World) (hr : RdG w A n rows) (hn : n ≤ 1000000) (hg : gridE 24 24 rows = 0) (h1 : (1 ≤ lo ∧ lo ≤ 24) ∧ 1 ≤ hi ∧ hi ≤ 24) (h2 : 1 ≤ st ∧ st ≤ 40) (h3 : ¬ lo ≤ hi) :
    Calls Tryd.prog 13 #[.agg #[.slice A n c], .agg #[.int .i64 cx, .int .i64 cy, .int .i64 lo, .int .i64 hi, .int .i64 st]] w (ResG w 9 []) := by
  have hb0 : Below w.heap.size w ((w.alloc (.cells #[.slice A n c] 24)).alloc (.cells #[.int .i64 cx, .int .i64 cy, .int .i64 lo, .int .i64 hi, .int .i64 st] 30)) := ((Below.refl _ w).alloc (Nat.le_refl _) _).alloc (by simp) _
  have HNI : Hid (Bk ((w.alloc (.cells #[.slice A n c] 24)).alloc (.cells #[.int .i64 cx, .int .i64 cy, .int .i64 lo, .int .i64 hi, .int .i64 st] 30)) w.heap.size 24 #[.slice A n c]) := (Bk.new w 24 #[.slice A n c]).alloc _
  have HNV : Hid (Bk ((w.alloc (.cells #[.slice A n c] 24)).alloc (.cells #[.int .i64 cx, .int .i64 cy, .int .i64 lo, .int .i64 hi, .int .i64 st] 30)) (w.heap.size + 1) 30 #[.int .i64 cx, .int .i64 cy, .int .i64 lo, .int .i64 hi, .int .i64 st]) := by
    have := Bk.new (w.alloc (.cells #[.slice A n c] 24)) 30 #[.int .i64 cx, .int .i64 cy, .int .i64 lo, .int .i64 hi, .int .i64 st]
    show Bk _ _ _ _
    simpa using this
  have HB0 := Lib.hid hb0
  have CI := Lib.hid (checkImage_any A n c rows _ (hr.below hb0) (by omega))
  rw [hg] at CI
  have CA2 : Hid (∀ W g, W.cell? ⟨g, 0, none⟩ = some (.int .i64 lo) → W.cell? ⟨g, 1, none⟩ = some (.int .i64 hi) → Calls Tryd.prog 48 #[.int .i64 1, .int .i64 24, .slice (some ⟨g, 0, none⟩) 2 2] W fun e w' => e = .returned (.bool true) ∧ W = w') := fun W g k1 k2 => by
    have h := areFrom_any (some ⟨g, 0, none⟩) 2 2 [lo, hi] 1 24 W (lit2 _ _ _ _ k1 k2) (by omega)
    rw [show fromB 1 24 [lo, hi] = true by rw [from_both]; exact h1] at h
    exact h
  have CA1 : Hid (∀ W g, W.cell? ⟨g, 0, none⟩ = some (.int .i64 st) → Calls Tryd.prog 48 #[.int .i64 1, .int .i64 40, .slice (some ⟨g, 0, none⟩) 1 1] W fun e w' => e = .returned (.bool true) ∧ W = w') := fun W g k1 => by
    have h := areFrom_any (some ⟨g, 0, none⟩) 1 1 [st] 1 40 W (lit1 _ _ _ k1) (by omega)
    rw [show fromB 1 40 [st] = true by rw [fromB_one]; exact h2] at h
    exact h
  obtain ⟨⟨a1, a2⟩, a3, a4⟩ := h1
  obtain ⟨a5, a6⟩ := h2
  have h4 : hi < lo := by omega
  clear h3
  clear hr hb0 hg
  go_enter Tryd.func13, Tryd.ntmps13
  go_wp2_with fail
  refine CI.out.mono ?_
  rintro e w1 ⟨rfl, hb1⟩
  have HB1 : Hid (Below w.heap.size w w1) := HB0.out.trans (hb1.mono HB0.out.size)
  have HNI1 := Lib.hid (HNI.out.later hb1)
  have HNV1 := Lib.hid (HNV.out.later hb1)
  have hz1 : w.heap.size + 2 ≤ w1.heap.size := by have := hb1.size; simp at this; omega
  have i0 : w1.cell? ⟨w.heap.size, 0, none⟩ = some (.slice A n c) := by rw [HNI1.out.cell]; rfl
  have v0 : w1.cell? ⟨w.heap.size + 1, 0, none⟩ = some (.int .i64 cx) := by rw [HNV1.out.cell]; rfl
  have v1 : w1.cell? ⟨w.heap.size + 1, 1, none⟩ = some (.int .i64 cy) := by rw [HNV1.out.cell]; rfl
  have v2 : w1.cell? ⟨w.heap.size + 1, 2, none⟩ = some (.int .i64 lo) := by rw [HNV1.out.cell]; rfl
  have v3 : w1.cell? ⟨w.heap.size + 1, 3, none⟩ = some (.int .i64 hi) := by rw [HNV1.out.cell]; rfl
  have v4 : w1.cell? ⟨w.heap.size + 1, 4, none⟩ = some (.int .i64 st) := by rw [HNV1.out.cell]; rfl
  have x4 := cellA (.cells #[.int .i64 lo, .int .i64 hi] 3) v4
  have y4 := cellA (.cells #[.int .i64 st] 3) x4
  have yi := cellA (.cells #[.int .i64 st] 3) (cellA (.cells #[.int .i64 lo, .int .i64 hi] 3) i0)
  have y0 := cellA (.cells #[.int .i64 st] 3) (cellA (.cells #[.int .i64 lo, .int .i64 hi] 3) v0)
  have y1 := cellA (.cells #[.int .i64 st] 3) (cellA (.cells #[.int .i64 lo, .int .i64 hi] 3) v1)
  have y2 := cellA (.cells #[.int .i64 st] 3) (cellA (.cells #[.int .i64 lo, .int .i64 hi] 3) v2)
  have y3 := cellA (.cells #[.int .i64 st] 3) (cellA (.cells #[.int .i64 lo, .int .i64 hi] 3) v3)
  clear hb1 CI HNI HNV HB0
  go_wp2_with fail
  refine (CA2.out _ _ (by simp [go_sem]) (by simp [go_sem])).mono ?_
  rintro e w' ⟨rfl, rfl⟩
  go_wp2_with fail
  refine (CA1.out _ _ ?_).mono ?_
  · simp [go_sem]
  rintro e w' ⟨rfl, rfl⟩
  go_wp2
  go_ret2
  exact ResG.none_ ((HB1.out.alloc (by omega) _).alloc (by simp; omega) _)

set_option maxRecDepth 100000 in
set_option maxHeartbeats 2000000 in
theorem un_large (A : Option Addr) (n c : Nat) (rows : List (List Int)) (cx cy lo hi st : Int) (w : World) (hr : RdG w A n rows) (hn : n ≤ 1000000) (hg : gridE 24 24 rows = 0) (h1 : (1 ≤ lo ∧ lo ≤ 24) ∧ 1 ≤ hi ∧ hi ≤ 24) (h2 : 1 ≤ st ∧ st ≤ 40) (h3 : lo ≤ hi) (h4 : ¬ hi - lo + 1 ≤ 12) :
    Calls Tryd.prog 13 #[.agg #[.slice A n c], .agg #[.int .i64 cx, .int .i64 cy, .int .i64 lo, .int .i64 hi, .int .i64 st]] w (ResG w 8 []) := by
  have hb0 : Below w.heap.size w ((w.alloc (.cells #[.slice A n c] 24)).alloc (.cells #[.int .i64 cx, .int .i64 cy, .int .i64 lo, .int .i64 hi, .int .i64 st] 30)) := ((Below.refl _ w).alloc (Nat.le_refl _) _).alloc (by simp) _
  have HNI : Hid (Bk ((w.alloc (.cells #[.slice A n c] 24)).alloc (.cells #[.int .i64 cx, .int .i64 cy, .int .i64 lo, .int .i64 hi, .int .i64 st] 30)) w.heap.size 24 #[.slice A n c]) := (Bk.new w 24 #[.slice A n c]).alloc _
  have HNV : Hid (Bk ((w.alloc (.cells #[.slice A n c] 24)).alloc (.cells #[.int .i64 cx, .int .i64 cy, .int .i64 lo, .int .i64 hi, .int .i64 st] 30)) (w.heap.size + 1) 30 #[.int .i64 cx, .int .i64 cy, .int .i64 lo, .int .i64 hi, .int .i64 st]) := by
    have := Bk.new (w.alloc (.cells #[.slice A n c] 24)) 30 #[.int .i64 cx, .int .i64 cy, .int .i64 lo, .int .i64 hi, .int .i64 st]
    show Bk _ _ _ _
    simpa using this
  have HB0 := Lib.hid hb0
  have CI := Lib.hid (checkImage_any A n c rows _ (hr.below hb0) (by omega))
  rw [hg] at CI
  have CA2 : Hid (∀ W g, W.cell? ⟨g, 0, none⟩ = some (.int .i64 lo) → W.cell? ⟨g, 1, none⟩ = some (.int .i64 hi) → Calls Tryd.prog 48 #[.int .i64 1, .int .i64 24, .slice (some ⟨g, 0, none⟩) 2 2] W fun e w' => e = .returned (.bool true) ∧ W = w') := fun W g k1 k2 => by
    have h := areFrom_any (some ⟨g, 0, none⟩) 2 2 [lo, hi] 1 24 W (lit2 _ _ _ _ k1 k2) (by omega)
    rw [show fromB 1 24 [lo, hi] = true by rw [from_both]; exact h1] at h
    exact h
  have CA1 : Hid (∀ W g, W.cell? ⟨g, 0, none⟩ = some (.int .i64 st) → Calls Tryd.prog 48 #[.int .i64 1, .int .i64 40, .slice (some ⟨g, 0, none⟩) 1 1] W fun e w' => e = .returned (.bool true) ∧ W = w') := fun W g k1 => by
    have h := areFrom_any (some ⟨g, 0, none⟩) 1 1 [st] 1 40 W (lit1 _ _ _ k1) (by omega)
    rw [show fromB 1 40 [st] = true by rw [fromB_one]; exact h2] at h
    exact h
  obtain ⟨⟨a1, a2⟩, a3, a4⟩ := h1
  obtain ⟨a5, a6⟩ := h2
  have h5 : ¬ hi < lo := by omega
  have h6 : 12 < hi - lo + 1 := by omega
  clear h3 h4
  clear hr hb0 hg
  go_enter Tryd.func13, Tryd.ntmps13
  go_wp2_with fail
  refine CI.out.mono ?_
  rintro e w1 ⟨rfl, hb1⟩
  have HB1 : Hid (Below w.heap.size w w1) := HB0.out.trans (hb1.mono HB0.out.size)
  have HNI1 := Lib.hid (HNI.out.later hb1)
  have HNV1 := Lib.hid (HNV.out.later hb1)
  have hz1 : w.heap.size + 2 ≤ w1.heap.size := by have := hb1.size; simp at this; omega
  have i0 : w1.cell? ⟨w.heap.size, 0, none⟩ = some (.slice A n c) := by rw [HNI1.out.cell]; rfl
  have v0 : w1.cell? ⟨w.heap.size + 1, 0, none⟩ = some (.int .i64 cx) := by rw [HNV1.out.cell]; rfl
  have v1 : w1.cell? ⟨w.heap.size + 1, 1, none⟩ = some (.int .i64 cy) := by rw [HNV1.out.cell]; rfl
  have v2 : w1.cell? ⟨w.heap.size + 1, 2, none⟩ = some (.int .i64 lo) := by rw [HNV1.out.cell]; rfl
  have v3 : w1.cell? ⟨w.heap.size + 1, 3, none⟩ = some (.int .i64 hi) := by rw [HNV1.out.cell]; rfl
  have v4 : w1.cell? ⟨w.heap.size + 1, 4, none⟩ = some (.int .i64 st) := by rw [HNV1.out.cell]; rfl
  have x4 := cellA (.cells #[.int .i64 lo, .int .i64 hi] 3) v4
  have y4 := cellA (.cells #[.int .i64 st] 3) x4
  have yi := cellA (.cells #[.int .i64 st] 3) (cellA (.cells #[.int .i64 lo, .int .i64 hi] 3) i0)
  have y0 := cellA (.cells #[.int .i64 st] 3) (cellA (.cells #[.int .i64 lo, .int .i64 hi] 3) v0)
  have y1 := cellA (.cells #[.int .i64 st] 3) (cellA (.cells #[.int .i64 lo, .int .i64 hi] 3) v1)
  have y2 := cellA (.cells #[.int .i64 st] 3) (cellA (.cells #[.int .i64 lo, .int .i64 hi] 3) v2)
  have y3 := cellA (.cells #[.int .i64 st] 3) (cellA (.cells #[.int .i64 lo, .int .i64 hi] 3) v3)
  clear hb1 CI HNI HNV HB0
  go_wp2_with fail
  refine (CA2.out _ _ (by simp [go_sem]) (by simp [go_sem])).mono ?_
  rintro e w' ⟨rfl, rfl⟩
  go_wp2_with fail
  refine (CA1.out _ _ ?_).mono ?_
  · simp [go_sem]
  rintro e w' ⟨rfl, rfl⟩
  go_wp2
  go_ret2
  exact ResG.none_ ((HB1.out.alloc (by omega) _).alloc (by simp; omega) _)

set_option maxRecDepth 100000 in
set_option maxHeartbeats 2000000 in
theorem un_break (ad : Addr) (n c m c' : Nat) (B : Option Addr) (rows : List (List Int)) (cx cy lo hi st : Int) (w : World) (hr : RdG w (some ad) n rows) (hn : 0 < n ∧ n ≤ 24) (hm : 0 < m ∧ m ≤ 24) (hck : CellAt w ad (.slice B m c')) (hlm : (rows.getD 0 []).length = m) (hg : gridE 24 24 rows = 0) (h1 : (1 ≤ lo ∧ lo ≤ 24) ∧ 1 ≤ hi ∧ hi ≤ 24) (h2 : 1 ≤ st ∧ st ≤ 40) (h3 : lo ≤ hi) (h4 : hi - lo + 1 ≤ 12) (hhb : hasB rows cx cy hi = false) :
    Calls Tryd.prog 13 #[.agg #[.slice (some ad) n c], .agg #[.int .i64 cx, .int .i64 cy, .int .i64 lo, .int .i64 hi, .int .i64 st]] w (ResG w 23 []) := by
  have hb0 : Below w.heap.size w ((w.alloc (.cells #[.slice (some ad) n c] 24)).alloc (.cells #[.int .i64 cx, .int .i64 cy, .int .i64 lo, .int .i64 hi, .int .i64 st] 30)) := ((Below.refl _ w).alloc (Nat.le_refl _) _).alloc (by simp) _
  have HNI : Hid (Bk ((w.alloc (.cells #[.slice (some ad) n c] 24)).alloc (.cells #[.int .i64 cx, .int .i64 cy, .int .i64 lo, .int .i64 hi, .int .i64 st] 30)) w.heap.size 24 #[.slice (some ad) n c]) := (Bk.new w 24 #[.slice (some ad) n c]).alloc _
  have HNV : Hid (Bk ((w.alloc (.cells #[.slice (some ad) n c] 24)).alloc (.cells #[.int .i64 cx, .int .i64 cy, .int .i64 lo, .int .i64 hi, .int .i64 st] 30)) (w.heap.size + 1) 30 #[.int .i64 cx, .int .i64 cy, .int .i64 lo, .int .i64 hi, .int .i64 st]) := by
    have := Bk.new (w.alloc (.cells #[.slice (some ad) n c] 24)) 30 #[.int .i64 cx, .int .i64 cy, .int .i64 lo, .int .i64 hi, .int .i64 st]
    show Bk _ _ _ _
    simpa using this
  have HB0 := Lib.hid hb0
  have CI := Lib.hid (checkImage_any (some ad) n c rows _ (hr.below hb0) (by omega))
  rw [hg] at CI
  have CA2 : Hid (∀ W g, W.cell? ⟨g, 0, none⟩ = some (.int .i64 lo) → W.cell? ⟨g, 1, none⟩ = some (.int .i64 hi) → Calls Tryd.prog 48 #[.int .i64 1, .int .i64 24, .slice (some ⟨g, 0, none⟩) 2 2] W fun e w' => e = .returned (.bool true) ∧ W = w') := fun W g k1 k2 => by
    have h := areFrom_any (some ⟨g, 0, none⟩) 2 2 [lo, hi] 1 24 W (lit2 _ _ _ _ k1 k2) (by omega)
    rw [show fromB 1 24 [lo, hi] = true by rw [from_both]; exact h1] at h
    exact h
  have CA1 : Hid (∀ W g, W.cell? ⟨g, 0, none⟩ = some (.int .i64 st) → Calls Tryd.prog 48 #[.int .i64 1, .int .i64 40, .slice (some ⟨g, 0, none⟩) 1 1] W fun e w' => e = .returned (.bool true) ∧ W = w') := fun W g k1 => by
    have h := areFrom_any (some ⟨g, 0, none⟩) 1 1 [st] 1 40 W (lit1 _ _ _ k1) (by omega)
    rw [show fromB 1 40 [st] = true by rw [fromB_one]; exact h2] at h
    exact h
  have CH : Hid (∀ W, CellAt W ad (.slice B m c') → Calls Tryd.prog 49 #[.agg #[.slice (some ad) n c], .agg #[.int .i64 cx, .int .i64 cy], .int .i64 hi] W fun e w' => e = .returned (.bool false) ∧ Below W.heap.size W w') := fun W h => by
    have h' := hasRing_any ad n c m c' B rows cx cy hi W h hn hm (by omega) hr.1 hlm
    rw [hhb] at h'
    exact h'
  have HCK := Lib.hid (hck.below hb0)
  obtain ⟨⟨a1, a2⟩, a3, a4⟩ := h1
  obtain ⟨a5, a6⟩ := h2
  have h5 : ¬ hi < lo := by omega
  have h6 : ¬ 12 < hi - lo + 1 := by omega
  clear hr hb0 hg h3 h4 hck hlm
  go_enter Tryd.func13, Tryd.ntmps13
  go_wp2_with fail
  refine CI.out.mono ?_
  rintro e w1 ⟨rfl, hb1⟩
  have HB1 : Hid (Below w.heap.size w w1) := HB0.out.trans (hb1.mono HB0.out.size)
  have HNI1 := Lib.hid (HNI.out.later hb1)
  have HNV1 := Lib.hid (HNV.out.later hb1)
  have hz1 : w.heap.size + 2 ≤ w1.heap.size := by have := hb1.size; simp at this; omega
  have i0 : w1.cell? ⟨w.heap.size, 0, none⟩ = some (.slice (some ad) n c) := by rw [HNI1.out.cell]; rfl
  have v0 : w1.cell? ⟨w.heap.size + 1, 0, none⟩ = some (.int .i64 cx) := by rw [HNV1.out.cell]; rfl
  have v1 : w1.cell? ⟨w.heap.size + 1, 1, none⟩ = some (.int .i64 cy) := by rw [HNV1.out.cell]; rfl
  have v2 : w1.cell? ⟨w.heap.size + 1, 2, none⟩ = some (.int .i64 lo) := by rw [HNV1.out.cell]; rfl
  have v3 : w1.cell? ⟨w.heap.size + 1, 3, none⟩ = some (.int .i64 hi) := by rw [HNV1.out.cell]; rfl
  have v4 : w1.cell? ⟨w.heap.size + 1, 4, none⟩ = some (.int .i64 st) := by rw [HNV1.out.cell]; rfl
  have x4 := cellA (.cells #[.int .i64 lo, .int .i64 hi] 3) v4
  have y4 := cellA (.cells #[.int .i64 st] 3) x4
  have yi := cellA (.cells #[.int .i64 st] 3) (cellA (.cells #[.int .i64 lo, .int .i64 hi] 3) i0)
  have y0 := cellA (.cells #[.int .i64 st] 3) (cellA (.cells #[.int .i64 lo, .int .i64 hi] 3) v0)
  have y1 := cellA (.cells #[.int .i64 st] 3) (cellA (.cells #[.int .i64 lo, .int .i64 hi] 3) v1)
  have y2 := cellA (.cells #[.int .i64 st] 3) (cellA (.cells #[.int .i64 lo, .int .i64 hi] 3) v2)
  have y3 := cellA (.cells #[.int .i64 st] 3) (cellA (.cells #[.int .i64 lo, .int .i64 hi] 3) v3)
  go_wp2_with fail
  refine (CA2.out _ _ (by simp [go_sem]) (by simp [go_sem])).mono ?_
  rintro e w' ⟨rfl, rfl⟩
  go_wp2_with fail
  refine (CA1.out _ _ ?_).mono ?_
  · simp [go_sem]
  rintro e w' ⟨rfl, rfl⟩
  have HCK2 := Lib.hid ((HCK.out.below hb1).below (((Below.refl _ w1).alloc (Nat.le_refl _) (.cells #[.int .i64 lo, .int .i64 hi] 3)).alloc (by simp) (.cells #[.int .i64 st] 3)))
  clear hb1 CI HNI HNV HB0
  go_wp2_with fail
  refine (CH.out _ HCK2.out).mono ?_
  rintro e w3 ⟨rfl, hb3⟩
  have HB2 : Hid (Below w.heap.size w ((w1.alloc (.cells #[.int .i64 lo, .int .i64 hi] 3)).alloc (.cells #[.int .i64 st] 3))) := (HB1.out.alloc (by omega) _).alloc (by simp; omega) _
  have HB3 : Hid (Below w.heap.size w w3) := HB2.out.trans (hb3.mono HB2.out.size)
  clear hb3 CH HCK HCK2
  go_wp2
  go_ret2
  exact ResG.none_ HB3.out

end Go.Proofs.YtofdjapbofagiaaDoor

namespace Go.Proofs.YtofdjapbofagiaaDoor
open Go.RowKit

theorem own_pts {w : World} {base n : Nat} {v : Value} {ps : List (Int × Int)} (h : w.ownsRow base 26 2 v n (pairCells ps)) (hl : ps.length = n) (h0 : 0 < n) : ∃ c g, v = .slice (some ⟨g, 0, none⟩) n c ∧ RdR w g n ps := by
  obtain ⟨A, c, rfl, hf⟩ := own_form h
  obtain ⟨g, rfl⟩ := hf h0
  exact ⟨c, g, rfl, rdR_of_own h hl⟩
theorem RdI.ofOwnN {w : World} {base : Nat} {v : Value} {n : Nat} {xs : List Int} (h : w.ownsRow base 3 1 v n (xs.map (Value.int .i64))) : ∃ A c, v = .slice A n c ∧ RdI w A n xs ∧ (A = none → n = 0 ∧ c = 0) := by
  obtain ⟨A, c, e, _, hr, hn⟩ := rd_ownN h
  exact ⟨A, c, e, hr, hn⟩

set_option maxRecDepth 100000 in
set_option maxHeartbeats 1000000 in
theorem refRingOf_range (A : Option Addr) (n c : Nat) (cx cy r : Int) (w : World) (h1 : ¬ (1 ≤ r ∧ r ≤ 24)) :
    Calls Tryd.prog 15 #[.agg #[.slice A n c], .agg #[.int .i64 cx, .int .i64 cy], .int .i64 r] w (OwnRes w 2 []) := by
  have hb0 : Below w.heap.size w ((w.alloc (.cells #[.slice A n c] 24)).alloc (.cells #[.int .i64 cx, .int .i64 cy] 26)) := ((Below.refl _ w).alloc (Nat.le_refl _) _).alloc (by simp) _
  have HB0 := Lib.hid hb0
  have CR : Hid (∀ W, Calls Tryd.prog 30 #[.int .i64 r, .int .i64 1, .int .i64 24] W fun e w' => e = .returned (.bool false) ∧ W = w') := fun W => by
    have h := within_any r 1 24 W
    rw [show fromB 1 24 [r] = false by rw [Bool.eq_false_iff]; intro e; exact h1 (fromB_one.1 e)] at h
    exact h
  clear hb0 h1
  go_enter Tryd.func15, Tryd.ntmps15
  go_wp2_with (go_at_call 30; refine (CR.out _).mono ?_; rintro e w' ⟨rfl, rfl⟩)
  go_ret2
  exact OwnRes.none_ HB0.out

set_option maxRecDepth 100000 in
set_option maxHeartbeats 1000000 in
theorem refRingOf_far (A : Option Addr) (n c : Nat) (cx cy r : Int) (w : World) (h1 : 1 ≤ r ∧ r ≤ 24) (h2 : ¬ ((0 ≤ cx ∧ cx ≤ 24) ∧ 0 ≤ cy ∧ cy ≤ 24)) :
    Calls Tryd.prog 15 #[.agg #[.slice A n c], .agg #[.int .i64 cx, .int .i64 cy], .int .i64 r] w (OwnRes w 23 []) := by
  have hb0 : Below w.heap.size w ((w.alloc (.cells #[.slice A n c] 24)).alloc (.cells #[.int .i64 cx, .int .i64 cy] 26)) := ((Below.refl _ w).alloc (Nat.le_refl _) _).alloc (by simp) _
  have HB0 := Lib.hid hb0
  have CR : Hid (∀ W, Calls Tryd.prog 30 #[.int .i64 r, .int .i64 1, .int .i64 24] W fun e w' => e = .returned (.bool true) ∧ W = w') := fun W => by
    have h := within_any r 1 24 W
    rw [show fromB 1 24 [r] = true by rw [fromB_one]; exact h1] at h
    exact h
  by_cases hx : 0 ≤ cx ∧ cx ≤ 24
  · have hy : ¬ (0 ≤ cy ∧ cy ≤ 24) := fun h => h2 ⟨hx, h⟩
    have CX : Hid (∀ W, Calls Tryd.prog 30 #[.int .i64 cx, .int .i64 0, .int .i64 24] W fun e w' => e = .returned (.bool true) ∧ W = w') := fun W => by
      have h := within_any cx 0 24 W
      rw [show fromB 0 24 [cx] = true by rw [fromB_one]; exact hx] at h
      exact h
    have CY : Hid (∀ W, Calls Tryd.prog 30 #[.int .i64 cy, .int .i64 0, .int .i64 24] W fun e w' => e = .returned (.bool false) ∧ W = w') := fun W => by
      have h := within_any cy 0 24 W
      rw [show fromB 0 24 [cy] = false by rw [Bool.eq_false_iff]; intro e; exact hy (fromB_one.1 e)] at h
      exact h
    clear hb0 h1 h2 hx hy
    go_enter Tryd.func15, Tryd.ntmps15
    go_wp2_with fail
    refine (CR.out _).mono ?_
    rintro e w' ⟨rfl, rfl⟩
    go_wp2_with fail
    refine (CX.out _).mono ?_
    rintro e w' ⟨rfl, rfl⟩
    go_wp2_with fail
    refine (CY.out _).mono ?_
    rintro e w' ⟨rfl, rfl⟩
    go_wp2
    go_ret2
    exact OwnRes.none_ HB0.out
  · have CX : Hid (∀ W, Calls Tryd.prog 30 #[.int .i64 cx, .int .i64 0, .int .i64 24] W fun e w' => e = .returned (.bool false) ∧ W = w') := fun W => by
      have h := within_any cx 0 24 W
      rw [show fromB 0 24 [cx] = false by rw [Bool.eq_false_iff]; intro e; exact hx (fromB_one.1 e)] at h
      exact h
    clear hb0 h1 h2 hx
    go_enter Tryd.func15, Tryd.ntmps15
    go_wp2_with fail
    refine (CR.out _).mono ?_
    rintro e w' ⟨rfl, rfl⟩
    go_wp2_with fail
    refine (CX.out _).mono ?_
    rintro e w' ⟨rfl, rfl⟩
    go_wp2
    go_ret2
    exact OwnRes.none_ HB0.out

set_option maxRecDepth 100000 in
set_option maxHeartbeats 8000000 in
theorem refRingOf_in (ad : Addr) (n c m c' : Nat) (B : Option Addr) (rows : List (List Int)) (cx cy : Int) (w : World) (hr : RdG w (some ad) n rows) (hn : 0 < n ∧ n ≤ 24) (hm : 0 < m ∧ m ≤ 24) (hadb : ad.block < w.heap.size) (hck : w.cell? ad = some (.slice B m c')) (hg : ∀ r ∈ rows, r.length = m ∧ ∀ x ∈ r, 0 ≤ x ∧ x ≤ 255) (q : Nat) (hq : 1 ≤ q ∧ q ≤ 24) (h2 : (0 ≤ cx ∧ cx ≤ 24) ∧ 0 ≤ cy ∧ cy ≤ 24) (E : Int) (L : List Int) (hE : firstF (ptF n m cx cy (refRing q)) (refRing q).length = E) (hL : (if E = 0 then rrL rows cx cy (refRing q) else []) = L) :
    Calls Tryd.prog 15 #[.agg #[.slice (some ad) n c], .agg #[.int .i64 cx, .int .i64 cy], .int .i64 (q : Int)] w (OwnRes w E L) := by
  have hb0 : Below w.heap.size w ((w.alloc (.cells #[.slice (some ad) n c] 24)).alloc (.cells #[.int .i64 cx, .int .i64 cy] 26)) := ((Below.refl _ w).alloc (Nat.le_refl _) _).alloc (by simp) _
  have HB0 := Lib.hid hb0
  have HR := Lib.hid (hr.below hb0)
  have HGB := Lib.hid hg
  have HCK : Hid (CellAt ((w.alloc (.cells #[.slice (some ad) n c] 24)).alloc (.cells #[.int .i64 cx, .int .i64 cy] 26)) ad (.slice B m c')) := CellAt.below (w := w) ⟨hadb, hck⟩ hb0
  have HNI : Hid (Bk ((w.alloc (.cells #[.slice (some ad) n c] 24)).alloc (.cells #[.int .i64 cx, .int .i64 cy] 26)) w.heap.size 24 #[.slice (some ad) n c]) := (Bk.new w 24 #[.slice (some ad) n c]).alloc _
  have HNP : Hid (Bk ((w.alloc (.cells #[.slice (some ad) n c] 24)).alloc (.cells #[.int .i64 cx, .int .i64 cy] 26)) (w.heap.size + 1) 26 #[.int .i64 cx, .int .i64 cy]) := by
    have := Bk.new (w.alloc (.cells #[.slice (some ad) n c] 24)) 26 #[.int .i64 cx, .int .i64 cy]
    show Bk _ _ _ _
    simpa using this
  have CRG := Lib.hid (refRing_any q ((w.alloc (.cells #[.slice (some ad) n c] 24)).alloc (.cells #[.int .i64 cx, .int .i64 cy] 26)) (by omega) (by omega))
  have hqI : 1 ≤ (q : Int) ∧ (q : Int) ≤ 24 := by omega
  have CR : Hid (∀ W, Calls Tryd.prog 30 #[.int .i64 (q : Int), .int .i64 1, .int .i64 24] W fun e w' => e = .returned (.bool true) ∧ W = w') := fun W => by
    have h := within_any (q : Int) 1 24 W
    rw [show fromB 1 24 [(q : Int)] = true by rw [fromB_one]; exact hqI] at h
    exact h
  have CX : Hid (∀ W, Calls Tryd.prog 30 #[.int .i64 cx, .int .i64 0, .int .i64 24] W fun e w' => e = .returned (.bool true) ∧ W = w') := fun W => by
    have h := within_any cx 0 24 W
    rw [show fromB 0 24 [cx] = true by rw [fromB_one]; exact h2.1] at h
    exact h
  have CY : Hid (∀ W, Calls Tryd.prog 30 #[.int .i64 cy, .int .i64 0, .int .i64 24] W fun e w' => e = .returned (.bool true) ∧ W = w') := fun W => by
    have h := within_any cy 0 24 W
    rw [show fromB 0 24 [cy] = true by rw [fromB_one]; exact h2.2] at h
    exact h
  obtain ⟨i0, hi0, hz0, hz1, hz2⟩ := info_parts intInfo'
  obtain ⟨ps, hps⟩ : ∃ ps, refRing q = ps := ⟨_, rfl⟩
  have hpb : ∀ p ∈ ps, -24 ≤ p.1 ∧ p.1 ≤ 24 ∧ -24 ≤ p.2 ∧ p.2 ≤ 24 := fun p hp => by
    rw [← hps] at hp
    have := ring_bd (by omega) hp
    omega
  have hln : ps.length = 8 * q := by
    obtain ⟨q', rfl⟩ : ∃ q', q = q' + 1 := ⟨q - 1, by omega⟩
    rw [← hps, refRing_same, ring_size]
  rw [hps] at hE hL CRG
  obtain ⟨ln, hlne⟩ : ∃ ln, ps.length = ln := ⟨_, rfl⟩
  have HLNE := Lib.hid hlne
  have HPB := Lib.hid hpb
  have HE0 := Lib.hid hE
  have HL0 := Lib.hid hL
  rw [hlne] at hln
  have hlb : 0 < ln ∧ ln ≤ 192 := by omega
  obtain ⟨hl0, hl192⟩ := hlb
  obtain ⟨⟨hx0, hx1⟩, hy0, hy1⟩ := h2
  have hnb : n ≤ 24 := hn.2
  have hmb : m ≤ 24 := hm.2
  have hn0 : 0 < n := hn.1
  have hm0 : 0 < m := hm.1
  clear hr hb0 hg hck hadb hq hps hpb hln hlne hE hL hqI
  go_enter Tryd.func15, Tryd.ntmps15
  go_wp2_with fail
  refine (CR.out _).mono ?_
  rintro e w' ⟨rfl, rfl⟩
  go_wp2_with fail
  refine (CX.out _).mono ?_
  rintro e w' ⟨rfl, rfl⟩
  go_wp2_with fail
  refine (CY.out _).mono ?_
  rintro e w' ⟨rfl, rfl⟩
  go_wp2_with fail
  refine CRG.out.mono ?_
  rintro e W1 ⟨⟨v, rfl, ho⟩, hb1⟩
  rw [HLNE.out] at ho
  obtain ⟨cr, gr, rfl, hrr⟩ := own_pts ho HLNE.out hl0
  have HRR := Lib.hid hrr
  have HR1 := Lib.hid (HR.out.below hb1)
  have HCK1 := Lib.hid (HCK.out.below hb1)
  have HNI1 := Lib.hid (HNI.out.later hb1)
  have HNP1 := Lib.hid (HNP.out.later hb1)
  have HB2 : Hid (Below w.heap.size w W1) := HB0.out.trans (hb1.mono HB0.out.size)
  clear ho hb1 hrr CRG CR CX CY HR HCK HNI HNP HB0
  obtain ⟨gi, hgi⟩ : ∃ g, w.heap.size = g := ⟨_, rfl⟩
  obtain ⟨gp, hgp⟩ : ∃ g, gi + 1 = g := ⟨_, rfl⟩
  have HGI := Lib.hid hgi
  rw [hgi] at HNI1 HNP1
  rw [hgp] at HNP1
  go_wp2
  try rw [hgi]
  try rw [hgp]
  clear hgi
  go_loopw [8, 10] (fun v i wr => ∃ j : Nat, j ≤ ln ∧ i = .int .i64 j ∧ Hid (firstF (ptF n m cx cy ps) j = 0) ∧ Hid (wr.ownsRow W1.heap.size 3 1 v j ((rrL rows cx cy (ps.take j)).map (Value.int .i64)) ∧ Below W1.heap.size W1 wr)) (fun _ i _ => ln - (intOf i).toNat)
  case atStart => exact ⟨0, Nat.zero_le _, rfl, rfl, World.ownsRow_nil _ _ _ _, Below.refl _ _⟩
  case round =>
    obtain ⟨j, hj, rfl, HF, HI⟩ := hrel
    obtain ⟨Ac, cap, rfl, _⟩ := own_form HI.out.1
    by_cases hlt : j < ln
    · have hjI : (j : Int) < (ln : Int) := by omega
      have hj0 : (0 : Int) ≤ (j : Int) := by omega
      have n0 : wr.cell? ⟨gp, 0, none⟩ = some (.int .i64 cx) := by rw [(HNP1.out.later HI.out.2).cell]; rfl
      have n1 : wr.cell? ⟨gp, 1, none⟩ = some (.int .i64 cy) := by rw [(HNP1.out.later HI.out.2).cell]; rfl
      obtain ⟨r1, r2⟩ := (HRR.out.below HI.out.2).2.2 j hlt
      have hpj := HPB.out _ (getD_mem2 (by rw [HLNE.out]; exact hlt))
      have HTK : Hid (ps.take (j + 1) = ps.take j ++ [ps.getD j (0, 0)]) := by
        show _ = _
        rw [List.take_succ_eq_append_getElem (by rw [HLNE.out]; exact hlt)]
        simp [List.getD_eq_getElem?_getD, List.getElem?_eq_getElem (show j < ps.length by rw [HLNE.out]; exact hlt)]
      have HPT : Hid (ptF n m cx cy ps j = if ptIn n m cx cy (ps.getD j (0, 0)) then 0 else 23) := rfl
      obtain ⟨⟨px, py⟩, hpe⟩ : ∃ p, ps.getD j (0, 0) = p := ⟨_, rfl⟩
      rw [hpe] at r1 r2 hpj HTK HPT
      dsimp only at r1 r2 hpj
      obtain ⟨X, hX⟩ : ∃ X, cx + px = X := ⟨_, rfl⟩
      obtain ⟨Y, hY⟩ : ∃ Y, cy + py = Y := ⟨_, rfl⟩
      have hwX : IntKind.i64.wrap (cx + px) = X := by rw [hX]; exact IntWalk.i64_in _ (by omega)
      have hwY : IntKind.i64.wrap (cy + py) = Y := by rw [hY]; exact IntWalk.i64_in _ (by omega)
      have HPI : Hid (ptIn n m cx cy (px, py) ↔ (0 ≤ Y ∧ Y ≤ (n : Int) - 1) ∧ 0 ≤ X ∧ X ≤ (m : Int) - 1) := by show _ ↔ _; unfold ptIn; rw [hX, hY]
      have HXE : Hid (cx + px = X ∧ cy + py = Y) := ⟨hX, hY⟩
      have HS0 : Hid ((fun w' : World => w'.cell? ⟨gp, 0, none⟩ = some (.int .i64 cx) ∧ w'.cell? ⟨gp, 1, none⟩ = some (.int .i64 cy) ∧ w'.cell? ⟨gr, j * 2, none⟩ = some (.int .i64 px) ∧ w'.cell? ⟨gr, j * 2 + 1, none⟩ = some (.int .i64 py) ∧ Below W1.heap.size W1 w') wr.drew) := ⟨n0, n1, r1, r2, HI.out.2.drew⟩
      clear hpe hX hY n0 n1 r1 r2
      go_wp2
      refine wp_region_held_drew (S := (fun w' : World => w'.cell? ⟨gp, 0, none⟩ = some (.int .i64 cx) ∧ w'.cell? ⟨gp, 1, none⟩ = some (.int .i64 cy) ∧ w'.cell? ⟨gr, j * 2, none⟩ = some (.int .i64 px) ∧ w'.cell? ⟨gr, j * 2 + 1, none⟩ = some (.int .i64 py) ∧ Below W1.heap.size W1 w')) (by kernel_rfl) ?_ ?_
      · exact HS0.out
      intro hHeld
      refine wpAnyH_take (i := 0) (v := ?_) rfl (by kernel_rfl) (by kernel_rfl) (by kernel_rfl) (fun _ _ _ h => h) (Or.inl ⟨by rfl, ?_⟩) (by assumption) ?_
      rotate_left
      · intro w hSw; (try dsimp only at hSw); go_simp; (try (with_reducible rfl))
      try simp only [List.getElem_toArray, List.getElem_cons_succ, List.getElem_cons_zero, Act.put, List.setIfInBounds_toArray, List.set_cons_zero, List.set_cons_succ]
      refine wpAnyH_take (i := 1) (v := ?_) rfl (by kernel_rfl) (by kernel_rfl) (by kernel_rfl) (fun _ _ _ h => h) (Or.inl ⟨by rfl, ?_⟩) (by assumption) ?_
      rotate_left
      · intro w hSw; (try dsimp only at hSw); go_simp; (try (with_reducible rfl))
      try simp only [List.getElem_toArray, List.getElem_cons_succ, List.getElem_cons_zero, Act.put, List.setIfInBounds_toArray, List.set_cons_zero, List.set_cons_succ]
      refine wpAnyH_take (i := 2) (v := ?_) rfl (by kernel_rfl) (by kernel_rfl) (by kernel_rfl) (fun _ _ _ h => h) (Or.inl ⟨by rfl, ?_⟩) (by assumption) ?_
      rotate_left
      · intro w hSw; (try dsimp only at hSw); go_simp; (try (with_reducible rfl))
      try simp only [List.getElem_toArray, List.getElem_cons_succ, List.getElem_cons_zero, Act.put, List.setIfInBounds_toArray, List.set_cons_zero, List.set_cons_succ]
      refine wpAnyH_take (i := 3) (v := ?_) rfl (by kernel_rfl) (by kernel_rfl) (by kernel_rfl) (fun _ _ _ h => h) (Or.inl ⟨by rfl, ?_⟩) (by assumption) ?_
      rotate_left
      · intro w hSw; (try dsimp only at hSw); go_simp; (try (with_reducible rfl))
      try simp only [List.getElem_toArray, List.getElem_cons_succ, List.getElem_cons_zero, Act.put, List.setIfInBounds_toArray, List.set_cons_zero, List.set_cons_succ]
      refine wpAnyH_take (i := 4) (v := ?_) rfl (by kernel_rfl) (by kernel_rfl) (by kernel_rfl) (fun _ _ _ h => h) (Or.inl ⟨by rfl, ?_⟩) (by assumption) ?_
      rotate_left
      · intro w hSw; (try dsimp only at hSw); go_simp; (try (with_reducible rfl))
      try simp only [List.getElem_toArray, List.getElem_cons_succ, List.getElem_cons_zero, Act.put, List.setIfInBounds_toArray, List.set_cons_zero, List.set_cons_succ]
      refine wpAnyH_take (i := 5) (v := ?_) rfl (by kernel_rfl) (by kernel_rfl) (by kernel_rfl) (fun _ _ _ h => h) (Or.inl ⟨by rfl, ?_⟩) (by assumption) ?_
      rotate_left
      · intro w hSw; (try dsimp only at hSw); go_simp; (try (with_reducible rfl))
      try simp only [List.getElem_toArray, List.getElem_cons_succ, List.getElem_cons_zero, Act.put, List.setIfInBounds_toArray, List.set_cons_zero, List.set_cons_succ]
      refine wpAnyH_take (i := 6) (v := ?_) rfl (by kernel_rfl) (by kernel_rfl) (by kernel_rfl) (fun _ _ _ h => h) (Or.inl ⟨by rfl, ?_⟩) (by assumption) ?_
      rotate_left
      · intro w hSw; (try dsimp only at hSw); go_simp; (try (with_reducible rfl))
      try simp only [List.getElem_toArray, List.getElem_cons_succ, List.getElem_cons_zero, Act.put, List.setIfInBounds_toArray, List.set_cons_zero, List.set_cons_succ]
      refine wpAnyH_take (i := 7) (v := ?_) rfl (by kernel_rfl) (by kernel_rfl) (by kernel_rfl) (fun _ _ _ h => h) (Or.inl ⟨by rfl, ?_⟩) (by assumption) ?_
      rotate_left
      · intro w hSw; (try dsimp only at hSw); go_simp; (try (with_reducible rfl))
      try simp only [List.getElem_toArray, List.getElem_cons_succ, List.getElem_cons_zero, Act.put, List.setIfInBounds_toArray, List.set_cons_zero, List.set_cons_succ]
      refine wpAnyH_take (i := 8) (v := ?_) rfl (by kernel_rfl) (by kernel_rfl) (by kernel_rfl) (fun _ _ _ h => h) (Or.inl ⟨by rfl, ?_⟩) (by assumption) ?_
      rotate_left
      · intro w hSw; (try dsimp only at hSw); go_simp; (try (with_reducible rfl))
      try simp only [List.getElem_toArray, List.getElem_cons_succ, List.getElem_cons_zero, Act.put, List.setIfInBounds_toArray, List.set_cons_zero, List.set_cons_succ]
      refine wpAnyH_take (i := 9) (v := ?_) rfl (by kernel_rfl) (by kernel_rfl) (by kernel_rfl) (fun _ _ _ h => h) (Or.inl ⟨by rfl, ?_⟩) (by assumption) ?_
      rotate_left
      · intro w hSw; (try dsimp only at hSw); go_simp; (try (with_reducible rfl))
      try simp only [List.getElem_toArray, List.getElem_cons_succ, List.getElem_cons_zero, Act.put, List.setIfInBounds_toArray, List.set_cons_zero, List.set_cons_succ]
      refine wpAnyH_take (i := 10) (v := ?_) rfl (by kernel_rfl) (by kernel_rfl) (by kernel_rfl) (fun _ _ _ h => h) (Or.inl ⟨by rfl, ?_⟩) (by assumption) ?_
      rotate_left
      · intro w hSw; (try dsimp only at hSw); go_simp; (try (with_reducible rfl))
      try simp only [List.getElem_toArray, List.getElem_cons_succ, List.getElem_cons_zero, Act.put, List.setIfInBounds_toArray, List.set_cons_zero, List.set_cons_succ]
      refine wpAnyH_take (i := 11) (v := ?_) rfl (by kernel_rfl) (by kernel_rfl) (by kernel_rfl) (fun _ _ _ h => h) (Or.inl ⟨by rfl, ?_⟩) (by assumption) ?_
      rotate_left
      · intro w hSw; (try dsimp only at hSw); go_simp; (try (with_reducible rfl))
      try simp only [List.getElem_toArray, List.getElem_cons_succ, List.getElem_cons_zero, Act.put, List.setIfInBounds_toArray, List.set_cons_zero, List.set_cons_succ]
      refine wpAnyH_take (i := 12) (v := ?_) rfl (by kernel_rfl) (by kernel_rfl) (by kernel_rfl) (fun _ _ _ h => h) (Or.inl ⟨by rfl, ?_⟩) (by assumption) ?_
      rotate_left
      · intro w hSw; (try dsimp only at hSw); go_simp; (try (with_reducible rfl))
      try simp only [List.getElem_toArray, List.getElem_cons_succ, List.getElem_cons_zero, Act.put, List.setIfInBounds_toArray, List.set_cons_zero, List.set_cons_succ]
      refine wpAnyH_take (i := 13) (v := ?_) rfl (by kernel_rfl) (by kernel_rfl) (by kernel_rfl) (fun _ _ _ h => h) (Or.inl ⟨by rfl, ?_⟩) (by assumption) ?_
      rotate_left
      · intro w hSw; (try dsimp only at hSw); go_simp; (try (with_reducible rfl))
      try simp only [List.getElem_toArray, List.getElem_cons_succ, List.getElem_cons_zero, Act.put, List.setIfInBounds_toArray, List.set_cons_zero, List.set_cons_succ]
      refine wpAnyH_take (i := 14) (v := ?_) rfl (by kernel_rfl) (by kernel_rfl) (by kernel_rfl) (fun _ _ _ h => h) (Or.inl ⟨by rfl, ?_⟩) (by assumption) ?_
      rotate_left
      · intro w hSw; (try dsimp only at hSw); go_simp; (try (with_reducible rfl))
      try simp only [List.getElem_toArray, List.getElem_cons_succ, List.getElem_cons_zero, Act.put, List.setIfInBounds_toArray, List.set_cons_zero, List.set_cons_succ]
      refine wpAnyH_take (i := 15) (v := ?_) rfl (by kernel_rfl) (by kernel_rfl) (by kernel_rfl) (fun _ _ _ h => h) (Or.inl ⟨by rfl, ?_⟩) (by assumption) ?_
      rotate_left
      · intro w hSw; (try dsimp only at hSw); go_simp; (try (with_reducible rfl))
      try simp only [List.getElem_toArray, List.getElem_cons_succ, List.getElem_cons_zero, Act.put, List.setIfInBounds_toArray, List.set_cons_zero, List.set_cons_succ]
      refine wpAnyH_take (i := 16) (v := ?_) rfl (by kernel_rfl) (by kernel_rfl) (by kernel_rfl) (fun _ _ _ h => h) (Or.inl ⟨by rfl, ?_⟩) (by assumption) ?_
      rotate_left
      · intro w hSw; (try dsimp only at hSw); go_simp; (try (with_reducible rfl))
      try simp only [List.getElem_toArray, List.getElem_cons_succ, List.getElem_cons_zero, Act.put, List.setIfInBounds_toArray, List.set_cons_zero, List.set_cons_succ]
      refine wpAnyH_take (i := 17) (v := ?_) rfl (by kernel_rfl) (by kernel_rfl) (by kernel_rfl) (fun _ _ _ h => h) (Or.inl ⟨by rfl, ?_⟩) (by assumption) ?_
      rotate_left
      · intro w hSw; (try dsimp only at hSw); go_simp; (try (with_reducible rfl))
      try simp only [List.getElem_toArray, List.getElem_cons_succ, List.getElem_cons_zero, Act.put, List.setIfInBounds_toArray, List.set_cons_zero, List.set_cons_succ]
      refine wpAnyH_done (by kernel_rfl) ?_ _
      clear hHeld HS0 hwX hwY
      have HI2 : Hid (wr.drew.ownsRow W1.heap.size 3 1 (.slice Ac j cap) j ((rrL rows cx cy (ps.take j)).map (Value.int .i64)) ∧ Below W1.heap.size W1 wr.drew) := ⟨HI.out.1.drew, HI.out.2.drew⟩
      obtain ⟨wd, hwd⟩ : ∃ W, wr.drew = W := ⟨_, rfl⟩
      rw [hwd] at HI2 ⊢
      clear hwd HI
      have hsz : W1.heap.size ≤ wd.heap.size := HI2.out.2.size
      have i1 : wd.cell? ⟨gi, 0, none⟩ = some (.slice (some ad) n c) := by rw [(HNI1.out.later HI2.out.2).cell]; rfl
      have i2 : wd.cell? ad = some (.slice B m c') := (HCK1.out.below HI2.out.2).2
      have hnI : (0 : Int) < (n : Int) := by omega
      by_cases hyy : 0 ≤ Y ∧ Y ≤ (n : Int) - 1
      · by_cases hxx : 0 ≤ X ∧ X ≤ (m : Int) - 1
        · have HF2 : Hid (firstF (ptF n m cx cy ps) (j + 1) = 0) := by
            show _ = _
            rw [firstF_step HF.out, HPT.out, if_pos (HPI.out.2 ⟨hyy, hxx⟩)]
          have CWY : Hid (∀ W, Calls Tryd.prog 30 #[.int .i64 Y, .int .i64 0, .int .i64 ((n : Int) - 1)] W fun e w' => e = .returned (.bool true) ∧ W = w') := fun W => by
            have h := within_any Y 0 ((n : Int) - 1) W
            rw [show fromB 0 ((n : Int) - 1) [Y] = true by rw [fromB_one]; exact hyy] at h
            exact h
          have CWX : Hid (∀ W, Calls Tryd.prog 30 #[.int .i64 X, .int .i64 0, .int .i64 ((m : Int) - 1)] W fun e w' => e = .returned (.bool true) ∧ W = w') := fun W => by
            have h := within_any X 0 ((m : Int) - 1) W
            rw [show fromB 0 ((m : Int) - 1) [X] = true by rw [fromB_one]; exact hxx] at h
            exact h
          obtain ⟨ty, rfl⟩ : ∃ t : Nat, Y = (t : Int) := ⟨Y.toNat, by omega⟩
          obtain ⟨tx, rfl⟩ : ∃ t : Nat, X = (t : Int) := ⟨X.toNat, by omega⟩
          obtain ⟨bd, cb, k1, k2, hv0, hv1, _, _⟩ := grid_at (HR1.out.below HI2.out.2) HGB.out ty tx (by omega) (by omega)
          have HV : Hid (pix rows (cx + px, cy + py) = (rows.getD ty []).getD tx 0) := by show _ = _; rw [HXE.out.1, HXE.out.2]; rfl
          obtain ⟨z, hze⟩ : ∃ z, (rows.getD ty []).getD tx 0 = z := ⟨_, rfl⟩
          rw [hze] at k2 hv0 hv1 HV
          have ht1 : (ty : Int) < (n : Int) := by omega
          have ht2 : (tx : Int) < (m : Int) := by omega
          have ht3 : (0 : Int) ≤ (ty : Int) := by omega
          have ht4 : (0 : Int) ≤ (tx : Int) := by omega
          clear hze hyy hxx
          go_wp2_with fail
          refine (CWY.out _).mono ?_
          rintro e w' ⟨rfl, rfl⟩
          go_wp2_with fail
          refine (CWX.out _).mono ?_
          rintro e w' ⟨rfl, rfl⟩
          go_wp2_with (at_builtin; refine wpList_append_own _ rfl (.tmp 68) (.tmp 77) 38 rfl W1.heap.size 3 i0 _ 1 8 Tryd.underlying38 hi0 hz0 hz1 hz2 rfl (by decide) _ _ _ rfl (HI2.out.1.alloc _) ⟨wd.heap.size, 0, none⟩ 1 1 [.int .i64 z] rfl rfl (cell_one_new _ _ _) (by simp [Value.oneCell']) (by unfold maxLen; omega) (by omega) (by simp; omega) ?_)
          intro v' w4 hown' hgrow _
          have HFIN : Hid (w4.ownsRow W1.heap.size 3 1 v' (j + 1) ((rrL rows cx cy (ps.take (j + 1))).map (Value.int .i64)) ∧ Below W1.heap.size W1 w4) := by
            refine ⟨?_, (HI2.out.2.alloc HI2.out.2.size _).grown hgrow (by simp; omega) (fun z e => (HI2.out.1.lt z e).1)⟩
            have e1 : rrL rows cx cy (ps.take j ++ [(px, py)]) = rrL rows cx cy (ps.take j) ++ [pix rows (cx + px, cy + py)] := by simp [rrL]
            rw [HTK.out, e1, HV.out, List.map_append]
            exact hown'
          clear hown' hgrow
          go_wp2
          go_roundw
          case rel => exact ⟨j + 1, by omega, by go_num, HF2.out, HFIN.out⟩
          case measure => simp [intOf]; omega
        · have HE : Hid (E = 23 ∧ L = []) := by
            have h := firstF_stop HF.out (HPT.out.trans (if_neg (fun h => hxx (HPI.out.1 h).2))) (by decide) hlt
            rw [← HLNE.out, HE0.out] at h
            exact ⟨h, by rw [← HL0.out, if_neg (by omega)]⟩
          have CWY : Hid (∀ W, Calls Tryd.prog 30 #[.int .i64 Y, .int .i64 0, .int .i64 ((n : Int) - 1)] W fun e w' => e = .returned (.bool true) ∧ W = w') := fun W => by
            have h := within_any Y 0 ((n : Int) - 1) W
            rw [show fromB 0 ((n : Int) - 1) [Y] = true by rw [fromB_one]; exact hyy] at h
            exact h
          have CWX : Hid (∀ W, Calls Tryd.prog 30 #[.int .i64 X, .int .i64 0, .int .i64 ((m : Int) - 1)] W fun e w' => e = .returned (.bool false) ∧ W = w') := fun W => by
            have h := within_any X 0 ((m : Int) - 1) W
            rw [show fromB 0 ((m : Int) - 1) [X] = false by rw [Bool.eq_false_iff]; intro e; exact hxx (fromB_one.1 e)] at h
            exact h
          clear hyy hxx
          go_wp2_with fail
          refine (CWY.out _).mono ?_
          rintro e w' ⟨rfl, rfl⟩
          go_wp2_with fail
          refine (CWX.out _).mono ?_
          rintro e w' ⟨rfl, rfl⟩
          go_wp2
          go_ret2
          rw [HE.out.1, HE.out.2]
          exact OwnRes.none_ (HB2.out.trans (HI2.out.2.mono HB2.out.size))
      · have HE : Hid (E = 23 ∧ L = []) := by
          have h := firstF_stop HF.out (HPT.out.trans (if_neg (fun h => hyy (HPI.out.1 h).1))) (by decide) hlt
          rw [← HLNE.out, HE0.out] at h
          exact ⟨h, by rw [← HL0.out, if_neg (by omega)]⟩
        have CWY : Hid (∀ W, Calls Tryd.prog 30 #[.int .i64 Y, .int .i64 0, .int .i64 ((n : Int) - 1)] W fun e w' => e = .returned (.bool false) ∧ W = w') := fun W => by
          have h := within_any Y 0 ((n : Int) - 1) W
          rw [show fromB 0 ((n : Int) - 1) [Y] = false by rw [Bool.eq_false_iff]; intro e; exact hyy (fromB_one.1 e)] at h
          exact h
        clear hyy
        go_wp2_with fail
        refine (CWY.out _).mono ?_
        rintro e w' ⟨rfl, rfl⟩
        go_wp2
        go_ret2
        rw [HE.out.1, HE.out.2]
        exact OwnRes.none_ (HB2.out.trans (HI2.out.2.mono HB2.out.size))
    · obtain rfl : j = ln := by omega
      have HE : Hid (E = 0 ∧ L = rrL rows cx cy ps) := by
        have h := HF.out
        rw [← HLNE.out, HE0.out] at h
        exact ⟨h, by rw [← HL0.out, if_pos h]⟩
      have HT : Hid (ps.take j = ps) := by show _ = _; rw [List.take_of_length_le (by rw [HLNE.out]; exact Nat.le_refl _)]
      go_wp2
      go_ret2
      rw [HE.out.1, HE.out.2]
      refine ⟨⟨_, rfl, ?_⟩, HB2.out.trans (HI.out.2.mono HB2.out.size)⟩
      have h := ownMono HI.out.1 HB2.out.size
      rw [HT.out] at h
      rw [show (rrL rows cx cy ps).length = j by simp [rrL, HLNE.out]]
      exact h

theorem refRingOf_any (ad : Addr) (n c m c' : Nat) (B : Option Addr) (rows : List (List Int)) (cx cy : Int) (w : World) (hr : RdG w (some ad) n rows) (hn : 0 < n ∧ n ≤ 24) (hm : 0 < m ∧ m ≤ 24) (hadb : ad.block < w.heap.size) (hck : w.cell? ad = some (.slice B m c')) (hg : ∀ r ∈ rows, r.length = m ∧ ∀ x ∈ r, 0 ≤ x ∧ x ≤ 255) (r : Int) :
    Calls Tryd.prog 15 #[.agg #[.slice (some ad) n c], .agg #[.int .i64 cx, .int .i64 cy], .int .i64 r] w (OwnRes w (rrE n m cx cy r) (rrX rows n m cx cy r)) := by
  unfold rrX
  by_cases h1 : 1 ≤ r ∧ r ≤ 24
  · by_cases h2 : (0 ≤ cx ∧ cx ≤ 24) ∧ 0 ≤ cy ∧ cy ≤ 24
    · obtain ⟨q, rfl⟩ : ∃ q : Nat, r = (q : Int) := ⟨r.toNat, by omega⟩
      have e : rrE n m cx cy (q : Int) = firstF (ptF n m cx cy (refRing q)) (refRing q).length := by unfold rrE; rw [if_pos h1, if_pos h2, Int.toNat_natCast]
      rw [e, Int.toNat_natCast]
      exact refRingOf_in ad n c m c' B rows cx cy w hr hn hm hadb hck hg q (by omega) h2 _ _ rfl rfl
    · have e : rrE n m cx cy r = 23 := by unfold rrE; rw [if_pos h1, if_neg h2]
      rw [e, if_neg (by decide)]
      exact refRingOf_far (some ad) n c cx cy r w h1 h2
  · have e : rrE n m cx cy r = 2 := by unfold rrE; rw [if_neg h1]
    rw [e, if_neg (by decide)]
    exact refRingOf_range (some ad) n c cx cy r w h1

end Go.Proofs.YtofdjapbofagiaaDoor

