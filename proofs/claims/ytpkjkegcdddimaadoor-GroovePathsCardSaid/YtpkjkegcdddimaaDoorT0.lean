import Derived.Test.YtpkjkegcdddimaaDoorGV
namespace Go.Proofs.YtpkjkegcdddimaaDoor
open Go.RowKit

def turnsE1 : List (List Int) → Int
  | [] => 0
  | r :: rs => if turnErr r = 0 then turnsE1 rs else turnErr r
theorem turnsE1_step (rows : List (List Int)) (k : Nat) (hk : k < rows.length) :
    turnsE1 (rows.drop k) = if turnErr (rows.getD k []) = 0 then turnsE1 (rows.drop (k + 1)) else turnErr (rows.getD k []) := by
  rw [List.drop_eq_getElem_cons hk]
  simp only [turnsE1, List.getD_eq_getElem?_getD, List.getElem?_eq_getElem hk, Option.getD_some]
/-- The error of turns. -/
def turnsE (rows : List (List Int)) : Int := if 20 < rows.length then 8 else turnsE1 rows
theorem turnsE1_ok : ∀ {rows : List (List Int)}, turnsE1 rows = 0 → ∀ r ∈ rows, turnErr r = 0
  | [], _, r, hr => by cases hr
  | r0 :: rs, h, r, hr => by
    unfold turnsE1 at h
    by_cases h0 : turnErr r0 = 0
    · rw [if_pos h0] at h
      rcases List.mem_cons.1 hr with rfl | h1
      · exact h0
      · exact turnsE1_ok h r h1
    · rw [if_neg h0] at h; exact absurd h h0
theorem turnErr_ok {xs : List Int} (h : turnErr xs = 0) : Small xs ∧ 0 < xs.length ∧ xs.length ≤ 200 := by
  unfold turnErr at h
  by_cases hp : posE xs = 0
  · rw [if_pos hp] at h
    obtain ⟨hl, hs⟩ := pos_ok hp
    refine ⟨hs, ?_, hl⟩
    by_cases h0 : xs.length = 0
    · rw [if_pos h0] at h; omega
    · omega
  · rw [if_neg hp] at h; exact absurd h hp
theorem turnsE_ok {rows : List (List Int)} (h : turnsE rows = 0) : rows.length ≤ 20 ∧ ∀ k, k < rows.length → Small (rows.getD k []) ∧ 0 < (rows.getD k []).length ∧ (rows.getD k []).length ≤ 200 := by
  unfold turnsE at h
  by_cases h0 : 20 < rows.length
  · rw [if_pos h0] at h; omega
  · rw [if_neg h0] at h
    refine ⟨by omega, fun k hk => turnErr_ok (turnsE1_ok h _ ?_)⟩
    rw [List.getD_eq_getElem?_getD, List.getElem?_eq_getElem hk]
    exact List.getElem_mem hk

/-- The breaks between turns. -/
def brkD (rows : List (List Int)) (i : Nat) : Int := (rows.getD i []).getD 0 0 - (rows.getD (i - 1) []).getD ((rows.getD (i - 1) []).length - 1) 0
def brkB (rows : List (List Int)) (limit : Int) (i : Nat) : Bool := !fromB (-limit) limit [brkD rows i]
def brkTo (rows : List (List Int)) (limit : Int) : Nat → List Int
  | 0 => []
  | k + 1 => if k ≠ 0 ∧ brkB rows limit k = true then brkTo rows limit k ++ [(k : Int)] else brkTo rows limit k
def brkE (rows : List (List Int)) (limit : Int) : Int := if turnsE rows = 0 then limE limit else turnsE rows
def brkL (rows : List (List Int)) (limit : Int) : List Int := if brkE rows limit = 0 then brkTo rows limit rows.length else []
theorem brkTo_length (rows : List (List Int)) (limit : Int) : ∀ k, (brkTo rows limit k).length ≤ k
  | 0 => Nat.le_refl _
  | k + 1 => by
    have := brkTo_length rows limit k
    unfold brkTo
    split
    · rw [List.length_append]; simp; omega
    · omega
theorem brkTo_step (rows : List (List Int)) (limit : Int) (q : Nat) : brkTo rows limit (q + 1 + 1) = if brkB rows limit (q + 1) = true then brkTo rows limit (q + 1) ++ [((q + 1 : Nat) : Int)] else brkTo rows limit (q + 1) := by
  show (if (q + 1) ≠ 0 ∧ brkB rows limit (q + 1) = true then _ else _) = _
  by_cases h : brkB rows limit (q + 1) = true
  · rw [if_pos ⟨by omega, h⟩, if_pos h]
  · rw [if_neg (fun h' => h h'.2), if_neg h]

/-- The slice '.slice A n c' reads as the rows; a nil row is empty. -/
def RdGN (w : World) (A : Option Addr) (n : Nat) (rows : List (List Int)) : Prop :=
  rows.length = n ∧ (0 < n → ∃ ad, A = some ad ∧ ad.block < w.heap.size ∧ ∀ j, j < n → ∃ B m c, w.cell? (ad.add j) = some (.slice B m c) ∧ RdI w B m (rows.getD j []) ∧ m ≤ 9223372036854775806 ∧ (B = none → m = 0 ∧ c = 0))
theorem RdGN.below {w w' : World} {A : Option Addr} {n : Nat} {rows : List (List Int)} (h : RdGN w A n rows) (hb : Below w.heap.size w w') : RdGN w' A n rows := by
  refine ⟨h.1, fun hn => ?_⟩
  obtain ⟨ad, e, hlt, hc⟩ := h.2 hn
  refine ⟨ad, e, Nat.lt_of_lt_of_le hlt hb.size, fun j hj => ?_⟩
  obtain ⟨B, m, c, h1, h2, h3⟩ := hc j hj
  exact ⟨B, m, c, (hb.cell (by rw [addBlock]; exact hlt)).trans h1, h2.below hb, h3⟩

/-- .. however long its rows are. -/
def RdGo (w : World) (A : Option Addr) (n : Nat) (rows : List (List Int)) : Prop :=
  rows.length = n ∧ (0 < n → ∃ ad, A = some ad ∧ ad.block < w.heap.size ∧ ∀ j, j < n → ∃ B m c, w.cell? (ad.add j) = some (.slice B m c) ∧ RdI w B m (rows.getD j []) ∧ (B = none → m = 0 ∧ c = 0))
theorem RdGo.below {w w' : World} {A : Option Addr} {n : Nat} {rows : List (List Int)} (h : RdGo w A n rows) (hb : Below w.heap.size w w') : RdGo w' A n rows := by
  refine ⟨h.1, fun hn => ?_⟩
  obtain ⟨ad, e, hlt, hc⟩ := h.2 hn
  refine ⟨ad, e, Nat.lt_of_lt_of_le hlt hb.size, fun j hj => ?_⟩
  obtain ⟨B, m, c, h1, h2, h3⟩ := hc j hj
  exact ⟨B, m, c, (hb.cell (by rw [addBlock]; exact hlt)).trans h1, h2.below hb, h3⟩
theorem RdGo.full {w : World} {A : Option Addr} {n : Nat} {rows : List (List Int)} (h : RdGo w A n rows) (hm : ∀ j, j < n → (rows.getD j []).length ≤ 203) : RdGN w A n rows := by
  refine ⟨h.1, fun hn => ?_⟩
  obtain ⟨ad, e, hlt, hc⟩ := h.2 hn
  refine ⟨ad, e, hlt, fun j hj => ?_⟩
  obtain ⟨B, m, c, h1, h2, h3⟩ := hc j hj
  exact ⟨B, m, c, h1, h2, by have := hm j hj; rw [h2.1] at this; omega, h3⟩

/-- A slice of slices of the call's own. -/
def OwnL (w' : World) (base : Nat) (p : Value) (k : Nat) (rows : List (List Int)) : Prop :=
  ∃ vs : List Value, w'.ownsRow base 28 1 p k vs ∧ ∀ j, j < k → ∃ v, vs[j]? = some v ∧ w'.ownsRow base 3 1 v (rows.getD j []).length ((rows.getD j []).map (Value.int .i64))
theorem own_apart {w : World} {base base' : Nat} {v p : Value} {n k : Nat} {xs vs : List Value} (h : w.ownsRow base 3 1 v n xs) (h' : w.ownsRow base' 28 1 p k vs) : v.ownBlock = none ∨ v.ownBlock ≠ p.ownBlock := by
  rcases h.2 with ⟨rfl, _⟩ | ⟨g, cap, cur, rfl, _, hg, _⟩
  · exact .inl rfl
  · right
    rcases h'.2 with ⟨rfl, _⟩ | ⟨g', cap', cur', rfl, _, hg', _⟩
    · simp [Value.ownBlock]
    · simp only [Value.ownBlock]
      intro e
      injection e with e
      subst e
      rw [hg] at hg'
      injection hg' with h1
      injection h1 with _ h2
      exact absurd h2 (by decide)
theorem OwnL.read {w : World} {base : Nat} {p : Value} {n : Nat} {rows : List (List Int)} (h : OwnL w base p n rows) (hl : rows.length = n) (hm : ∀ j, j < n → (rows.getD j []).length ≤ 203) :
    ∃ A c, p = .slice A n c ∧ RdGN w A n rows := by
  obtain ⟨vs, h1, h2⟩ := h
  have hlt := h1.lt
  have hcs : ∀ {g : Nat}, p.ownBlock = some g → ∀ j u, vs[j]? = some u → w.cell? ((⟨g, 0, none⟩ : Addr).add j) = some u := fun hg => h1.cells hg
  rcases h1.2 with ⟨rfl, rfl⟩ | ⟨g, cap, cur, rfl, _⟩
  · exact ⟨none, 0, rfl, hl, fun h0 => absurd h0 (by omega)⟩
  · refine ⟨_, cap, rfl, hl, fun _ => ⟨_, rfl, (hlt g rfl).2, fun j hj => ?_⟩⟩
    obtain ⟨v, hv, ho⟩ := h2 j hj
    obtain ⟨B, c, rfl, _, hr, hn⟩ := rd_ownN ho
    exact ⟨B, _, c, hcs rfl j _ hv, hr, by have := hm j hj; omega, hn⟩

end Go.Proofs.YtpkjkegcdddimaaDoor
