import Derived.Test.YtnmfeonagigkeaaQ0
import Derived.Test.YtnmfeonagigkeaaV3
import Derived.Test.YtnmfeonagigkeaaV2
import Derived.Test.YtnmfeonagigkeaaS2
namespace Go.Proofs.Ytnmfeonagigkeaa
open Go.RowKit

/-- Rows of the call's own, no two of which share memory. -/
def Rows4 (W : World) (base : Nat) (L : List (Value × List Int)) : Prop :=
  (∀ p ∈ L, W.ownsRow base 3 1 p.1 p.2.length (p.2.map (Value.int .i64))) ∧ L.Pairwise fun p q => ∀ g, p.1.ownBlock = some g → q.1.ownBlock ≠ some g
theorem Rows4.alloc {W : World} {base : Nat} {L : List (Value × List Int)} (h : Rows4 W base L) (o : Obj) : Rows4 (W.alloc o) base L := ⟨fun p hp => (h.1 p hp).alloc o, h.2⟩
theorem Rows4.drew {W : World} {base : Nat} {L : List (Value × List Int)} (h : Rows4 W base L) : Rows4 W.drew base L := ⟨fun p hp => (h.1 p hp).drew, h.2⟩
theorem Rows4.step {W W' : World} {base : Nat} {pre post : List (Value × List Int)} {v v' : Value} {xs : List Int} {u : Int} (h : Rows4 W base (pre ++ (v, xs) :: post))
    (ho : W'.ownsRow base 3 1 v' (xs.length + 1) (xs.map (Value.int .i64) ++ [.int .i64 u])) (hg : W.grownBy W' v.ownBlock) (hat : v'.ownBlock = v.ownBlock ∨ v'.ownBlock = some W.heap.size) : Rows4 W' base (pre ++ (v', xs ++ [u]) :: post) := by
  obtain ⟨h1, h2⟩ := h
  rw [List.pairwise_append] at h2
  obtain ⟨hp, hc, hx⟩ := h2
  rw [List.pairwise_cons] at hc
  obtain ⟨hc1, hc2⟩ := hc
  have hv : W.ownsRow base 3 1 v xs.length (xs.map (Value.int .i64)) := h1 (v, xs) (by simp)
  have key : ∀ p : Value × List Int, p ∈ pre ∨ p ∈ post → W.ownsRow base 3 1 p.1 p.2.length (p.2.map (Value.int .i64)) ∧ (∀ g, p.1.ownBlock = some g → v.ownBlock ≠ some g) := by
    intro p hpp
    refine ⟨h1 p (by rcases hpp with h | h <;> simp [h]), fun g hg1 hg2 => ?_⟩
    rcases hpp with h | h
    · exact hx p h (v, xs) (List.mem_cons_self ..) g hg1 hg2
    · exact hc1 p h g hg2 hg1
  have kept : ∀ p : Value × List Int, p ∈ pre ∨ p ∈ post → W'.ownsRow base 3 1 p.1 p.2.length (p.2.map (Value.int .i64)) := by
    intro p hpp
    obtain ⟨k1, k2⟩ := key p hpp
    refine k1.kept hg ?_
    cases hb : p.1.ownBlock with
    | none => exact .inl rfl
    | some g => exact .inr fun e => k2 g hb e.symm
  have apart : ∀ p : Value × List Int, p ∈ pre ∨ p ∈ post → ∀ g, p.1.ownBlock = some g → v'.ownBlock ≠ some g := by
    intro p hpp g hb e
    obtain ⟨k1, k2⟩ := key p hpp
    rcases hat with h | h
    · rw [h] at e; exact k2 g hb e
    · rw [h] at e
      have := (k1.lt g hb).2
      injection e with e
      omega
  refine ⟨?_, ?_⟩
  · intro p hpm
    rcases List.mem_append.1 hpm with h | h
    · exact kept p (Or.inl h)
    · rcases List.mem_cons.1 h with rfl | h
      · show W'.ownsRow base 3 1 v' (xs ++ [u]).length ((xs ++ [u]).map (Value.int .i64))
        rw [List.map_append, List.length_append]
        exact ho
      · exact kept p (Or.inr h)
  · rw [List.pairwise_append]
    refine ⟨hp, ?_, ?_⟩
    · rw [List.pairwise_cons]
      refine ⟨fun q hq g hg1 hg2 => apart q (Or.inr hq) g hg2 hg1, hc2⟩
    · intro p hpp q hq
      rcases List.mem_cons.1 hq with rfl | hq
      · exact fun g hb => apart p (Or.inl hpp) g hb
      · exact hx p hpp q (List.mem_cons_of_mem _ hq)
theorem src1 {W : World} {b : Nat} {u : Value} (h : W.cell? ⟨b, 0, none⟩ = some u) : ∀ j x, [u][j]? = some x → W.cell? ((⟨b, 0, none⟩ : Addr).add j) = some x := by
  intro j x hx
  obtain ⟨hj, e⟩ := List.getElem?_eq_some_iff.1 hx
  simp at hj
  subst hj
  rw [addZ]
  rw [h]
  simpa using e

/-- The channels of walls. -/
def chan (f : Int × Int → Int) (ws : List (Int × Int)) : List Int := ws.map f
def latP (p : Int × Int) : Int := p.1 + p.2
theorem chan_length (f : Int × Int → Int) (ws : List (Int × Int)) : (chan f ws).length = ws.length := by simp [chan]
theorem chan_take (f : Int × Int → Int) (ws : List (Int × Int)) (j : Nat) (h : j < ws.length) : chan f (ws.take (j + 1)) = chan f (ws.take j) ++ [f (ws.getD j (0, 0))] := by
  unfold chan
  rw [List.take_succ_eq_append_getElem h, List.map_append]
  simp [List.getD_eq_getElem?_getD, List.getElem?_eq_getElem h]
theorem chan_at (f : Int × Int → Int) (ws : List (Int × Int)) (j : Nat) (h : j < ws.length) : (chan f ws).getD j 0 = f (ws.getD j (0, 0)) := map_at f ws (0, 0) 0 j h
theorem small_pos {xs : List Int} (hl : xs.length ≤ 200) (h : Small xs) : posE xs = 0 := by
  unfold posE
  rw [if_neg (by omega), if_pos]
  unfold fromB
  rw [List.all_eq_true]
  intro x hx
  have := h x hx
  simp; omega
theorem walls_pos {ws : List (Int × Int)} (h : wallsE ws = 0) : posE (chan Prod.fst ws) = 0 ∧ posE (chan Prod.snd ws) = 0 := by
  obtain ⟨hl, hw⟩ := wallsE_ok h
  refine ⟨small_pos (by rw [chan_length]; exact hl) fun x hx => ?_, small_pos (by rw [chan_length]; exact hl) fun x hx => ?_⟩
  all_goals
    obtain ⟨p, hp, rfl⟩ := List.mem_map.1 hx
    have := wallE_ok (hw p hp)
    omega
theorem turn_of {xs : List Int} (h : posE xs = 0) (h0 : 0 < xs.length) : turnErr xs = 0 := by
  unfold turnErr
  rw [if_pos h, if_neg (by omega)]
theorem vel_of {xs : List Int} (h : posE xs = 0) (h0 : 0 < xs.length) : velX xs = velL xs := by
  unfold velX
  rw [if_pos (turn_of h h0)]
theorem vel_sum (ws : List (Int × Int)) (i : Nat) (h : i < ws.length - 1) :
    (velL (chan latP ws)).getD i 0 = (velL (chan Prod.snd ws)).getD i 0 + (velL (chan Prod.fst ws)).getD i 0 ∧ (velL (chan widP ws)).getD i 0 = (velL (chan Prod.snd ws)).getD i 0 - (velL (chan Prod.fst ws)).getD i 0 := by
  rw [velL_at _ _ (by rw [chan_length]; exact h), velL_at _ _ (by rw [chan_length]; exact h), velL_at _ _ (by rw [chan_length]; exact h), velL_at _ _ (by rw [chan_length]; exact h)]
  rw [chan_at _ _ _ (by omega), chan_at _ _ _ (by omega), chan_at _ _ _ (by omega), chan_at _ _ _ (by omega), chan_at _ _ _ (by omega), chan_at _ _ _ (by omega), chan_at _ _ _ (by omega), chan_at _ _ _ (by omega)]
  unfold latP widP
  omega
theorem vel_bd {xs : List Int} (h : posE xs = 0) (i : Nat) (hi : i < xs.length - 1) : -2000000 ≤ (velL xs).getD i 0 ∧ (velL xs).getD i 0 ≤ 2000000 := by
  obtain ⟨_, hs⟩ := pos_ok h
  rw [velL_at _ _ hi]
  have h1 := hs.at_ i
  have h2 := hs.at_ (i + 1)
  omega

end Go.Proofs.Ytnmfeonagigkeaa
