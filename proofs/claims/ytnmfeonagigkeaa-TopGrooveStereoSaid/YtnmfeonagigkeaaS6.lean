import Derived.Test.YtnmfeonagigkeaaS5
namespace Go.Proofs.Ytnmfeonagigkeaa
open Go.RowKit

/-- A slice of pairs of the call's own. -/
def RdO (w : World) (A : Option Addr) (n : Nat) (ps : List (Int × Int)) : Prop := ps.length = n ∧ (0 < n → ∃ g, A = some ⟨g, 0, none⟩ ∧ RdR w g n ps)
theorem RdO.below {w w' : World} {A : Option Addr} {n : Nat} {ps : List (Int × Int)} (h : RdO w A n ps) (hb : Below w.heap.size w w') : RdO w' A n ps :=
  ⟨h.1, fun h0 => by obtain ⟨g, e, hr⟩ := h.2 h0; exact ⟨g, e, hr.below hb⟩⟩
theorem rdO_own {w : World} {base : Nat} {t : TypeId} {v : Value} {n : Nat} {ps : List (Int × Int)} (h : w.ownsRow base t 2 v n (pairCells ps)) (hl : ps.length = n) :
    ∃ A c, v = .slice A n c ∧ RdO w A n ps ∧ (A = none → n = 0 ∧ c = 0) := by
  have h2 := h.2
  rcases h2 with ⟨e, h0⟩ | ⟨g, cap, cur, e, _⟩
  · subst h0
    exact ⟨none, 0, e, ⟨hl, fun h => absurd h (by omega)⟩, fun _ => ⟨rfl, rfl⟩⟩
  · subst e
    exact ⟨_, cap, rfl, ⟨hl, fun _ => ⟨g, rfl, rdR_of_own h hl⟩⟩, fun h => by cases h⟩
theorem RdO.toP {w : World} {A : Option Addr} {n : Nat} {ps : List (Int × Int)} (h : RdO w A n ps) : RdP w A n ps := by
  refine ⟨h.1, fun h0 => ?_⟩
  obtain ⟨g, e, hr⟩ := h.2 h0
  refine ⟨⟨g, 0, none⟩, e, hr.2.1 h0, fun j hj => ?_⟩
  rw [Deep.add_add, addOff, addOff]
  exact hr.2.2 j hj

theorem wallsF_ok : ∀ {ws : List (Int × Int)}, wallsF ws = 0 → ∀ p ∈ ws, wallE p = 0
  | [], _, p, hp => by cases hp
  | q :: ws, h, p, hp => by
    unfold wallsF at h
    by_cases h0 : wallE q = 0
    · rw [if_pos h0] at h
      rcases List.mem_cons.1 hp with rfl | h1
      · exact h0
      · exact wallsF_ok h p h1
    · rw [if_neg h0] at h; exact absurd h h0
theorem wallsE_ok {ws : List (Int × Int)} (h : wallsE ws = 0) : ws.length ≤ 200 ∧ ∀ p ∈ ws, wallE p = 0 := by
  unfold wallsE at h
  by_cases h0 : 200 < ws.length
  · rw [if_pos h0] at h; omega
  · rw [if_neg h0] at h; exact ⟨by omega, wallsF_ok h⟩
theorem back_one {p : Int × Int} (h : wallE p = 0) : matE (matP p) = 0 ∧ wlsP (matP p) = p := by
  have hk := wallE_ok h
  obtain ⟨l, r⟩ := p
  dsimp only at hk
  have e1 : (l + r - (r - l)) / 2 = l := by omega
  have e2 : (l + r + (r - l)) / 2 = r := by omega
  constructor
  · unfold matE matP
    dsimp only
    rw [e1, e2, if_pos (by simp [fromB]; omega), if_pos (by omega), if_neg (by omega), if_pos (by simp [fromB]; omega)]
  · unfold wlsP matP
    dsimp only
    rw [e1, e2]
theorem back_all : ∀ {ws : List (Int × Int)}, (∀ p ∈ ws, wallE p = 0) → matsF (ws.map matP) = 0 ∧ (ws.map matP).map wlsP = ws
  | [], _ => ⟨rfl, rfl⟩
  | p :: ws, h => by
    obtain ⟨h1, h2⟩ := back_one (h p (List.mem_cons_self ..))
    obtain ⟨h3, h4⟩ := back_all (ws := ws) fun q hq => h q (List.mem_cons_of_mem _ hq)
    constructor
    · show (if matE (matP p) = 0 then matsF (ws.map matP) else _) = 0
      rw [if_pos h1, h3]
    · show wlsP (matP p) :: (ws.map matP).map wlsP = _
      rw [h2, h4]
theorem back_ok {ws : List (Int × Int)} (h : wallsE ws = 0) : matsE (matL ws) = 0 ∧ wlsL (matL ws) = ws ∧ matL ws = ws.map matP ∧ widL ws = ws.map widP := by
  obtain ⟨hl, ha⟩ := wallsE_ok h
  obtain ⟨h1, h2⟩ := back_all ha
  have e : matL ws = ws.map matP := by unfold matL; rw [if_pos h]
  have e0 : matsE (matL ws) = 0 := by unfold matsE; rw [e, List.length_map, if_neg (by omega), h1]
  exact ⟨e0, by unfold wlsL; rw [if_pos e0, e, h2], e, by unfold widL; rw [if_pos h]⟩
theorem map_at {α β : Type} (f : α → β) (l : List α) (d : α) (d' : β) (k : Nat) (h : k < l.length) : (l.map f).getD k d' = f (l.getD k d) := by
  simp [List.getD_eq_getElem?_getD, List.getElem?_eq_getElem h]

end Go.Proofs.Ytnmfeonagigkeaa
