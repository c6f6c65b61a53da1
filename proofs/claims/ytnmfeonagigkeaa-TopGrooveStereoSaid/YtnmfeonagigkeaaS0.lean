import Derived.Test.YtnmfeonagigkeaaV1
import Derived.Deep.Slices
namespace Go.Proofs.Ytnmfeonagigkeaa
open Go.RowKit

/-- The slice '.slice A n c' reads as pairs. -/
def RdP (w : World) (A : Option Addr) (n : Nat) (ps : List (Int × Int)) : Prop :=
  ps.length = n ∧ (0 < n → ∃ ad, A = some ad ∧ ad.block < w.heap.size ∧ ∀ j, j < n → w.cell? (ad.add (j * 2)) = some (.int .i64 (ps.getD j (0, 0)).1) ∧ w.cell? ((ad.add (j * 2)).add 1) = some (.int .i64 (ps.getD j (0, 0)).2))
theorem RdP.below {w w' : World} {A : Option Addr} {n : Nat} {ps : List (Int × Int)} (h : RdP w A n ps) (hb : Below w.heap.size w w') : RdP w' A n ps := by
  refine ⟨h.1, fun hn => ?_⟩
  obtain ⟨ad, e, hlt, hc⟩ := h.2 hn
  exact ⟨ad, e, Nat.lt_of_lt_of_le hlt hb.size, fun j hj => ⟨(hb.cell (by rw [addBlock]; exact hlt)).trans (hc j hj).1, (hb.cell (by rw [addBlock, addBlock]; exact hlt)).trans (hc j hj).2⟩⟩

theorem pairCells_at : ∀ (ps : List (Int × Int)) (j : Nat), j < ps.length → (pairCells ps)[j * 2]? = some (.int .i64 (ps.getD j (0, 0)).1) ∧ (pairCells ps)[j * 2 + 1]? = some (.int .i64 (ps.getD j (0, 0)).2)
  | [], j, h => absurd h (by simp)
  | p :: ps, 0, _ => ⟨rfl, rfl⟩
  | p :: ps, j + 1, h => by
    have ih := pairCells_at ps j (by simpa using h)
    have e : pairCells (p :: ps) = .int .i64 p.1 :: .int .i64 p.2 :: pairCells ps := rfl
    rw [e, show (j + 1) * 2 = j * 2 + 1 + 1 by omega]
    simpa using ih
theorem pairCells_length (ps : List (Int × Int)) : (pairCells ps).length = ps.length * 2 := by
  induction ps with
  | nil => rfl
  | cons p ps ih =>
    have e : pairCells (p :: ps) = .int .i64 p.1 :: .int .i64 p.2 :: pairCells ps := rfl
    rw [e, List.length_cons, List.length_cons, List.length_cons, ih]; omega
theorem pairCells_one (ps : List (Int × Int)) : ∀ u ∈ pairCells ps, u.oneCell' = true := by
  intro u hu
  simp only [pairCells, List.mem_flatMap] at hu
  obtain ⟨p, _, hp⟩ := hu
  simp at hp
  rcases hp with rfl | rfl <;> rfl
theorem rdR_of_own {w : World} {base g n cap : Nat} {t : TypeId} {ps : List (Int × Int)} (h : w.ownsRow base t 2 (.slice (some ⟨g, 0, none⟩) n cap) n (pairCells ps)) (hl : ps.length = n) : RdR w g n ps := by
  refine ⟨hl, fun _ => (h.lt g rfl).2, fun j hj => ?_⟩
  obtain ⟨h1, h2⟩ := pairCells_at ps j (by omega)
  exact ⟨(h.cellAt (j * 2) (by omega)).trans h1, (h.cellAt (j * 2 + 1) (by omega)).trans h2⟩

def CopyP (w : World) (n : Nat) (ps : List (Int × Int)) (e : Ending) (w' : World) : Prop := (∃ g c, e = .returned (.slice (some ⟨g, 0, none⟩) n c) ∧ RdR w' g n ps) ∧ Below w.heap.size w w'
theorem wlsInfo : (Try.prog.info? 36).map (fun i => (i.zero, i.size, i.bytes)) = some (some (.agg #[.int .i64 0, .int .i64 0]), 2, 16) := by kernel_rfl

set_option maxRecDepth 100000 in
set_option maxHeartbeats 1000000 in
theorem copyWalls_any (A : Option Addr) (n c : Nat) (ps : List (Int × Int)) (w : World) (hA : A = none → n = 0 ∧ c = 0) (hr : RdP w A n ps) (hn : n ≤ 1000000) :
    Calls Try.prog 7 #[.slice A n c] w (CopyP w n ps) := by
  have ho : Hid ((w.alloc (.cells #[] 36)).ownsRow w.heap.size 36 2 (.slice (some ⟨w.heap.size, 0, none⟩) 0 0) 0 ([] : List Value)) := World.ownsRow_lit w #[] 0 (Nat.le_refl _) (by unfold maxLen; omega) rfl
  obtain ⟨i0, hi, hz0, hz1, hz2⟩ := info_parts wlsInfo
  cases A with
  | none =>
    obtain ⟨rfl, rfl⟩ := hA rfl
    have hl : ps = [] := List.eq_nil_of_length_eq_zero hr.1
    subst hl
    clear hA hr
    go_enter Try.func7, Try.ntmps7
    go_wp2_with (at_builtin; refine wpList_append_own_none rfl (.tmp 3) (.tmp 4) 22 rfl w.heap.size 36 i0 2 Try.underlying22 hi _ _ _ rfl ho.out rfl ?_)
    go_ret
    exact ⟨⟨_, _, rfl, rdR_of_own ho.out rfl⟩, (Below.refl _ _).alloc (Nat.le_refl _) _⟩
  | some ad =>
    have HR := Lib.hid hr; clear hr hA
    have hlen : Hid ((pairCells ps).length = n * 2) := by show _ = _; rw [pairCells_length, HR.out.1]
    have hsrc : Hid (∀ j u, (pairCells ps)[j]? = some u → (w.alloc (.cells #[] 36)).cell? (ad.add j) = some u) := by
      intro j u hu
      have hj : j < (pairCells ps).length := (List.getElem?_eq_some_iff.1 hu).1
      rw [hlen.out] at hj
      have hl := HR.out.1
      obtain ⟨ad', ha, hlt, hc⟩ := HR.out.2 (by omega)
      obtain rfl := Option.some.inj ha
      rw [World.cell?_alloc_lt w _ _ (by rw [addBlock]; exact hlt)]
      obtain ⟨h1, h2⟩ := hc (j / 2) (by omega)
      obtain ⟨p1, p2⟩ := pairCells_at ps (j / 2) (by omega)
      rcases (by omega : j = j / 2 * 2 ∨ j = j / 2 * 2 + 1) with e | e
      · obtain ⟨q, hq⟩ : ∃ q, j / 2 = q := ⟨_, rfl⟩
        rw [hq] at h1 h2 p1 p2 e
        subst e
        rw [p1] at hu
        rw [h1]; exact hu
      · obtain ⟨q, hq⟩ : ∃ q, j / 2 = q := ⟨_, rfl⟩
        rw [hq] at h1 h2 p1 p2 e
        subst e
        rw [p2] at hu
        rw [Deep.add_add] at h2
        rw [h2]; exact hu
    have hone : Hid (∀ u ∈ pairCells ps, u.oneCell' = true) := pairCells_one ps
    obtain ⟨news, hnews⟩ : ∃ news, pairCells ps = news := ⟨_, rfl⟩
    rw [hnews] at hlen hsrc hone
    have HNW := Lib.hid hnews
    clear hnews
    go_enter Try.func7, Try.ntmps7
    go_wp2_with (at_builtin; refine wpList_append_own _ rfl (.tmp 3) (.tmp 4) 22 rfl w.heap.size 36 i0 _ 2 16 Try.underlying22 hi hz0 hz1 hz2 rfl (by decide) _ _ _ rfl ho.out ad n c news rfl hlen.out hsrc.out hone.out (by unfold maxLen; omega) (by omega) (by simp) ?_)
    intro v w2 ho2 hg2 hnil
    have b2 : Below w.heap.size w w2 := ((Below.refl _ _).alloc (Nat.le_refl _) _).grown hg2 (by simp) (fun g hg => (ho.out.lt g hg).1)
    have hv : ∃ g cap, v = .slice (some ⟨g, 0, none⟩) n cap := by
      have h2 := ho2.2
      rcases h2 with ⟨e, h0⟩ | ⟨g, cap, cur, e, _⟩
      · exact absurd e hnil
      · exact ⟨g, cap, by rw [e]⟩
    obtain ⟨g, cap, rfl⟩ := hv
    have o2 : Hid (RdR w2 g n ps) := by
      refine rdR_of_own (base := w.heap.size) (t := 36) (cap := cap) ?_ HR.out.1
      rw [HNW.out]
      simpa using ho2
    have B2 := Lib.hid b2
    clear ho2 hg2 b2 hnil
    go_wp2
    go_ret
    exact ⟨⟨_, _, rfl, o2.out⟩, B2.out⟩

end Go.Proofs.Ytnmfeonagigkeaa
