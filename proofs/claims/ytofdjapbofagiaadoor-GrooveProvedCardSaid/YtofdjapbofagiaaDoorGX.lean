import Derived.Test.YtofdjapbofagiaaDoorD4
import Derived.Test.YtofdjapbofagiaaDoorGJ
import Derived.Test.YtofdjapbofagiaaDoorB1
import Derived.Deep.QuietTactic
import Derived.BigQuiet
import Derived.Test.YtofdjapbofagiaaDoorGD
import Derived.Test.YtofdjapbofagiaaDoorA2
namespace Go.Proofs.YtofdjapbofagiaaDoor
open Go.RowKit

set_option maxRecDepth 100000 in
set_option maxHeartbeats 8000000 in
theorem refCost_any (ad : Addr) (n c m : Nat) (rows : List (List Int)) (b : Int) (P : Option Addr) (cp : Nat) (path : List Int) (w : World) (hr : RdG w (some ad) n rows) (hn : 0 < n ∧ n ≤ 1000000) (hm : m ≤ 1000000) (hp : RdI w P n path) (hpe : pathE n m path = 0) (hg : ∀ r ∈ rows, r.length = m ∧ ∀ x ∈ r, 0 ≤ x ∧ x ≤ 255) (hbb : 0 ≤ b ∧ b ≤ 1000) :
    Calls Tryd.prog 29 #[.agg #[.slice (some ad) n c, .int .i64 b], .slice P n cp] w fun e w' => e = .returned (.int .i64 (costF rows b path n)) ∧ Below w.heap.size w w' := by
  have hb0 : Below w.heap.size w (w.alloc (.cells #[.slice (some ad) n c, .int .i64 b] 53)) := (Below.refl _ w).alloc (Nat.le_refl _) _
  have HR1 := Lib.hid (hr.below hb0)
  have HP1 := Lib.hid (hp.below hb0)
  have HB2 := Lib.hid hb0
  have HGB := Lib.hid hg
  have HN := Lib.hid (Bk.new w 53 #[.slice (some ad) n c, .int .i64 b])
  have hpi := (path_in hpe).2
  have HPI := Lib.hid hpi
  have HCB := Lib.hid (cost_bd hbb hr.1 hn.2 hg hpi)
  have HBB := Lib.hid hbb
  clear hbb
  have hnb : n ≤ 1000000 := hn.2
  clear hr hp hpe hb0 hg hpi hn
  go_enter Tryd.func29, Tryd.ntmps29
  go_wp2
  obtain ⟨g, hgw⟩ : ∃ g, w.heap.size = g := ⟨_, rfl⟩
  have HGW := Lib.hid hgw
  obtain ⟨W1, hW1⟩ : ∃ W, (w.alloc (.cells #[.slice (some ad) n c, .int .i64 b] 53)) = W := ⟨_, rfl⟩
  rw [hW1] at HP1 HR1 HN HB2 ⊢
  rw [hgw] at HN
  try rw [hgw]
  clear hW1 hgw
  go_loopw [5, 6] (fun s i wr => ∃ j : Nat, j ≤ n ∧ i = .int .i64 j ∧ s = .int .i64 (costF rows b path j) ∧ Hid (Below W1.heap.size W1 wr)) (fun _ i _ => n - (intOf i).toNat)
  case atStart => exact ⟨0, Nat.zero_le _, rfl, rfl, Below.refl _ _⟩
  case round =>
    obtain ⟨j, hj, rfl, rfl, HX⟩ := hrel
    have hSb := HCB.out j hj
    have HSN : Hid (costF rows b path (j + 1) = costF rows b path j + valAt rows path j + bendAt b path j) := rfl
    by_cases hlt : j < n
    · have hjI : (j : Int) < (n : Int) := by omega
      have hj0 : (0 : Int) ≤ (j : Int) := by omega
      have hSb2 := HCB.out (j + 1) hlt
      have qn := HN.out.later HX.out
      have n0 : wr.cell? ⟨g, 0, none⟩ = some (.slice (some ad) n c) := by rw [qn.cell]; rfl
      obtain ⟨pd, hP, hpdb, hc⟩ := (HP1.out.below HX.out).2 (by omega)
      subst hP
      have c1 := hc j hlt
      have hx := HPI.out j hlt
      obtain ⟨x, hxe⟩ : ∃ x, path.getD j 0 = x := ⟨_, rfl⟩
      rw [hxe] at c1 hx
      obtain ⟨t, rfl⟩ : ∃ t : Nat, x = (t : Int) := ⟨x.toNat, by omega⟩
      have htm : t < m := by omega
      have htI : (t : Int) < (m : Int) := by omega
      have ht0 : (0 : Int) ≤ (t : Int) := by omega
      obtain ⟨bd, cb, r1, r2, hv0, hv1, _, _⟩ := grid_at (HR1.out.below HX.out) HGB.out j t hlt htm
      have HV : Hid (valAt rows path j = (rows.getD j []).getD t 0) := by show _ = _; unfold valAt; rw [hxe]; rfl
      obtain ⟨v, hve⟩ : ∃ v, (rows.getD j []).getD t 0 = v := ⟨_, rfl⟩
      rw [hve] at r2 hv0 hv1 HV
      have n1 : wr.cell? ⟨g, 1, none⟩ = some (.int .i64 b) := by rw [qn.cell]; rfl
      have HXE := Lib.hid hxe
      have HC := Lib.hid hc
      clear hc hxe hve qn hx
      rw [HSN.out, HV.out] at hSb2
      obtain ⟨s, hse⟩ : ∃ s, costF rows b path j = s := ⟨_, rfl⟩
      rw [hse] at hSb hSb2 HSN ⊢
      obtain ⟨s1, hs1⟩ : ∃ s1, s + v = s1 := ⟨_, rfl⟩
      have hw1 : IntKind.i64.wrap (s + v) = s1 := by rw [hs1]; exact IntWalk.i64_in _ (by omega)
      have hs1b : 0 ≤ s1 ∧ s1 ≤ 4000000000 := by omega
      rw [hs1] at hSb2
      have HS1E := Lib.hid hs1
      have HS0 : Hid ((fun w' : World => w'.cell? ⟨g, 0, none⟩ = some (.slice (some ad) n c) ∧ w'.cell? (ad.add j) = some (.slice (some bd) m cb) ∧ w'.cell? (pd.add j) = some (.int .i64 t) ∧ w'.cell? (bd.add t) = some (.int .i64 v) ∧ Below W1.heap.size W1 w') wr.drew) := ⟨n0, r1, c1, r2, HX.out.drew⟩
      have HC1 : Hid (wr.drew.cell? (pd.add j) = some (.int .i64 t)) := c1
      have HN0 : Hid (wr.drew.cell? ⟨g, 0, none⟩ = some (.slice (some ad) n c) ∧ wr.drew.cell? ⟨g, 1, none⟩ = some (.int .i64 b)) := ⟨n0, n1⟩
      clear hse hs1 n0 n1 c1 r1 r2
      by_cases h0 : j = 0
      · have HF : Hid (costF rows b path (j + 1) = s1) := by show _ = _; rw [HSN.out, HV.out, ← HS1E.out]; subst h0; rw [bendAt_zero]; omega
        have hgd : decide ((0 : Int) < (j : Int)) = false := decide_eq_false (by omega)
        have hgn : decide (0 < j) = false := decide_eq_false (by omega)
        have hgp : ¬ (0 : Int) < (j : Int) := by omega
        clear hSb2 h0
        go_wp2
        refine wp_region_held_drew (S := (fun w' : World => w'.cell? ⟨g, 0, none⟩ = some (.slice (some ad) n c) ∧ w'.cell? (ad.add j) = some (.slice (some bd) m cb) ∧ w'.cell? (pd.add j) = some (.int .i64 t) ∧ w'.cell? (bd.add t) = some (.int .i64 v) ∧ Below W1.heap.size W1 w')) (by kernel_rfl) ?_ ?_
        · exact HS0.out
        intro hHeld
        refine wpAnyH_take (i := 0) (v := ?_) rfl (by kernel_rfl) (by kernel_rfl) (by kernel_rfl) (fun _ _ _ h => h) (Or.inl ⟨by rfl, ?_⟩) (by assumption) ?_
        rotate_left
        · intro w hSw; (try dsimp only at hSw); go_simp; (try (with_reducible rfl))
        try simp only [List.getElem_toArray, List.getElem_cons_succ, List.getElem_cons_zero, Act.put, List.setIfInBounds_toArray, List.set_cons_zero, List.set_cons_succ]
        refine wpAnyH_take (i := 1) (v := ?_) rfl (by kernel_rfl) (by kernel_rfl) (by kernel_rfl) (fun _ _ _ h => h) (Or.inl ⟨by rfl, ?_⟩) (by assumption) ?_
        rotate_left
        · intro w hSw; (try dsimp only at hSw); go_simp; (try (with_reducible rfl))
        try simp only [List.getElem_toArray, List.getElem_cons_succ, List.getElem_cons_zero, Act.put, List.setIfInBounds_toArray, List.set_cons_zero, List.set_cons_succ]
        refine wpAnyH_take (i := 2) (v := ?_) rfl (by kernel_rfl) (by kernel_rfl) (by kernel_rfl) (fun _ _ _ h => h) (Or.inl ⟨by rfl, ?_⟩) (by assumption) ?_
        rotate_left
        · intro w hSw; (try dsimp only at hSw); go_simp; (try (with_reducible rfl))
        try simp only [List.getElem_toArray, List.getElem_cons_succ, List.getElem_cons_zero, Act.put, List.setIfInBounds_toArray, List.set_cons_zero, List.set_cons_succ]
        refine wpAnyH_take (i := 3) (v := ?_) rfl (by kernel_rfl) (by kernel_rfl) (by kernel_rfl) (fun _ _ _ h => h) (Or.inl ⟨by rfl, ?_⟩) (by assumption) ?_
        rotate_left
        · intro w hSw; (try dsimp only at hSw); go_simp; (try (with_reducible rfl))
        try simp only [List.getElem_toArray, List.getElem_cons_succ, List.getElem_cons_zero, Act.put, List.setIfInBounds_toArray, List.set_cons_zero, List.set_cons_succ]
        refine wpAnyH_take (i := 4) (v := ?_) rfl (by kernel_rfl) (by kernel_rfl) (by kernel_rfl) (fun _ _ _ h => h) (Or.inl ⟨by rfl, ?_⟩) (by assumption) ?_
        rotate_left
        · intro w hSw; (try dsimp only at hSw); go_simp; (try (with_reducible rfl))
        try simp only [List.getElem_toArray, List.getElem_cons_succ, List.getElem_cons_zero, Act.put, List.setIfInBounds_toArray, List.set_cons_zero, List.set_cons_succ]
        refine wpAnyH_take (i := 5) (v := ?_) rfl (by kernel_rfl) (by kernel_rfl) (by kernel_rfl) (fun _ _ _ h => h) (Or.inl ⟨by rfl, ?_⟩) (by assumption) ?_
        rotate_left
        · intro w hSw; (try dsimp only at hSw); go_simp; (try (with_reducible rfl))
        try simp only [List.getElem_toArray, List.getElem_cons_succ, List.getElem_cons_zero, Act.put, List.setIfInBounds_toArray, List.set_cons_zero, List.set_cons_succ]
        refine wpAnyH_take (i := 6) (v := ?_) rfl (by kernel_rfl) (by kernel_rfl) (by kernel_rfl) (fun _ _ _ h => h) (Or.inl ⟨by rfl, ?_⟩) (by assumption) ?_
        rotate_left
        · intro w hSw; (try dsimp only at hSw); go_simp; (try (with_reducible rfl))
        try simp only [List.getElem_toArray, List.getElem_cons_succ, List.getElem_cons_zero, Act.put, List.setIfInBounds_toArray, List.set_cons_zero, List.set_cons_succ]
        refine wpAnyH_take (i := 7) (v := ?_) rfl (by kernel_rfl) (by kernel_rfl) (by kernel_rfl) (fun _ _ _ h => h) (Or.inl ⟨by rfl, ?_⟩) (by assumption) ?_
        rotate_left
        · intro w hSw; (try dsimp only at hSw); go_simp; (try (with_reducible rfl))
        try simp only [List.getElem_toArray, List.getElem_cons_succ, List.getElem_cons_zero, Act.put, List.setIfInBounds_toArray, List.set_cons_zero, List.set_cons_succ]
        refine wpAnyH_take (i := 8) (v := ?_) rfl (by kernel_rfl) (by kernel_rfl) (by kernel_rfl) (fun _ _ _ h => h) (Or.inl ⟨by rfl, ?_⟩) (by assumption) ?_
        rotate_left
        · intro w hSw; (try dsimp only at hSw); go_simp; (try (with_reducible rfl))
        try simp only [List.getElem_toArray, List.getElem_cons_succ, List.getElem_cons_zero, Act.put, List.setIfInBounds_toArray, List.set_cons_zero, List.set_cons_succ]
        refine wpAnyH_take (i := 9) (v := ?_) rfl (by kernel_rfl) (by kernel_rfl) (by kernel_rfl) (fun _ _ _ h => h) (Or.inl ⟨by rfl, ?_⟩) (by assumption) ?_
        rotate_left
        · intro w hSw; (try dsimp only at hSw); go_simp; (try (with_reducible rfl))
        try simp only [List.getElem_toArray, List.getElem_cons_succ, List.getElem_cons_zero, Act.put, List.setIfInBounds_toArray, List.set_cons_zero, List.set_cons_succ]
        refine wpAnyH_take (i := 10) (v := ?_) rfl (by kernel_rfl) (by kernel_rfl) (by kernel_rfl) (fun _ _ _ h => h) (Or.inl ⟨by rfl, ?_⟩) (by assumption) ?_
        rotate_left
        · intro w hSw; (try dsimp only at hSw); go_simp; (try (with_reducible rfl))
        try simp only [List.getElem_toArray, List.getElem_cons_succ, List.getElem_cons_zero, Act.put, List.setIfInBounds_toArray, List.set_cons_zero, List.set_cons_succ]
        refine wpAnyH_take (i := 11) (v := ?_) rfl (by kernel_rfl) (by kernel_rfl) (by kernel_rfl) (fun _ _ _ h => h) (Or.inl ⟨by rfl, ?_⟩) (by assumption) ?_
        rotate_left
        · intro w hSw; (try dsimp only at hSw); go_simp; (try (with_reducible rfl))
        try simp only [List.getElem_toArray, List.getElem_cons_succ, List.getElem_cons_zero, Act.put, List.setIfInBounds_toArray, List.set_cons_zero, List.set_cons_succ]
        refine wpAnyH_take (i := 12) (v := ?_) rfl (by kernel_rfl) (by kernel_rfl) (by kernel_rfl) (fun _ _ _ h => h) (Or.inl ⟨by rfl, ?_⟩) (by assumption) ?_
        rotate_left
        · intro w hSw; (try dsimp only at hSw); go_simp; (try (with_reducible rfl))
        try simp only [List.getElem_toArray, List.getElem_cons_succ, List.getElem_cons_zero, Act.put, List.setIfInBounds_toArray, List.set_cons_zero, List.set_cons_succ]
        refine wpAnyH_take (i := 13) (v := ?_) rfl (by kernel_rfl) (by kernel_rfl) (by kernel_rfl) (fun _ _ _ h => h) (Or.inl ⟨by rfl, ?_⟩) (by assumption) ?_
        rotate_left
        · intro w hSw; (try dsimp only at hSw); go_simp; (try (with_reducible rfl))
        try simp only [List.getElem_toArray, List.getElem_cons_succ, List.getElem_cons_zero, Act.put, List.setIfInBounds_toArray, List.set_cons_zero, List.set_cons_succ]
        refine wpAnyH_done (by kernel_rfl) ?_ _
        clear hHeld HS0 hw1
        go_wp2
        go_roundw
        case rel => exact ⟨j + 1, by omega, by go_num, by rw [HF.out], HX.out.drew⟩
        case measure => simp [intOf]; omega
      · obtain ⟨q, hq⟩ : ∃ q, j = q + 1 := ⟨j - 1, by omega⟩
        have c2 := HC.out q (by omega)
        obtain ⟨y, hy⟩ : ∃ y, path.getD q 0 = y := ⟨_, rfl⟩
        rw [hy] at c2
        have HBD : Hid (bendAt b path j = if y = (t : Int) then 0 else b) := by show _ = _; rw [hq, bendAt_succ, ← hq, hy, HXE.out]
        obtain ⟨d, hde⟩ : ∃ d, (if y = (t : Int) then 0 else b) = d := ⟨_, rfl⟩
        have hdb : 0 ≤ d ∧ d ≤ 1000 := by have := HBB.out; rw [← hde]; split <;> omega
        have HDE := Lib.hid hde
        rw [hde] at HBD
        rw [HBD.out] at hSb2
        have HF : Hid (costF rows b path (j + 1) = s1 + d) := by show _ = _; rw [HSN.out, HV.out, HBD.out, HS1E.out]
        obtain ⟨R, hR⟩ : ∃ R, s1 + d = R := ⟨_, rfl⟩
        rw [hR] at HF
        have hz5 : IntKind.i64.wrap (s1 + d) = R := by rw [hR]; exact IntWalk.i64_in _ (by omega)
        have hz1 : IntKind.i64.wrap ((j : Int) - 1) = (q : Int) := by rw [show (j : Int) - 1 = (q : Int) by omega]; exact IntWalk.i64_in _ (by omega)
        have hz3 : (0 : Int) ≤ (q : Int) := by omega
        have hz4 : (q : Int) < (n : Int) := by omega
        have hgd : decide ((0 : Int) < (j : Int)) = true := decide_eq_true (by omega)
        have hgn : decide (0 < j) = true := decide_eq_true (by omega)
        have hgp : (0 : Int) < (j : Int) := by omega
        have HS1 : Hid ((fun w' : World => w'.cell? ⟨g, 0, none⟩ = some (.slice (some ad) n c) ∧ w'.cell? ⟨g, 1, none⟩ = some (.int .i64 b) ∧ w'.cell? (pd.add q) = some (.int .i64 y) ∧ w'.cell? (pd.add j) = some (.int .i64 t) ∧ Below W1.heap.size W1 w') wr.drew.drew) := ⟨HN0.out.1, HN0.out.2, c2, HC1.out, HX.out.drew.drew⟩
        have CB : Hid (∀ W', (fun w' : World => w'.cell? ⟨g, 0, none⟩ = some (.slice (some ad) n c) ∧ w'.cell? ⟨g, 1, none⟩ = some (.int .i64 b) ∧ w'.cell? (pd.add q) = some (.int .i64 y) ∧ w'.cell? (pd.add j) = some (.int .i64 t) ∧ Below W1.heap.size W1 w') W' → Calls Tryd.prog 56 #[.agg #[.slice (some ad) n c, .int .i64 b], .int .i64 y, .int .i64 t] W' fun e w' => e = .returned (.int .i64 d) ∧ (fun w' : World => w'.cell? ⟨g, 0, none⟩ = some (.slice (some ad) n c) ∧ w'.cell? ⟨g, 1, none⟩ = some (.int .i64 b) ∧ w'.cell? (pd.add q) = some (.int .i64 y) ∧ w'.cell? (pd.add j) = some (.int .i64 t) ∧ Below W1.heap.size W1 w') w') := by
          rintro W' ⟨g1, g2, g3, g4, g5⟩
          refine (refBend_any (.slice (some ad) n c) b y t W' ⟨_, _, _, rfl⟩).mono ?_
          rintro e w' ⟨he, rfl⟩
          exact ⟨by rw [he, HDE.out], cellA _ g1, cellA _ g2, cellA _ g3, cellA _ g4, g5.alloc g5.size _⟩
        clear hde hy hq hR c2 hSb2 h0
        go_wp2
        refine wp_region_held_drew (S := (fun w' : World => w'.cell? ⟨g, 0, none⟩ = some (.slice (some ad) n c) ∧ w'.cell? (ad.add j) = some (.slice (some bd) m cb) ∧ w'.cell? (pd.add j) = some (.int .i64 t) ∧ w'.cell? (bd.add t) = some (.int .i64 v) ∧ Below W1.heap.size W1 w')) (by kernel_rfl) ?_ ?_
        · exact HS0.out
        intro hHeld
        refine wpAnyH_take (i := 0) (v := ?_) rfl (by kernel_rfl) (by kernel_rfl) (by kernel_rfl) (fun _ _ _ h => h) (Or.inl ⟨by rfl, ?_⟩) (by assumption) ?_
        rotate_left
        · intro w hSw; (try dsimp only at hSw); go_simp; (try (with_reducible rfl))
        try simp only [List.getElem_toArray, List.getElem_cons_succ, List.getElem_cons_zero, Act.put, List.setIfInBounds_toArray, List.set_cons_zero, List.set_cons_succ]
        refine wpAnyH_take (i := 1) (v := ?_) rfl (by kernel_rfl) (by kernel_rfl) (by kernel_rfl) (fun _ _ _ h => h) (Or.inl ⟨by rfl, ?_⟩) (by assumption) ?_
        rotate_left
        · intro w hSw; (try dsimp only at hSw); go_simp; (try (with_reducible rfl))
        try simp only [List.getElem_toArray, List.getElem_cons_succ, List.getElem_cons_zero, Act.put, List.setIfInBounds_toArray, List.set_cons_zero, List.set_cons_succ]
        refine wpAnyH_take (i := 2) (v := ?_) rfl (by kernel_rfl) (by kernel_rfl) (by kernel_rfl) (fun _ _ _ h => h) (Or.inl ⟨by rfl, ?_⟩) (by assumption) ?_
        rotate_left
        · intro w hSw; (try dsimp only at hSw); go_simp; (try (with_reducible rfl))
        try simp only [List.getElem_toArray, List.getElem_cons_succ, List.getElem_cons_zero, Act.put, List.setIfInBounds_toArray, List.set_cons_zero, List.set_cons_succ]
        refine wpAnyH_take (i := 3) (v := ?_) rfl (by kernel_rfl) (by kernel_rfl) (by kernel_rfl) (fun _ _ _ h => h) (Or.inl ⟨by rfl, ?_⟩) (by assumption) ?_
        rotate_left
        · intro w hSw; (try dsimp only at hSw); go_simp; (try (with_reducible rfl))
        try simp only [List.getElem_toArray, List.getElem_cons_succ, List.getElem_cons_zero, Act.put, List.setIfInBounds_toArray, List.set_cons_zero, List.set_cons_succ]
        refine wpAnyH_take (i := 4) (v := ?_) rfl (by kernel_rfl) (by kernel_rfl) (by kernel_rfl) (fun _ _ _ h => h) (Or.inl ⟨by rfl, ?_⟩) (by assumption) ?_
        rotate_left
        · intro w hSw; (try dsimp only at hSw); go_simp; (try (with_reducible rfl))
        try simp only [List.getElem_toArray, List.getElem_cons_succ, List.getElem_cons_zero, Act.put, List.setIfInBounds_toArray, List.set_cons_zero, List.set_cons_succ]
        refine wpAnyH_take (i := 5) (v := ?_) rfl (by kernel_rfl) (by kernel_rfl) (by kernel_rfl) (fun _ _ _ h => h) (Or.inl ⟨by rfl, ?_⟩) (by assumption) ?_
        rotate_left
        · intro w hSw; (try dsimp only at hSw); go_simp; (try (with_reducible rfl))
        try simp only [List.getElem_toArray, List.getElem_cons_succ, List.getElem_cons_zero, Act.put, List.setIfInBounds_toArray, List.set_cons_zero, List.set_cons_succ]
        refine wpAnyH_take (i := 6) (v := ?_) rfl (by kernel_rfl) (by kernel_rfl) (by kernel_rfl) (fun _ _ _ h => h) (Or.inl ⟨by rfl, ?_⟩) (by assumption) ?_
        rotate_left
        · intro w hSw; (try dsimp only at hSw); go_simp; (try (with_reducible rfl))
        try simp only [List.getElem_toArray, List.getElem_cons_succ, List.getElem_cons_zero, Act.put, List.setIfInBounds_toArray, List.set_cons_zero, List.set_cons_succ]
        refine wpAnyH_take (i := 7) (v := ?_) rfl (by kernel_rfl) (by kernel_rfl) (by kernel_rfl) (fun _ _ _ h => h) (Or.inl ⟨by rfl, ?_⟩) (by assumption) ?_
        rotate_left
        · intro w hSw; (try dsimp only at hSw); go_simp; (try (with_reducible rfl))
        try simp only [List.getElem_toArray, List.getElem_cons_succ, List.getElem_cons_zero, Act.put, List.setIfInBounds_toArray, List.set_cons_zero, List.set_cons_succ]
        refine wpAnyH_take (i := 8) (v := ?_) rfl (by kernel_rfl) (by kernel_rfl) (by kernel_rfl) (fun _ _ _ h => h) (Or.inl ⟨by rfl, ?_⟩) (by assumption) ?_
        rotate_left
        · intro w hSw; (try dsimp only at hSw); go_simp; (try (with_reducible rfl))
        try simp only [List.getElem_toArray, List.getElem_cons_succ, List.getElem_cons_zero, Act.put, List.setIfInBounds_toArray, List.set_cons_zero, List.set_cons_succ]
        refine wpAnyH_take (i := 9) (v := ?_) rfl (by kernel_rfl) (by kernel_rfl) (by kernel_rfl) (fun _ _ _ h => h) (Or.inl ⟨by rfl, ?_⟩) (by assumption) ?_
        rotate_left
        · intro w hSw; (try dsimp only at hSw); go_simp; (try (with_reducible rfl))
        try simp only [List.getElem_toArray, List.getElem_cons_succ, List.getElem_cons_zero, Act.put, List.setIfInBounds_toArray, List.set_cons_zero, List.set_cons_succ]
        refine wpAnyH_take (i := 10) (v := ?_) rfl (by kernel_rfl) (by kernel_rfl) (by kernel_rfl) (fun _ _ _ h => h) (Or.inl ⟨by rfl, ?_⟩) (by assumption) ?_
        rotate_left
        · intro w hSw; (try dsimp only at hSw); go_simp; (try (with_reducible rfl))
        try simp only [List.getElem_toArray, List.getElem_cons_succ, List.getElem_cons_zero, Act.put, List.setIfInBounds_toArray, List.set_cons_zero, List.set_cons_succ]
        refine wpAnyH_take (i := 11) (v := ?_) rfl (by kernel_rfl) (by kernel_rfl) (by kernel_rfl) (fun _ _ _ h => h) (Or.inl ⟨by rfl, ?_⟩) (by assumption) ?_
        rotate_left
        · intro w hSw; (try dsimp only at hSw); go_simp; (try (with_reducible rfl))
        try simp only [List.getElem_toArray, List.getElem_cons_succ, List.getElem_cons_zero, Act.put, List.setIfInBounds_toArray, List.set_cons_zero, List.set_cons_succ]
        refine wpAnyH_take (i := 12) (v := ?_) rfl (by kernel_rfl) (by kernel_rfl) (by kernel_rfl) (fun _ _ _ h => h) (Or.inl ⟨by rfl, ?_⟩) (by assumption) ?_
        rotate_left
        · intro w hSw; (try dsimp only at hSw); go_simp; (try (with_reducible rfl))
        try simp only [List.getElem_toArray, List.getElem_cons_succ, List.getElem_cons_zero, Act.put, List.setIfInBounds_toArray, List.set_cons_zero, List.set_cons_succ]
        refine wpAnyH_take (i := 13) (v := ?_) rfl (by kernel_rfl) (by kernel_rfl) (by kernel_rfl) (fun _ _ _ h => h) (Or.inl ⟨by rfl, ?_⟩) (by assumption) ?_
        rotate_left
        · intro w hSw; (try dsimp only at hSw); go_simp; (try (with_reducible rfl))
        try simp only [List.getElem_toArray, List.getElem_cons_succ, List.getElem_cons_zero, Act.put, List.setIfInBounds_toArray, List.set_cons_zero, List.set_cons_succ]
        refine wpAnyH_done (by kernel_rfl) ?_ _
        clear hHeld HS0 hw1
        go_wp2
        refine wp_region_held_drew (S := (fun w' : World => w'.cell? ⟨g, 0, none⟩ = some (.slice (some ad) n c) ∧ w'.cell? ⟨g, 1, none⟩ = some (.int .i64 b) ∧ w'.cell? (pd.add q) = some (.int .i64 y) ∧ w'.cell? (pd.add j) = some (.int .i64 t) ∧ Below W1.heap.size W1 w')) (by kernel_rfl) ?_ ?_
        · first | exact hs2 | exact HS1.out
        intro hHeld
        refine wpAnyH_take (i := 0) (v := ?_) rfl (by kernel_rfl) (by kernel_rfl) (by kernel_rfl) (fun _ _ _ h => h) (Or.inl ⟨by rfl, ?_⟩) (by assumption) ?_
        rotate_left
        · intro w hSw; (try dsimp only at hSw); go_simp; (try (with_reducible rfl))
        try simp only [List.getElem_toArray, List.getElem_cons_succ, List.getElem_cons_zero, Act.put, List.setIfInBounds_toArray, List.set_cons_zero, List.set_cons_succ]
        refine wpAnyH_take (i := 1) (v := ?_) rfl (by kernel_rfl) (by kernel_rfl) (by kernel_rfl) (fun _ _ _ h => h) (Or.inl ⟨by rfl, ?_⟩) (by assumption) ?_
        rotate_left
        · intro w hSw; (try dsimp only at hSw); go_simp; (try (with_reducible rfl))
        try simp only [List.getElem_toArray, List.getElem_cons_succ, List.getElem_cons_zero, Act.put, List.setIfInBounds_toArray, List.set_cons_zero, List.set_cons_succ]
        refine wpAnyH_take (i := 2) (v := ?_) rfl (by kernel_rfl) (by kernel_rfl) (by kernel_rfl) (fun _ _ _ h => h) (Or.inl ⟨by rfl, ?_⟩) (by assumption) ?_
        rotate_left
        · intro w hSw; (try dsimp only at hSw); go_simp; (try (with_reducible rfl))
        try simp only [List.getElem_toArray, List.getElem_cons_succ, List.getElem_cons_zero, Act.put, List.setIfInBounds_toArray, List.set_cons_zero, List.set_cons_succ]
        refine wpAnyH_take (i := 3) (v := ?_) rfl (by kernel_rfl) (by kernel_rfl) (by kernel_rfl) (fun _ _ _ h => h) (Or.inl ⟨by rfl, ?_⟩) (by assumption) ?_
        rotate_left
        · intro w hSw; (try dsimp only at hSw); go_simp; (try (with_reducible rfl))
        try simp only [List.getElem_toArray, List.getElem_cons_succ, List.getElem_cons_zero, Act.put, List.setIfInBounds_toArray, List.set_cons_zero, List.set_cons_succ]
        refine wpAnyH_take (i := 4) (v := ?_) rfl (by kernel_rfl) (by kernel_rfl) (by kernel_rfl) (fun _ _ _ h => h) (Or.inl ⟨by rfl, ?_⟩) (by assumption) ?_
        rotate_left
        · intro w hSw; (try dsimp only at hSw); go_simp; (try (with_reducible rfl))
        try simp only [List.getElem_toArray, List.getElem_cons_succ, List.getElem_cons_zero, Act.put, List.setIfInBounds_toArray, List.set_cons_zero, List.set_cons_succ]
        refine wpAnyH_take (i := 5) (v := ?_) rfl (by kernel_rfl) (by kernel_rfl) (by kernel_rfl) (fun _ _ _ h => h) (Or.inl ⟨by rfl, ?_⟩) (by assumption) ?_
        rotate_left
        · intro w hSw; (try dsimp only at hSw); go_simp; (try (with_reducible rfl))
        try simp only [List.getElem_toArray, List.getElem_cons_succ, List.getElem_cons_zero, Act.put, List.setIfInBounds_toArray, List.set_cons_zero, List.set_cons_succ]
        refine wpAnyH_take (i := 6) (v := ?_) rfl (by kernel_rfl) (by kernel_rfl) (by kernel_rfl) (fun _ _ _ h => h) (Or.inl ⟨by rfl, ?_⟩) (by assumption) ?_
        rotate_left
        · intro w hSw; (try dsimp only at hSw); go_simp; (try (with_reducible rfl))
        try simp only [List.getElem_toArray, List.getElem_cons_succ, List.getElem_cons_zero, Act.put, List.setIfInBounds_toArray, List.set_cons_zero, List.set_cons_succ]
        refine wpAnyH_take (i := 7) (v := ?_) rfl (by kernel_rfl) (by kernel_rfl) (by kernel_rfl) (fun _ _ _ h => h) (Or.inl ⟨by rfl, ?_⟩) (by assumption) ?_
        rotate_left
        · intro w hSw; (try dsimp only at hSw); go_simp; (try (with_reducible rfl))
        try simp only [List.getElem_toArray, List.getElem_cons_succ, List.getElem_cons_zero, Act.put, List.setIfInBounds_toArray, List.set_cons_zero, List.set_cons_succ]
        refine wpAnyH_take (i := 8) (v := ?_) rfl (by kernel_rfl) (by kernel_rfl) (by kernel_rfl) (fun _ _ _ h => h) (Or.inl ⟨by rfl, ?_⟩) (by assumption) ?_
        rotate_left
        · intro w hSw; (try dsimp only at hSw); go_simp; (try (with_reducible rfl))
        try simp only [List.getElem_toArray, List.getElem_cons_succ, List.getElem_cons_zero, Act.put, List.setIfInBounds_toArray, List.set_cons_zero, List.set_cons_succ]
        refine wpAnyH_take (i := 9) (v := ?_) rfl (by kernel_rfl) (by kernel_rfl) (by kernel_rfl) (fun _ _ _ h => h) (Or.inl ⟨by rfl, ?_⟩) (by assumption) ?_
        rotate_left
        · intro w hSw; (try dsimp only at hSw); go_simp; (try (with_reducible rfl))
        try simp only [List.getElem_toArray, List.getElem_cons_succ, List.getElem_cons_zero, Act.put, List.setIfInBounds_toArray, List.set_cons_zero, List.set_cons_succ]
        refine wpAnyH_take (i := 10) (v := ?_) rfl (by kernel_rfl) (by kernel_rfl) (by kernel_rfl) (fun _ _ _ h => h) (Or.inl ⟨by rfl, ?_⟩) (by assumption) ?_
        rotate_left
        · intro w hSw; (try dsimp only at hSw); go_simp; (try (with_reducible rfl))
        try simp only [List.getElem_toArray, List.getElem_cons_succ, List.getElem_cons_zero, Act.put, List.setIfInBounds_toArray, List.set_cons_zero, List.set_cons_succ]
        refine wpAnyH_ready (rs := [11]) (by kernel_rfl) (by simp) ?_
        refine AllReadyH.cons rfl (fun K hK => ?_) AllReadyH.nil
        go_simp
        go_at_call 56; refine (CB.out _ hHeld).mono ?_; rintro e w2 ⟨rfl, hs2⟩
        go_wp2_with fail
        refine hK.out _ _ ?_ (fun hHeld => ?_)
        · clear hK K; first | exact hs2 | exact HS1.out
        clear hK K
        try simp only [List.getElem_toArray, List.getElem_cons_succ, List.getElem_cons_zero, Act.put, List.setIfInBounds_toArray, List.set_cons_zero, List.set_cons_succ]
        refine wpAnyH_take (i := 12) (v := ?_) rfl (by kernel_rfl) (by kernel_rfl) (by kernel_rfl) (fun _ _ _ h => h) (Or.inl ⟨by rfl, ?_⟩) (by assumption) ?_
        rotate_left
        · intro w hSw; (try dsimp only at hSw); go_simp; (try (with_reducible rfl))
        try simp only [List.getElem_toArray, List.getElem_cons_succ, List.getElem_cons_zero, Act.put, List.setIfInBounds_toArray, List.set_cons_zero, List.set_cons_succ]
        refine wpAnyH_take (i := 13) (v := ?_) rfl (by kernel_rfl) (by kernel_rfl) (by kernel_rfl) (fun _ _ _ h => h) (Or.inl ⟨by rfl, ?_⟩) (by assumption) ?_
        rotate_left
        · intro w hSw; (try dsimp only at hSw); go_simp; (try (with_reducible rfl))
        try simp only [List.getElem_toArray, List.getElem_cons_succ, List.getElem_cons_zero, Act.put, List.setIfInBounds_toArray, List.set_cons_zero, List.set_cons_succ]
        refine wpAnyH_done (by kernel_rfl) ?_ _
        obtain ⟨_, _, _, _, hbl⟩ := hHeld
        have HBL := Lib.hid hbl
        clear hbl HS1 CB hz5 hz1 hs2
        go_wp2
        go_roundw
        case rel => exact ⟨j + 1, by omega, by go_num, by rw [HF.out], HBL.out⟩
        case measure => simp [intOf]; omega
    · obtain rfl : n = j := by omega
      go_wp2
      go_ret
      exact ⟨rfl, HB2.out.trans (HX.out.mono HB2.out.size)⟩

end Go.Proofs.YtofdjapbofagiaaDoor

namespace Go.Proofs.YtofdjapbofagiaaDoor
open Go.RowKit

def OwnR (w : World) (ps : List (Int × Int)) (e : Ending) (w' : World) : Prop :=
  (∃ v, e = .returned v ∧ w'.ownsRow w.heap.size 28 2 v ps.length (pairCells ps)) ∧ Below w.heap.size w w'

set_option maxRecDepth 100000 in
set_option maxHeartbeats 8000000 in
theorem refCracks_any (ad : Addr) (n c m : Nat) (rows : List (List Int)) (b : Int) (P : Option Addr) (cp : Nat) (path : List Int) (w : World) (hr : RdG w (some ad) n rows) (hn : 0 < n ∧ n ≤ 1000000) (hm : m ≤ 1000000) (hp : RdI w P n path) (hpe : pathE n m path = 0) (hg : ∀ r ∈ rows, r.length = m ∧ ∀ x ∈ r, 0 ≤ x ∧ x ≤ 255) (limit : Int) :
    Calls Tryd.prog 32 #[.agg #[.slice (some ad) n c, .int .i64 b], .slice P n cp, .int .i64 limit] w (OwnR w (crF rows path limit n)) := by
  obtain ⟨i0, hi0, hz0, hz1, hz2⟩ := info_parts rngInfo
  have hb0 : Below w.heap.size w (w.alloc (.cells #[.slice (some ad) n c, .int .i64 b] 53)) := (Below.refl _ w).alloc (Nat.le_refl _) _
  have HR1 := Lib.hid (hr.below hb0)
  have HP1 := Lib.hid (hp.below hb0)
  have HB2 := Lib.hid hb0
  have HGB := Lib.hid hg
  have HN := Lib.hid (Bk.new w 53 #[.slice (some ad) n c, .int .i64 b])
  have hpi := (path_in hpe).2
  have HPI := Lib.hid hpi
  have hnb : n ≤ 1000000 := hn.2
  clear hr hp hpe hb0 hg hpi hn
  go_enter Tryd.func32, Tryd.ntmps32
  go_wp2
  obtain ⟨g, hgw⟩ : ∃ g, w.heap.size = g := ⟨_, rfl⟩
  have HGW := Lib.hid hgw
  obtain ⟨W1, hW1⟩ : ∃ W, (w.alloc (.cells #[.slice (some ad) n c, .int .i64 b] 53)) = W := ⟨_, rfl⟩
  rw [hW1] at HP1 HR1 HN HB2 ⊢
  rw [hgw] at HN
  try rw [hgw]
  clear hW1 hgw
  go_loopw [7, 8] (fun v i wr => ∃ j : Nat, j ≤ n ∧ i = .int .i64 j ∧ Hid (wr.ownsRow W1.heap.size 28 2 v (crF rows path limit j).length (pairCells (crF rows path limit j)) ∧ Below W1.heap.size W1 wr)) (fun _ i _ => n - (intOf i).toNat)
  case atStart => exact ⟨0, Nat.zero_le _, rfl, World.ownsRow_nil _ _ _ _, Below.refl _ _⟩
  case round =>
    obtain ⟨j, hj, rfl, HI⟩ := hrel
    by_cases hlt : j < n
    · have hjI : (j : Int) < (n : Int) := by omega
      have hj0 : (0 : Int) ≤ (j : Int) := by omega
      have hjl := crF_length rows path limit j
      have hsz : W1.heap.size ≤ wr.heap.size := HI.out.2.size
      have qn := HN.out.later HI.out.2
      have n0 : wr.cell? ⟨g, 0, none⟩ = some (.slice (some ad) n c) := by rw [qn.cell]; rfl
      obtain ⟨pd, hP, hpdb, hc⟩ := (HP1.out.below HI.out.2).2 (by omega)
      subst hP
      have c1 := hc j hlt
      have hx := HPI.out j hlt
      obtain ⟨x, hxe⟩ : ∃ x, path.getD j 0 = x := ⟨_, rfl⟩
      rw [hxe] at c1 hx
      obtain ⟨t, rfl⟩ : ∃ t : Nat, x = (t : Int) := ⟨x.toNat, by omega⟩
      have htm : t < m := by omega
      have htI : (t : Int) < (m : Int) := by omega
      have ht0 : (0 : Int) ≤ (t : Int) := by omega
      obtain ⟨bd, cb, r1, r2, hv0, hv1, _, _⟩ := grid_at (HR1.out.below HI.out.2) HGB.out j t hlt htm
      have HV : Hid (valAt rows path j = (rows.getD j []).getD t 0) := by show _ = _; unfold valAt; rw [hxe]; rfl
      obtain ⟨v, hve⟩ : ∃ v, (rows.getD j []).getD t 0 = v := ⟨_, rfl⟩
      rw [hve] at r2 hv0 hv1 HV
      clear hc hxe hve qn hx
      obtain ⟨ln, hln⟩ : ∃ ln, (crF rows path limit j).length = ln := ⟨_, rfl⟩
      have HLNE := Lib.hid hln
      rw [hln] at HI hjl
      have hlb : ln ≤ 1000000 := by omega
      obtain ⟨Ac, cap, rfl, hform⟩ := own_form HI.out.1
      by_cases hvl : v ≤ limit
      · have HJ : Hid (crF rows path limit (j + 1) = crF rows path limit j) := by
          show _ = _
          exact crF_skip (by rw [HV.out]; omega)
        clear hln hform
        have hvb : decide (v ≤ limit) = true := decide_eq_true hvl
        have HS0 : Hid ((fun w' : World => w'.cell? ⟨g, 0, none⟩ = some (.slice (some ad) n c) ∧ w'.cell? (ad.add j) = some (.slice (some bd) m cb) ∧ w'.cell? (pd.add j) = some (.int .i64 t) ∧ w'.cell? (bd.add t) = some (.int .i64 v) ∧ Below W1.heap.size W1 w') wr.drew) := ⟨n0, r1, c1, r2, HI.out.2.drew⟩
        have HVL := Lib.hid hvl
        clear n0 c1 r1 r2 hvl
        go_wp2
        refine wp_region_held_drew (S := (fun w' : World => w'.cell? ⟨g, 0, none⟩ = some (.slice (some ad) n c) ∧ w'.cell? (ad.add j) = some (.slice (some bd) m cb) ∧ w'.cell? (pd.add j) = some (.int .i64 t) ∧ w'.cell? (bd.add t) = some (.int .i64 v) ∧ Below W1.heap.size W1 w')) (by kernel_rfl) ?_ ?_
        · exact HS0.out
        intro hHeld
        refine wpAnyH_take (i := 0) (v := ?_) rfl (by kernel_rfl) (by kernel_rfl) (by kernel_rfl) (fun _ _ _ h => h) (Or.inl ⟨by rfl, ?_⟩) (by assumption) ?_
        rotate_left
        · intro w hSw; (try dsimp only at hSw); go_simp; (try (with_reducible rfl))
        try simp only [List.getElem_toArray, List.getElem_cons_succ, List.getElem_cons_zero, Act.put, List.setIfInBounds_toArray, List.set_cons_zero, List.set_cons_succ]
        refine wpAnyH_take (i := 1) (v := ?_) rfl (by kernel_rfl) (by kernel_rfl) (by kernel_rfl) (fun _ _ _ h => h) (Or.inl ⟨by rfl, ?_⟩) (by assumption) ?_
        rotate_left
        · intro w hSw; (try dsimp only at hSw); go_simp; (try (with_reducible rfl))
        try simp only [List.getElem_toArray, List.getElem_cons_succ, List.getElem_cons_zero, Act.put, List.setIfInBounds_toArray, List.set_cons_zero, List.set_cons_succ]
        refine wpAnyH_take (i := 2) (v := ?_) rfl (by kernel_rfl) (by kernel_rfl) (by kernel_rfl) (fun _ _ _ h => h) (Or.inl ⟨by rfl, ?_⟩) (by assumption) ?_
        rotate_left
        · intro w hSw; (try dsimp only at hSw); go_simp; (try (with_reducible rfl))
        try simp only [List.getElem_toArray, List.getElem_cons_succ, List.getElem_cons_zero, Act.put, List.setIfInBounds_toArray, List.set_cons_zero, List.set_cons_succ]
        refine wpAnyH_take (i := 3) (v := ?_) rfl (by kernel_rfl) (by kernel_rfl) (by kernel_rfl) (fun _ _ _ h => h) (Or.inl ⟨by rfl, ?_⟩) (by assumption) ?_
        rotate_left
        · intro w hSw; (try dsimp only at hSw); go_simp; (try (with_reducible rfl))
        try simp only [List.getElem_toArray, List.getElem_cons_succ, List.getElem_cons_zero, Act.put, List.setIfInBounds_toArray, List.set_cons_zero, List.set_cons_succ]
        refine wpAnyH_take (i := 4) (v := ?_) rfl (by kernel_rfl) (by kernel_rfl) (by kernel_rfl) (fun _ _ _ h => h) (Or.inl ⟨by rfl, ?_⟩) (by assumption) ?_
        rotate_left
        · intro w hSw; (try dsimp only at hSw); go_simp; (try (with_reducible rfl))
        try simp only [List.getElem_toArray, List.getElem_cons_succ, List.getElem_cons_zero, Act.put, List.setIfInBounds_toArray, List.set_cons_zero, List.set_cons_succ]
        refine wpAnyH_take (i := 5) (v := ?_) rfl (by kernel_rfl) (by kernel_rfl) (by kernel_rfl) (fun _ _ _ h => h) (Or.inl ⟨by rfl, ?_⟩) (by assumption) ?_
        rotate_left
        · intro w hSw; (try dsimp only at hSw); go_simp; (try (with_reducible rfl))
        try simp only [List.getElem_toArray, List.getElem_cons_succ, List.getElem_cons_zero, Act.put, List.setIfInBounds_toArray, List.set_cons_zero, List.set_cons_succ]
        refine wpAnyH_take (i := 6) (v := ?_) rfl (by kernel_rfl) (by kernel_rfl) (by kernel_rfl) (fun _ _ _ h => h) (Or.inl ⟨by rfl, ?_⟩) (by assumption) ?_
        rotate_left
        · intro w hSw; (try dsimp only at hSw); go_simp; (try (with_reducible rfl))
        try simp only [List.getElem_toArray, List.getElem_cons_succ, List.getElem_cons_zero, Act.put, List.setIfInBounds_toArray, List.set_cons_zero, List.set_cons_succ]
        refine wpAnyH_take (i := 7) (v := ?_) rfl (by kernel_rfl) (by kernel_rfl) (by kernel_rfl) (fun _ _ _ h => h) (Or.inl ⟨by rfl, ?_⟩) (by assumption) ?_
        rotate_left
        · intro w hSw; (try dsimp only at hSw); go_simp; (try (with_reducible rfl))
        try simp only [List.getElem_toArray, List.getElem_cons_succ, List.getElem_cons_zero, Act.put, List.setIfInBounds_toArray, List.set_cons_zero, List.set_cons_succ]
        refine wpAnyH_take (i := 8) (v := ?_) rfl (by kernel_rfl) (by kernel_rfl) (by kernel_rfl) (fun _ _ _ h => h) (Or.inl ⟨by rfl, ?_⟩) (by assumption) ?_
        rotate_left
        · intro w hSw; (try dsimp only at hSw); go_simp; (try (with_reducible rfl))
        try simp only [List.getElem_toArray, List.getElem_cons_succ, List.getElem_cons_zero, Act.put, List.setIfInBounds_toArray, List.set_cons_zero, List.set_cons_succ]
        refine wpAnyH_take (i := 9) (v := ?_) rfl (by kernel_rfl) (by kernel_rfl) (by kernel_rfl) (fun _ _ _ h => h) (Or.inl ⟨by rfl, ?_⟩) (by assumption) ?_
        rotate_left
        · intro w hSw; (try dsimp only at hSw); go_simp; (try (with_reducible rfl))
        try simp only [List.getElem_toArray, List.getElem_cons_succ, List.getElem_cons_zero, Act.put, List.setIfInBounds_toArray, List.set_cons_zero, List.set_cons_succ]
        refine wpAnyH_take (i := 10) (v := ?_) rfl (by kernel_rfl) (by kernel_rfl) (by kernel_rfl) (fun _ _ _ h => h) (Or.inl ⟨by rfl, ?_⟩) (by assumption) ?_
        rotate_left
        · intro w hSw; (try dsimp only at hSw); go_simp; (try (with_reducible rfl))
        try simp only [List.getElem_toArray, List.getElem_cons_succ, List.getElem_cons_zero, Act.put, List.setIfInBounds_toArray, List.set_cons_zero, List.set_cons_succ]
        refine wpAnyH_take (i := 11) (v := ?_) rfl (by kernel_rfl) (by kernel_rfl) (by kernel_rfl) (fun _ _ _ h => h) (Or.inl ⟨by rfl, ?_⟩) (by assumption) ?_
        rotate_left
        · intro w hSw; (try dsimp only at hSw); go_simp; (try (with_reducible rfl))
        try simp only [List.getElem_toArray, List.getElem_cons_succ, List.getElem_cons_zero, Act.put, List.setIfInBounds_toArray, List.set_cons_zero, List.set_cons_succ]
        refine wpAnyH_take (i := 12) (v := ?_) rfl (by kernel_rfl) (by kernel_rfl) (by kernel_rfl) (fun _ _ _ h => h) (Or.inl ⟨by rfl, ?_⟩) (by assumption) ?_
        rotate_left
        · intro w hSw; (try dsimp only at hSw); go_simp; (try (with_reducible rfl))
        try simp only [List.getElem_toArray, List.getElem_cons_succ, List.getElem_cons_zero, Act.put, List.setIfInBounds_toArray, List.set_cons_zero, List.set_cons_succ]
        refine wpAnyH_done (by kernel_rfl) ?_ _
        clear hHeld HS0 hvb
        have HI2 : Hid (wr.drew.ownsRow W1.heap.size 28 2 (.slice Ac ln cap) ln (pairCells (crF rows path limit j)) ∧ Below W1.heap.size W1 wr.drew) := ⟨HI.out.1.drew, HI.out.2.drew⟩
        obtain ⟨wd, hwd⟩ : ∃ W, wr.drew = W := ⟨_, rfl⟩
        rw [hwd] at HI2 ⊢
        clear hwd HI hsz
        have hsz : W1.heap.size ≤ wd.heap.size := HI2.out.2.size
        have HI := HI2
        clear HI2
        have hvl := HVL.out
        go_wp2
        go_roundw
        case rel => exact ⟨j + 1, by omega, by go_num, by show _ ∧ _; rw [HJ.out, HLNE.out]; exact HI.out⟩
        case measure => simp [intOf]; omega
      · skip
        have hvb : decide (v ≤ limit) = false := decide_eq_false hvl
        have HS0 : Hid ((fun w' : World => w'.cell? ⟨g, 0, none⟩ = some (.slice (some ad) n c) ∧ w'.cell? (ad.add j) = some (.slice (some bd) m cb) ∧ w'.cell? (pd.add j) = some (.int .i64 t) ∧ w'.cell? (bd.add t) = some (.int .i64 v) ∧ Below W1.heap.size W1 w') wr.drew) := ⟨n0, r1, c1, r2, HI.out.2.drew⟩
        have HVL := Lib.hid hvl
        have HLN2 := Lib.hid hln
        have HFO := Lib.hid hform
        clear n0 c1 r1 r2 hvl hln hform
        go_wp2
        refine wp_region_held_drew (S := (fun w' : World => w'.cell? ⟨g, 0, none⟩ = some (.slice (some ad) n c) ∧ w'.cell? (ad.add j) = some (.slice (some bd) m cb) ∧ w'.cell? (pd.add j) = some (.int .i64 t) ∧ w'.cell? (bd.add t) = some (.int .i64 v) ∧ Below W1.heap.size W1 w')) (by kernel_rfl) ?_ ?_
        · exact HS0.out
        intro hHeld
        refine wpAnyH_take (i := 0) (v := ?_) rfl (by kernel_rfl) (by kernel_rfl) (by kernel_rfl) (fun _ _ _ h => h) (Or.inl ⟨by rfl, ?_⟩) (by assumption) ?_
        rotate_left
        · intro w hSw; (try dsimp only at hSw); go_simp; (try (with_reducible rfl))
        try simp only [List.getElem_toArray, List.getElem_cons_succ, List.getElem_cons_zero, Act.put, List.setIfInBounds_toArray, List.set_cons_zero, List.set_cons_succ]
        refine wpAnyH_take (i := 1) (v := ?_) rfl (by kernel_rfl) (by kernel_rfl) (by kernel_rfl) (fun _ _ _ h => h) (Or.inl ⟨by rfl, ?_⟩) (by assumption) ?_
        rotate_left
        · intro w hSw; (try dsimp only at hSw); go_simp; (try (with_reducible rfl))
        try simp only [List.getElem_toArray, List.getElem_cons_succ, List.getElem_cons_zero, Act.put, List.setIfInBounds_toArray, List.set_cons_zero, List.set_cons_succ]
        refine wpAnyH_take (i := 2) (v := ?_) rfl (by kernel_rfl) (by kernel_rfl) (by kernel_rfl) (fun _ _ _ h => h) (Or.inl ⟨by rfl, ?_⟩) (by assumption) ?_
        rotate_left
        · intro w hSw; (try dsimp only at hSw); go_simp; (try (with_reducible rfl))
        try simp only [List.getElem_toArray, List.getElem_cons_succ, List.getElem_cons_zero, Act.put, List.setIfInBounds_toArray, List.set_cons_zero, List.set_cons_succ]
        refine wpAnyH_take (i := 3) (v := ?_) rfl (by kernel_rfl) (by kernel_rfl) (by kernel_rfl) (fun _ _ _ h => h) (Or.inl ⟨by rfl, ?_⟩) (by assumption) ?_
        rotate_left
        · intro w hSw; (try dsimp only at hSw); go_simp; (try (with_reducible rfl))
        try simp only [List.getElem_toArray, List.getElem_cons_succ, List.getElem_cons_zero, Act.put, List.setIfInBounds_toArray, List.set_cons_zero, List.set_cons_succ]
        refine wpAnyH_take (i := 4) (v := ?_) rfl (by kernel_rfl) (by kernel_rfl) (by kernel_rfl) (fun _ _ _ h => h) (Or.inl ⟨by rfl, ?_⟩) (by assumption) ?_
        rotate_left
        · intro w hSw; (try dsimp only at hSw); go_simp; (try (with_reducible rfl))
        try simp only [List.getElem_toArray, List.getElem_cons_succ, List.getElem_cons_zero, Act.put, List.setIfInBounds_toArray, List.set_cons_zero, List.set_cons_succ]
        refine wpAnyH_take (i := 5) (v := ?_) rfl (by kernel_rfl) (by kernel_rfl) (by kernel_rfl) (fun _ _ _ h => h) (Or.inl ⟨by rfl, ?_⟩) (by assumption) ?_
        rotate_left
        · intro w hSw; (try dsimp only at hSw); go_simp; (try (with_reducible rfl))
        try simp only [List.getElem_toArray, List.getElem_cons_succ, List.getElem_cons_zero, Act.put, List.setIfInBounds_toArray, List.set_cons_zero, List.set_cons_succ]
        refine wpAnyH_take (i := 6) (v := ?_) rfl (by kernel_rfl) (by kernel_rfl) (by kernel_rfl) (fun _ _ _ h => h) (Or.inl ⟨by rfl, ?_⟩) (by assumption) ?_
        rotate_left
        · intro w hSw; (try dsimp only at hSw); go_simp; (try (with_reducible rfl))
        try simp only [List.getElem_toArray, List.getElem_cons_succ, List.getElem_cons_zero, Act.put, List.setIfInBounds_toArray, List.set_cons_zero, List.set_cons_succ]
        refine wpAnyH_take (i := 7) (v := ?_) rfl (by kernel_rfl) (by kernel_rfl) (by kernel_rfl) (fun _ _ _ h => h) (Or.inl ⟨by rfl, ?_⟩) (by assumption) ?_
        rotate_left
        · intro w hSw; (try dsimp only at hSw); go_simp; (try (with_reducible rfl))
        try simp only [List.getElem_toArray, List.getElem_cons_succ, List.getElem_cons_zero, Act.put, List.setIfInBounds_toArray, List.set_cons_zero, List.set_cons_succ]
        refine wpAnyH_take (i := 8) (v := ?_) rfl (by kernel_rfl) (by kernel_rfl) (by kernel_rfl) (fun _ _ _ h => h) (Or.inl ⟨by rfl, ?_⟩) (by assumption) ?_
        rotate_left
        · intro w hSw; (try dsimp only at hSw); go_simp; (try (with_reducible rfl))
        try simp only [List.getElem_toArray, List.getElem_cons_succ, List.getElem_cons_zero, Act.put, List.setIfInBounds_toArray, List.set_cons_zero, List.set_cons_succ]
        refine wpAnyH_take (i := 9) (v := ?_) rfl (by kernel_rfl) (by kernel_rfl) (by kernel_rfl) (fun _ _ _ h => h) (Or.inl ⟨by rfl, ?_⟩) (by assumption) ?_
        rotate_left
        · intro w hSw; (try dsimp only at hSw); go_simp; (try (with_reducible rfl))
        try simp only [List.getElem_toArray, List.getElem_cons_succ, List.getElem_cons_zero, Act.put, List.setIfInBounds_toArray, List.set_cons_zero, List.set_cons_succ]
        refine wpAnyH_take (i := 10) (v := ?_) rfl (by kernel_rfl) (by kernel_rfl) (by kernel_rfl) (fun _ _ _ h => h) (Or.inl ⟨by rfl, ?_⟩) (by assumption) ?_
        rotate_left
        · intro w hSw; (try dsimp only at hSw); go_simp; (try (with_reducible rfl))
        try simp only [List.getElem_toArray, List.getElem_cons_succ, List.getElem_cons_zero, Act.put, List.setIfInBounds_toArray, List.set_cons_zero, List.set_cons_succ]
        refine wpAnyH_take (i := 11) (v := ?_) rfl (by kernel_rfl) (by kernel_rfl) (by kernel_rfl) (fun _ _ _ h => h) (Or.inl ⟨by rfl, ?_⟩) (by assumption) ?_
        rotate_left
        · intro w hSw; (try dsimp only at hSw); go_simp; (try (with_reducible rfl))
        try simp only [List.getElem_toArray, List.getElem_cons_succ, List.getElem_cons_zero, Act.put, List.setIfInBounds_toArray, List.set_cons_zero, List.set_cons_succ]
        refine wpAnyH_take (i := 12) (v := ?_) rfl (by kernel_rfl) (by kernel_rfl) (by kernel_rfl) (fun _ _ _ h => h) (Or.inl ⟨by rfl, ?_⟩) (by assumption) ?_
        rotate_left
        · intro w hSw; (try dsimp only at hSw); go_simp; (try (with_reducible rfl))
        try simp only [List.getElem_toArray, List.getElem_cons_succ, List.getElem_cons_zero, Act.put, List.setIfInBounds_toArray, List.set_cons_zero, List.set_cons_succ]
        refine wpAnyH_done (by kernel_rfl) ?_ _
        clear hHeld HS0 hvb
        have HI2 : Hid (wr.drew.ownsRow W1.heap.size 28 2 (.slice Ac ln cap) ln (pairCells (crF rows path limit j)) ∧ Below W1.heap.size W1 wr.drew) := ⟨HI.out.1.drew, HI.out.2.drew⟩
        obtain ⟨wd, hwd⟩ : ∃ W, wr.drew = W := ⟨_, rfl⟩
        rw [hwd] at HI2 ⊢
        clear hwd HI hsz
        have hsz : W1.heap.size ≤ wd.heap.size := HI2.out.2.size
        have HI := HI2
        clear HI2
        have hvl := HVL.out
        have hln := HLN2.out
        have hform := HFO.out
        by_cases hl0 : ln = 0
        · subst hl0
          have HJ : Hid (crF rows path limit (j + 1) = crF rows path limit j ++ [((j : Int), (j : Int))]) := by
            show _ = _
            exact crF_first (by rw [HV.out]; omega) hln
          clear hln hform
          go_wp2_with (at_builtin; refine wpList_append_own _ rfl (.tmp 49) (.tmp 53) 59 rfl W1.heap.size 28 i0 _ 2 16 Tryd.underlying59 hi0 hz0 hz1 hz2 rfl (by decide) _ _ _ rfl (HI.out.1.alloc _) ⟨wd.heap.size, 0, none⟩ 1 1 [.int .i64 (j : Int), .int .i64 (j : Int)] rfl rfl (two_new _ _ _ _) (by simp [Value.oneCell']) (by unfold maxLen; omega) (by omega) (by simp; omega) ?_)
          intro v' w4 hown' hgrow _
          have HFIN : Hid (w4.ownsRow W1.heap.size 28 2 v' (crF rows path limit (j + 1)).length (pairCells (crF rows path limit (j + 1))) ∧ Below W1.heap.size W1 w4) := by
            refine ⟨?_, (HI.out.2.alloc HI.out.2.size _).grown hgrow (by simp; omega) (fun z e => (HI.out.1.lt z e).1)⟩
            rw [HJ.out, pairCells_snoc, List.length_append, HLNE.out]
            exact hown'
          clear hown' hgrow
          go_wp2
          go_roundw
          case rel => exact ⟨j + 1, by omega, by go_num, HFIN.out⟩
          case measure => simp [intOf]; omega
        · obtain ⟨q, hq⟩ : ∃ q, ln = q + 1 := ⟨ln - 1, by omega⟩
          obtain ⟨gc, rfl⟩ := hform (by omega)
          have HQ : Hid ((crF rows path limit j).length = q + 1) := hln.trans hq
          obtain ⟨_, hch⟩ := pairCells_at (crF rows path limit j) q (by rw [HQ.out]; omega)
          have hcq := (HI.out.1.cellAt (q * 2 + 1) (by omega)).trans hch
          have hfq := HI.out.1.frozenAt (q * 2 + 1)
          have hgc := (HI.out.1.lt gc rfl).1
          obtain ⟨hi, hhi⟩ : ∃ hi, ((crF rows path limit j).getD q (0, 0)).2 = hi := ⟨_, rfl⟩
          rw [hhi] at hcq
          have hz1' : IntKind.i64.wrap ((ln : Int) - 1) = (q : Int) := by rw [show (ln : Int) - 1 = (q : Int) by omega]; exact IntWalk.i64_in _ (by omega)
          have hz2' : (ln : Int) - 1 = (q : Int) := by omega
          have hz3' : (0 : Int) ≤ (q : Int) := by omega
          have hz4' : (q : Int) < (ln : Int) := by omega
          have hz5' : decide ((0 : Int) ≤ (q : Int)) = true := decide_eq_true (by omega)
          have hz6' : IntKind.i64.wrap ((j : Int) - 1) = (j : Int) - 1 := IntWalk.i64_in _ (by omega)
          have HLQ : Hid (ln = q + 1) := hq
          have hqb : q < 1000000 := by omega
          clear hch hln hq
          by_cases heq : hi = (j : Int) - 1
          · have HJ : Hid (crF rows path limit (j + 1) = (crF rows path limit j).set q (((crF rows path limit j).getD q (0, 0)).1, (j : Int))) := by
              show _ = _
              exact crF_join (by rw [HV.out]; omega) HQ.out (hhi.trans heq)
            have heb : (hi == (j : Int) - 1) = true := by rw [heq]; simp
            have HFIN : Hid ((wd.setCell ⟨gc, q * 2 + 1, none⟩ (.int .i64 (j : Int))).ownsRow W1.heap.size 28 2 (.slice (some ⟨gc, 0, none⟩) ln cap) (crF rows path limit (j + 1)).length (pairCells (crF rows path limit (j + 1))) ∧ Below W1.heap.size W1 (wd.setCell ⟨gc, q * 2 + 1, none⟩ (.int .i64 (j : Int)))) := by
              refine ⟨?_, HI.out.2.setCell (p := ⟨gc, q * 2 + 1, none⟩) hgc _⟩
              have h := (HI.out.1.stored (q * 2 + 1) (.int .i64 (j : Int))).1
              rw [pairCells_set2 _ _ _ (by rw [HQ.out]; omega)] at h
              rw [HJ.out, List.length_set, HLNE.out]
              exact h
            clear heq hhi
            go_wp2
            go_roundw
            case rel => exact ⟨j + 1, by omega, by go_num, HFIN.out⟩
            case measure => simp [intOf]; omega
          · have HJ : Hid (crF rows path limit (j + 1) = crF rows path limit j ++ [((j : Int), (j : Int))]) := by
              show _ = _
              exact crF_apart (by rw [HV.out]; omega) HQ.out (by rw [hhi]; exact heq)
            have heb : (hi == (j : Int) - 1) = false := by rw [beq_eq_false_iff_ne]; exact heq
            clear heq hhi
            go_wp2_with (at_builtin; refine wpList_append_own _ rfl (.tmp 49) (.tmp 53) 59 rfl W1.heap.size 28 i0 _ 2 16 Tryd.underlying59 hi0 hz0 hz1 hz2 rfl (by decide) _ _ _ rfl (HI.out.1.alloc _) ⟨wd.heap.size, 0, none⟩ 1 1 [.int .i64 (j : Int), .int .i64 (j : Int)] rfl rfl (two_new _ _ _ _) (by simp [Value.oneCell']) (by unfold maxLen; omega) (by omega) (by simp; omega) ?_)
            intro v' w4 hown' hgrow _
            have HFIN : Hid (w4.ownsRow W1.heap.size 28 2 v' (crF rows path limit (j + 1)).length (pairCells (crF rows path limit (j + 1))) ∧ Below W1.heap.size W1 w4) := by
              refine ⟨?_, (HI.out.2.alloc HI.out.2.size _).grown hgrow (by simp; omega) (fun z e => (HI.out.1.lt z e).1)⟩
              rw [HJ.out, pairCells_snoc, List.length_append, HLNE.out]
              exact hown'
            clear hown' hgrow
            go_wp2
            go_roundw
            case rel => exact ⟨j + 1, by omega, by go_num, HFIN.out⟩
            case measure => simp [intOf]; omega
    · obtain rfl : n = j := by omega
      go_wp2
      go_ret
      exact ⟨⟨_, rfl, ownMono HI.out.1 HB2.out.size⟩, HB2.out.trans (HI.out.2.mono HB2.out.size)⟩

end Go.Proofs.YtofdjapbofagiaaDoor

namespace Go.Proofs.YtofdjapbofagiaaDoor
open Go.RowKit

set_option maxRecDepth 100000 in
set_option maxHeartbeats 1000000 in
/-- Two slices that read as the same pairs are equal. -/
theorem ranges_same (A B : Option Addr) (g h n c d : Nat) (ps : List (Int × Int)) (w : World) (hr : RdR w g n ps) (hs : RdR w h n ps) (hn : n ≤ 1000000) (hA : 0 < n → A = some ⟨g, 0, none⟩) (hB : 0 < n → B = some ⟨h, 0, none⟩) :
    Calls Tryd.prog 31 #[.slice A n c, .slice B n d] w fun e w' => e = .returned (.bool true) ∧ Below w.heap.size w w' := by
  have HR := Lib.hid hr
  have HS := Lib.hid hs
  have HA := Lib.hid hA
  have HB := Lib.hid hB
  have hne : ((n : Int) != (n : Int)) = false := bne_self_eq_false' _
  clear hr hs hA hB
  go_enter Tryd.func31, Tryd.ntmps31
  go_wp2
  clear hne
  go_loopw [5] (fun i wr => ∃ k : Nat, k ≤ n ∧ i = .int .i64 k ∧ Hid (∃ j, wr = w.drewN j)) (fun i _ => n - (intOf i).toNat)
  case atStart => exact ⟨0, Nat.zero_le _, rfl, 0, rfl⟩
  case round =>
    obtain ⟨k, hk, rfl, HJ⟩ := hrel
    obtain ⟨j, hj⟩ := HJ.out
    by_cases hlt : k < n
    · have hkI : (k : Int) < (n : Int) := by omega
      have hk0 : (0 : Int) ≤ (k : Int) := by omega
      obtain ⟨h1, h2⟩ := HR.out.2.2 k hlt
      obtain ⟨h3, h4⟩ := HS.out.2.2 k hlt
      have eA := HA.out (by omega)
      have eB := HB.out (by omega)
      subst eA eB
      obtain ⟨⟨x, y⟩, hxy⟩ : ∃ p, ps.getD k (0, 0) = p := ⟨_, rfl⟩
      rw [hxy] at h1 h2 h3 h4
      dsimp only at h1 h2 h3 h4
      have q1 : wr.cell? ⟨g, k * 2, none⟩ = some (.int .i64 x) := by rw [hj]; exact h1
      have q2 : wr.cell? ⟨g, k * 2 + 1, none⟩ = some (.int .i64 y) := by rw [hj]; exact h2
      have q3 : wr.cell? ⟨h, k * 2, none⟩ = some (.int .i64 x) := by rw [hj]; exact h3
      have q4 : wr.cell? ⟨h, k * 2 + 1, none⟩ = some (.int .i64 y) := by rw [hj]; exact h4
      have HJ' := Lib.hid hj
      clear hj HJ h1 h2 h3 h4 hxy
      go_wp2
      go_quiet (fail)
      go_wp2
      go_roundw
      case rel =>
        refine ⟨k + 1, by omega, by go_num, ?_⟩
        show ∃ _, _ = _
        rw [HJ'.out]; exact ⟨_, World.drewN_drewN _ _ _⟩
      case measure => simp [intOf]; omega
    · obtain rfl : n = k := by omega
      clear hj
      go_wp2
      go_ret
      obtain ⟨j, hj⟩ := HJ.out
      exact ⟨rfl, by rw [hj]; exact belowDrewN (Below.refl _ _) _⟩

end Go.Proofs.YtofdjapbofagiaaDoor

namespace Go.Proofs.YtofdjapbofagiaaDoor
open Go.RowKit

set_option maxRecDepth 100000 in
set_option maxHeartbeats 8000000 in
theorem refPathErr_same (ad : Addr) (n c m c' : Nat) (B : Option Addr) (b : Int) (P : Option Addr) (cp : Nat) (path : List Int) (w : World) (hn : 0 < n ∧ n ≤ 1000000) (hm : m ≤ 1000000) (hadb : ad.block < w.heap.size) (hck : w.cell? ad = some (.slice B m c')) (hp : RdI w P n path) :
    Calls Tryd.prog 28 #[.agg #[.slice (some ad) n c, .int .i64 b], .slice P n cp] w fun e w' => e = .returned (.int .i64 (pathE n m path)) ∧ Below w.heap.size w w' := by
  have hb0 : Below w.heap.size w (w.alloc (.cells #[.slice (some ad) n c, .int .i64 b] 53)) := (Below.refl _ w).alloc (Nat.le_refl _) _
  have HP1 := Lib.hid (hp.below hb0)
  have HB0 := Lib.hid hb0
  have HK : Hid ((w.alloc (.cells #[.slice (some ad) n c, .int .i64 b] 53)).cell? ad = some (.slice B m c')) := (hb0.cell hadb).trans hck
  have HZ : Hid (ad.block < (w.alloc (.cells #[.slice (some ad) n c, .int .i64 b] 53)).heap.size) := Nat.lt_of_lt_of_le hadb hb0.size
  have HN := Lib.hid (Bk.new w 53 #[.slice (some ad) n c, .int .i64 b])
  have HE : Hid (pathE n m path = firstF (pAt m path) n) := if_pos hp.1
  have hne : ((n : Int) != (n : Int)) = false := bne_self_eq_false' _
  have hn0 : (0 : Int) < (n : Int) := by omega
  have hnb : n ≤ 1000000 := hn.2
  have hnN : 0 < n := hn.1
  have hz1 : IntKind.i64.wrap ((m : Int) - 1) = (m : Int) - 1 := IntWalk.i64_in _ (by omega)
  rw [HE.out]
  clear hb0 hck hp hadb hn
  go_enter Tryd.func28, Tryd.ntmps28
  go_wp2
  obtain ⟨g, hgw⟩ : ∃ g, w.heap.size = g := ⟨_, rfl⟩
  have HGW := Lib.hid hgw
  obtain ⟨W1, hW1⟩ : ∃ W, (w.alloc (.cells #[.slice (some ad) n c, .int .i64 b] 53)) = W := ⟨_, rfl⟩
  rw [hW1] at HP1 HN HB0 HK HZ ⊢
  rw [hgw] at HN
  try rw [hgw]
  clear hW1 hgw hne
  go_loopw [5] (fun i wr => ∃ j : Nat, j ≤ n ∧ i = .int .i64 j ∧ Hid (firstF (pAt m path) j = 0) ∧ Hid (Below W1.heap.size W1 wr)) (fun i _ => n - (intOf i).toNat)
  case atStart => exact ⟨0, Nat.zero_le _, rfl, rfl, Below.refl _ _⟩
  case round =>
    obtain ⟨j, hj, rfl, HF, HX⟩ := hrel
    by_cases hlt : j < n
    · have hjI : (j : Int) < (n : Int) := by omega
      have hj0 : (0 : Int) ≤ (j : Int) := by omega
      have qn := HN.out.later HX.out
      have n0 : wr.cell? ⟨g, 0, none⟩ = some (.slice (some ad) n c) := by rw [qn.cell]; rfl
      have k0 : wr.cell? ad = some (.slice B m c') := (HX.out.cell HZ.out).trans HK.out
      obtain ⟨pd, hP, hpdb, hc⟩ := (HP1.out.below HX.out).2 (by omega)
      subst hP
      have c1 := hc j hlt
      have HC := Lib.hid hc
      obtain ⟨x, hx⟩ : ∃ x, path.getD j 0 = x := ⟨_, rfl⟩
      have HXE := Lib.hid hx
      rw [hx] at c1
      clear hc hx qn
      by_cases hin : 0 ≤ x ∧ x ≤ (m : Int) - 1
      · have HFB : Hid (fromB 0 ((m : Int) - 1) [x] = true) := fromB_one.2 hin
        have HIN := Lib.hid hin
        obtain ⟨hx0, hxm⟩ := hin
        by_cases h0 : j = 0
        · have HF2 : Hid (firstF (pAt m path) (j + 1) = 0) := by
            show _ = _
            rw [firstF_step HF.out]
            subst h0
            exact pAt_first (by rw [HXE.out]; exact HIN.out)
          have hgd : decide ((0 : Int) < (j : Int)) = false := decide_eq_false (by omega)
          have hgn : decide (0 < j) = false := decide_eq_false (by omega)
          clear h0
          have HS0 : Hid ((fun w' : World => w'.cell? ⟨g, 0, none⟩ = some (.slice (some ad) n c) ∧ w'.cell? ad = some (.slice B m c') ∧ w'.cell? (pd.add j) = some (.int .i64 x) ∧ Below W1.heap.size W1 w') wr.drew) := ⟨n0, k0, c1, HX.out.drew⟩
          have CB : Hid (∀ W', (fun w' : World => w'.cell? ⟨g, 0, none⟩ = some (.slice (some ad) n c) ∧ w'.cell? ad = some (.slice B m c') ∧ w'.cell? (pd.add j) = some (.int .i64 x) ∧ Below W1.heap.size W1 w') W' → Calls Tryd.prog 30 #[.int .i64 x, .int .i64 0, .int .i64 ((m : Int) - 1)] W' fun e w' => e = .returned (.bool true) ∧ (fun w' : World => w'.cell? ⟨g, 0, none⟩ = some (.slice (some ad) n c) ∧ w'.cell? ad = some (.slice B m c') ∧ w'.cell? (pd.add j) = some (.int .i64 x) ∧ Below W1.heap.size W1 w') w') := by
            intro W' hS
            have h := within_any x 0 ((m : Int) - 1) W'
            rw [HFB.out] at h
            refine h.mono ?_
            rintro e w' ⟨he, hw⟩
            subst hw
            exact ⟨he, hS⟩
          clear n0 k0 c1
          go_wp2
          refine wp_region_held_drew (S := (fun w' : World => w'.cell? ⟨g, 0, none⟩ = some (.slice (some ad) n c) ∧ w'.cell? ad = some (.slice B m c') ∧ w'.cell? (pd.add j) = some (.int .i64 x) ∧ Below W1.heap.size W1 w')) (by kernel_rfl) ?_ ?_
          · first | exact hs2 | exact HS0.out
          intro hHeld
          refine wpAnyH_take (i := 0) (v := ?_) rfl (by kernel_rfl) (by kernel_rfl) (by kernel_rfl) (fun _ _ _ h => h) (Or.inl ⟨by rfl, ?_⟩) (by assumption) ?_
          rotate_left
          · intro w hSw; (try dsimp only at hSw); go_simp; (try (with_reducible rfl))
          try simp only [List.getElem_toArray, List.getElem_cons_succ, List.getElem_cons_zero, Act.put, List.setIfInBounds_toArray, List.set_cons_zero, List.set_cons_succ]
          refine wpAnyH_take (i := 1) (v := ?_) rfl (by kernel_rfl) (by kernel_rfl) (by kernel_rfl) (fun _ _ _ h => h) (Or.inl ⟨by rfl, ?_⟩) (by assumption) ?_
          rotate_left
          · intro w hSw; (try dsimp only at hSw); go_simp; (try (with_reducible rfl))
          try simp only [List.getElem_toArray, List.getElem_cons_succ, List.getElem_cons_zero, Act.put, List.setIfInBounds_toArray, List.set_cons_zero, List.set_cons_succ]
          refine wpAnyH_take (i := 2) (v := ?_) rfl (by kernel_rfl) (by kernel_rfl) (by kernel_rfl) (fun _ _ _ h => h) (Or.inl ⟨by rfl, ?_⟩) (by assumption) ?_
          rotate_left
          · intro w hSw; (try dsimp only at hSw); go_simp; (try (with_reducible rfl))
          try simp only [List.getElem_toArray, List.getElem_cons_succ, List.getElem_cons_zero, Act.put, List.setIfInBounds_toArray, List.set_cons_zero, List.set_cons_succ]
          refine wpAnyH_take (i := 3) (v := ?_) rfl (by kernel_rfl) (by kernel_rfl) (by kernel_rfl) (fun _ _ _ h => h) (Or.inl ⟨by rfl, ?_⟩) (by assumption) ?_
          rotate_left
          · intro w hSw; (try dsimp only at hSw); go_simp; (try (with_reducible rfl))
          try simp only [List.getElem_toArray, List.getElem_cons_succ, List.getElem_cons_zero, Act.put, List.setIfInBounds_toArray, List.set_cons_zero, List.set_cons_succ]
          refine wpAnyH_take (i := 4) (v := ?_) rfl (by kernel_rfl) (by kernel_rfl) (by kernel_rfl) (fun _ _ _ h => h) (Or.inl ⟨by rfl, ?_⟩) (by assumption) ?_
          rotate_left
          · intro w hSw; (try dsimp only at hSw); go_simp; (try (with_reducible rfl))
          try simp only [List.getElem_toArray, List.getElem_cons_succ, List.getElem_cons_zero, Act.put, List.setIfInBounds_toArray, List.set_cons_zero, List.set_cons_succ]
          refine wpAnyH_take (i := 5) (v := ?_) rfl (by kernel_rfl) (by kernel_rfl) (by kernel_rfl) (fun _ _ _ h => h) (Or.inl ⟨by rfl, ?_⟩) (by assumption) ?_
          rotate_left
          · intro w hSw; (try dsimp only at hSw); go_simp; (try (with_reducible rfl))
          try simp only [List.getElem_toArray, List.getElem_cons_succ, List.getElem_cons_zero, Act.put, List.setIfInBounds_toArray, List.set_cons_zero, List.set_cons_succ]
          refine wpAnyH_take (i := 6) (v := ?_) rfl (by kernel_rfl) (by kernel_rfl) (by kernel_rfl) (fun _ _ _ h => h) (Or.inl ⟨by rfl, ?_⟩) (by assumption) ?_
          rotate_left
          · intro w hSw; (try dsimp only at hSw); go_simp; (try (with_reducible rfl))
          try simp only [List.getElem_toArray, List.getElem_cons_succ, List.getElem_cons_zero, Act.put, List.setIfInBounds_toArray, List.set_cons_zero, List.set_cons_succ]
          refine wpAnyH_take (i := 7) (v := ?_) rfl (by kernel_rfl) (by kernel_rfl) (by kernel_rfl) (fun _ _ _ h => h) (Or.inl ⟨by rfl, ?_⟩) (by assumption) ?_
          rotate_left
          · intro w hSw; (try dsimp only at hSw); go_simp; (try (with_reducible rfl))
          try simp only [List.getElem_toArray, List.getElem_cons_succ, List.getElem_cons_zero, Act.put, List.setIfInBounds_toArray, List.set_cons_zero, List.set_cons_succ]
          refine wpAnyH_take (i := 8) (v := ?_) rfl (by kernel_rfl) (by kernel_rfl) (by kernel_rfl) (fun _ _ _ h => h) (Or.inl ⟨by rfl, ?_⟩) (by assumption) ?_
          rotate_left
          · intro w hSw; (try dsimp only at hSw); go_simp; (try (with_reducible rfl))
          try simp only [List.getElem_toArray, List.getElem_cons_succ, List.getElem_cons_zero, Act.put, List.setIfInBounds_toArray, List.set_cons_zero, List.set_cons_succ]
          refine wpAnyH_take (i := 9) (v := ?_) rfl (by kernel_rfl) (by kernel_rfl) (by kernel_rfl) (fun _ _ _ h => h) (Or.inl ⟨by rfl, ?_⟩) (by assumption) ?_
          rotate_left
          · intro w hSw; (try dsimp only at hSw); go_simp; (try (with_reducible rfl))
          try simp only [List.getElem_toArray, List.getElem_cons_succ, List.getElem_cons_zero, Act.put, List.setIfInBounds_toArray, List.set_cons_zero, List.set_cons_succ]
          refine wpAnyH_ready (rs := [10]) (by kernel_rfl) (by simp) ?_
          refine AllReadyH.cons rfl (fun K hK => ?_) AllReadyH.nil
          go_simp
          go_at_call 30; refine (CB.out _ hHeld).mono ?_; rintro e w2 ⟨rfl, hs2⟩
          go_wp2_with fail
          refine hK.out _ _ ?_ (fun hHeld => ?_)
          · clear hK K; first | exact hs2 | exact HS0.out
          clear hK K
          try simp only [List.getElem_toArray, List.getElem_cons_succ, List.getElem_cons_zero, Act.put, List.setIfInBounds_toArray, List.set_cons_zero, List.set_cons_succ]
          refine wpAnyH_take (i := 11) (v := ?_) rfl (by kernel_rfl) (by kernel_rfl) (by kernel_rfl) (fun _ _ _ h => h) (Or.inl ⟨by rfl, ?_⟩) (by assumption) ?_
          rotate_left
          · intro w hSw; (try dsimp only at hSw); go_simp; (try (with_reducible rfl))
          try simp only [List.getElem_toArray, List.getElem_cons_succ, List.getElem_cons_zero, Act.put, List.setIfInBounds_toArray, List.set_cons_zero, List.set_cons_succ]
          refine wpAnyH_done (by kernel_rfl) ?_ _
          obtain ⟨a1, a2, a3, a4⟩ := hHeld
          have HS1 : Hid ((fun w' : World => w'.cell? ⟨g, 0, none⟩ = some (.slice (some ad) n c) ∧ w'.cell? ad = some (.slice B m c') ∧ w'.cell? (pd.add j) = some (.int .i64 x) ∧ Below W1.heap.size W1 w') w2.drew) := ⟨a1, a2, a3, a4.drew⟩
          have HBL := Lib.hid a4
          clear a1 a2 a3 a4 CB HS0 hs2
          go_wp2
          refine wp_region_held_drew (S := (fun w' : World => w'.cell? ⟨g, 0, none⟩ = some (.slice (some ad) n c) ∧ w'.cell? ad = some (.slice B m c') ∧ w'.cell? (pd.add j) = some (.int .i64 x) ∧ Below W1.heap.size W1 w')) (by kernel_rfl) ?_ ?_
          · exact HS1.out
          intro hHeld
          refine wpAnyH_take (i := 0) (v := ?_) rfl (by kernel_rfl) (by kernel_rfl) (by kernel_rfl) (fun _ _ _ h => h) (Or.inl ⟨by rfl, ?_⟩) (by assumption) ?_
          rotate_left
          · intro w hSw; (try dsimp only at hSw); go_simp; (try (with_reducible rfl))
          try simp only [List.getElem_toArray, List.getElem_cons_succ, List.getElem_cons_zero, Act.put, List.setIfInBounds_toArray, List.set_cons_zero, List.set_cons_succ]
          refine wpAnyH_take (i := 1) (v := ?_) rfl (by kernel_rfl) (by kernel_rfl) (by kernel_rfl) (fun _ _ _ h => h) (Or.inl ⟨by rfl, ?_⟩) (by assumption) ?_
          rotate_left
          · intro w hSw; (try dsimp only at hSw); go_simp; (try (with_reducible rfl))
          try simp only [List.getElem_toArray, List.getElem_cons_succ, List.getElem_cons_zero, Act.put, List.setIfInBounds_toArray, List.set_cons_zero, List.set_cons_succ]
          refine wpAnyH_take (i := 2) (v := ?_) rfl (by kernel_rfl) (by kernel_rfl) (by kernel_rfl) (fun _ _ _ h => h) (Or.inl ⟨by rfl, ?_⟩) (by assumption) ?_
          rotate_left
          · intro w hSw; (try dsimp only at hSw); go_simp; (try (with_reducible rfl))
          try simp only [List.getElem_toArray, List.getElem_cons_succ, List.getElem_cons_zero, Act.put, List.setIfInBounds_toArray, List.set_cons_zero, List.set_cons_succ]
          refine wpAnyH_take (i := 3) (v := undef) rfl (by kernel_rfl) (by kernel_rfl) (by kernel_rfl) (fun _ _ _ h => h) (Or.inr ⟨by rfl, rfl⟩) (by assumption) ?_
          try simp only [List.getElem_toArray, List.getElem_cons_succ, List.getElem_cons_zero, Act.put, List.setIfInBounds_toArray, List.set_cons_zero, List.set_cons_succ]
          refine wpAnyH_take (i := 4) (v := undef) rfl (by kernel_rfl) (by kernel_rfl) (by kernel_rfl) (fun _ _ _ h => h) (Or.inr ⟨by rfl, rfl⟩) (by assumption) ?_
          try simp only [List.getElem_toArray, List.getElem_cons_succ, List.getElem_cons_zero, Act.put, List.setIfInBounds_toArray, List.set_cons_zero, List.set_cons_succ]
          refine wpAnyH_take (i := 5) (v := undef) rfl (by kernel_rfl) (by kernel_rfl) (by kernel_rfl) (fun _ _ _ h => h) (Or.inr ⟨by rfl, rfl⟩) (by assumption) ?_
          try simp only [List.getElem_toArray, List.getElem_cons_succ, List.getElem_cons_zero, Act.put, List.setIfInBounds_toArray, List.set_cons_zero, List.set_cons_succ]
          refine wpAnyH_take (i := 6) (v := undef) rfl (by kernel_rfl) (by kernel_rfl) (by kernel_rfl) (fun _ _ _ h => h) (Or.inr ⟨by rfl, rfl⟩) (by assumption) ?_
          try simp only [List.getElem_toArray, List.getElem_cons_succ, List.getElem_cons_zero, Act.put, List.setIfInBounds_toArray, List.set_cons_zero, List.set_cons_succ]
          refine wpAnyH_take (i := 7) (v := undef) rfl (by kernel_rfl) (by kernel_rfl) (by kernel_rfl) (fun _ _ _ h => h) (Or.inr ⟨by rfl, rfl⟩) (by assumption) ?_
          try simp only [List.getElem_toArray, List.getElem_cons_succ, List.getElem_cons_zero, Act.put, List.setIfInBounds_toArray, List.set_cons_zero, List.set_cons_succ]
          refine wpAnyH_take (i := 8) (v := undef) rfl (by kernel_rfl) (by kernel_rfl) (by kernel_rfl) (fun _ _ _ h => h) (Or.inr ⟨by rfl, rfl⟩) (by assumption) ?_
          try simp only [List.getElem_toArray, List.getElem_cons_succ, List.getElem_cons_zero, Act.put, List.setIfInBounds_toArray, List.set_cons_zero, List.set_cons_succ]
          refine wpAnyH_take (i := 9) (v := undef) rfl (by kernel_rfl) (by kernel_rfl) (by kernel_rfl) (fun _ _ _ h => h) (Or.inr ⟨by rfl, rfl⟩) (by assumption) ?_
          try simp only [List.getElem_toArray, List.getElem_cons_succ, List.getElem_cons_zero, Act.put, List.setIfInBounds_toArray, List.set_cons_zero, List.set_cons_succ]
          refine wpAnyH_take (i := 10) (v := undef) rfl (by kernel_rfl) (by kernel_rfl) (by kernel_rfl) (fun _ _ _ h => h) (Or.inr ⟨by rfl, rfl⟩) (by assumption) ?_
          try simp only [List.getElem_toArray, List.getElem_cons_succ, List.getElem_cons_zero, Act.put, List.setIfInBounds_toArray, List.set_cons_zero, List.set_cons_succ]
          refine wpAnyH_take (i := 11) (v := undef) rfl (by kernel_rfl) (by kernel_rfl) (by kernel_rfl) (fun _ _ _ h => h) (Or.inr ⟨by rfl, rfl⟩) (by assumption) ?_
          try simp only [List.getElem_toArray, List.getElem_cons_succ, List.getElem_cons_zero, Act.put, List.setIfInBounds_toArray, List.set_cons_zero, List.set_cons_succ]
          refine wpAnyH_take (i := 12) (v := undef) rfl (by kernel_rfl) (by kernel_rfl) (by kernel_rfl) (fun _ _ _ h => h) (Or.inr ⟨by rfl, rfl⟩) (by assumption) ?_
          try simp only [List.getElem_toArray, List.getElem_cons_succ, List.getElem_cons_zero, Act.put, List.setIfInBounds_toArray, List.set_cons_zero, List.set_cons_succ]
          refine wpAnyH_take (i := 13) (v := undef) rfl (by kernel_rfl) (by kernel_rfl) (by kernel_rfl) (fun _ _ _ h => h) (Or.inr ⟨by rfl, rfl⟩) (by assumption) ?_
          try simp only [List.getElem_toArray, List.getElem_cons_succ, List.getElem_cons_zero, Act.put, List.setIfInBounds_toArray, List.set_cons_zero, List.set_cons_succ]
          refine wpAnyH_take (i := 14) (v := undef) rfl (by kernel_rfl) (by kernel_rfl) (by kernel_rfl) (fun _ _ _ h => h) (Or.inr ⟨by rfl, rfl⟩) (by assumption) ?_
          try simp only [List.getElem_toArray, List.getElem_cons_succ, List.getElem_cons_zero, Act.put, List.setIfInBounds_toArray, List.set_cons_zero, List.set_cons_succ]
          refine wpAnyH_take (i := 15) (v := ?_) rfl (by kernel_rfl) (by kernel_rfl) (by kernel_rfl) (fun _ _ _ h => h) (Or.inl ⟨by rfl, ?_⟩) (by assumption) ?_
          rotate_left
          · intro w hSw; (try dsimp only at hSw); go_simp; (try (with_reducible rfl))
          try simp only [List.getElem_toArray, List.getElem_cons_succ, List.getElem_cons_zero, Act.put, List.setIfInBounds_toArray, List.set_cons_zero, List.set_cons_succ]
          refine wpAnyH_done (by kernel_rfl) ?_ _
          clear hHeld HS1
          go_wp2
          go_roundw
          case rel => exact ⟨j + 1, by omega, by go_num, HF2.out, HBL.out.drew⟩
          case measure => simp [intOf]; omega
        · obtain ⟨q, hq⟩ : ∃ q, j = q + 1 := ⟨j - 1, by omega⟩
          have c2 := HC.out q (by omega)
          have hyb := pAt_in (firstF_ok HF.out q (by omega))
          obtain ⟨y, hy⟩ : ∃ y, path.getD q 0 = y := ⟨_, rfl⟩
          rw [hy] at c2 hyb
          have HYE : Hid (path.getD (j - 1) 0 = y) := by show _ = _; rw [show j - 1 = q by omega]; exact hy
          obtain ⟨hy0, hym⟩ := hyb
          have hz2 : IntKind.i64.wrap ((j : Int) - 1) = (q : Int) := by rw [show (j : Int) - 1 = (q : Int) by omega]; exact IntWalk.i64_in _ (by omega)
          have hz3 : (0 : Int) ≤ (q : Int) := by omega
          have hz4 : (q : Int) < (n : Int) := by omega
          have hz5 : IntKind.i64.wrap (x - y) = x - y := IntWalk.i64_in _ (by omega)
          have hgd : decide ((0 : Int) < (j : Int)) = true := decide_eq_true (by omega)
          have hgp : (0 : Int) < (j : Int) := by omega
          have hgq : decide (0 < j) = true := decide_eq_true (by omega)
          have HS0 : Hid ((fun w' : World => w'.cell? ⟨g, 0, none⟩ = some (.slice (some ad) n c) ∧ w'.cell? ad = some (.slice B m c') ∧ w'.cell? (pd.add j) = some (.int .i64 x) ∧ w'.cell? (pd.add q) = some (.int .i64 y) ∧ Below W1.heap.size W1 w') wr.drew) := ⟨n0, k0, c1, c2, HX.out.drew⟩
          have CB : Hid (∀ W', (fun w' : World => w'.cell? ⟨g, 0, none⟩ = some (.slice (some ad) n c) ∧ w'.cell? ad = some (.slice B m c') ∧ w'.cell? (pd.add j) = some (.int .i64 x) ∧ w'.cell? (pd.add q) = some (.int .i64 y) ∧ Below W1.heap.size W1 w') W' → Calls Tryd.prog 30 #[.int .i64 x, .int .i64 0, .int .i64 ((m : Int) - 1)] W' fun e w' => e = .returned (.bool true) ∧ (fun w' : World => w'.cell? ⟨g, 0, none⟩ = some (.slice (some ad) n c) ∧ w'.cell? ad = some (.slice B m c') ∧ w'.cell? (pd.add j) = some (.int .i64 x) ∧ w'.cell? (pd.add q) = some (.int .i64 y) ∧ Below W1.heap.size W1 w') w') := by
            intro W' hS
            have h := within_any x 0 ((m : Int) - 1) W'
            rw [HFB.out] at h
            refine h.mono ?_
            rintro e w' ⟨he, hw⟩
            subst hw
            exact ⟨he, hS⟩
          have HQ := Lib.hid hq
          clear n0 k0 c1 c2 hy hq
          by_cases hs : -1 ≤ x - y ∧ x - y ≤ 1
          · have HFD : Hid (fromB (-1) 1 [x - y] = true) := fromB_one.2 hs
            have HF2 : Hid (firstF (pAt m path) (j + 1) = 0) := by
              show _ = _
              rw [firstF_step HF.out, pAt_step (by rw [HXE.out]; exact HIN.out) (by rw [HXE.out, HYE.out]; exact hs)]
            have CD : Hid (∀ W', (fun w' : World => w'.cell? ⟨g, 0, none⟩ = some (.slice (some ad) n c) ∧ w'.cell? ad = some (.slice B m c') ∧ w'.cell? (pd.add j) = some (.int .i64 x) ∧ w'.cell? (pd.add q) = some (.int .i64 y) ∧ Below W1.heap.size W1 w') W' → Calls Tryd.prog 30 #[.int .i64 (x - y), .int .i64 (-1), .int .i64 1] W' fun e w' => e = .returned (.bool true) ∧ (fun w' : World => w'.cell? ⟨g, 0, none⟩ = some (.slice (some ad) n c) ∧ w'.cell? ad = some (.slice B m c') ∧ w'.cell? (pd.add j) = some (.int .i64 x) ∧ w'.cell? (pd.add q) = some (.int .i64 y) ∧ Below W1.heap.size W1 w') w') := by
              intro W' hS
              have h := within_any (x - y) (-1) 1 W'
              rw [HFD.out] at h
              refine h.mono ?_
              rintro e w' ⟨he, hw⟩
              subst hw
              exact ⟨he, hS⟩
            clear hs
            go_wp2
            refine wp_region_held_drew (S := (fun w' : World => w'.cell? ⟨g, 0, none⟩ = some (.slice (some ad) n c) ∧ w'.cell? ad = some (.slice B m c') ∧ w'.cell? (pd.add j) = some (.int .i64 x) ∧ w'.cell? (pd.add q) = some (.int .i64 y) ∧ Below W1.heap.size W1 w')) (by kernel_rfl) ?_ ?_
            · first | exact hs2 | exact HS0.out
            intro hHeld
            refine wpAnyH_take (i := 0) (v := ?_) rfl (by kernel_rfl) (by kernel_rfl) (by kernel_rfl) (fun _ _ _ h => h) (Or.inl ⟨by rfl, ?_⟩) (by assumption) ?_
            rotate_left
            · intro w hSw; (try dsimp only at hSw); go_simp; (try (with_reducible rfl))
            try simp only [List.getElem_toArray, List.getElem_cons_succ, List.getElem_cons_zero, Act.put, List.setIfInBounds_toArray, List.set_cons_zero, List.set_cons_succ]
            refine wpAnyH_take (i := 1) (v := ?_) rfl (by kernel_rfl) (by kernel_rfl) (by kernel_rfl) (fun _ _ _ h => h) (Or.inl ⟨by rfl, ?_⟩) (by assumption) ?_
            rotate_left
            · intro w hSw; (try dsimp only at hSw); go_simp; (try (with_reducible rfl))
            try simp only [List.getElem_toArray, List.getElem_cons_succ, List.getElem_cons_zero, Act.put, List.setIfInBounds_toArray, List.set_cons_zero, List.set_cons_succ]
            refine wpAnyH_take (i := 2) (v := ?_) rfl (by kernel_rfl) (by kernel_rfl) (by kernel_rfl) (fun _ _ _ h => h) (Or.inl ⟨by rfl, ?_⟩) (by assumption) ?_
            rotate_left
            · intro w hSw; (try dsimp only at hSw); go_simp; (try (with_reducible rfl))
            try simp only [List.getElem_toArray, List.getElem_cons_succ, List.getElem_cons_zero, Act.put, List.setIfInBounds_toArray, List.set_cons_zero, List.set_cons_succ]
            refine wpAnyH_take (i := 3) (v := ?_) rfl (by kernel_rfl) (by kernel_rfl) (by kernel_rfl) (fun _ _ _ h => h) (Or.inl ⟨by rfl, ?_⟩) (by assumption) ?_
            rotate_left
            · intro w hSw; (try dsimp only at hSw); go_simp; (try (with_reducible rfl))
            try simp only [List.getElem_toArray, List.getElem_cons_succ, List.getElem_cons_zero, Act.put, List.setIfInBounds_toArray, List.set_cons_zero, List.set_cons_succ]
            refine wpAnyH_take (i := 4) (v := ?_) rfl (by kernel_rfl) (by kernel_rfl) (by kernel_rfl) (fun _ _ _ h => h) (Or.inl ⟨by rfl, ?_⟩) (by assumption) ?_
            rotate_left
            · intro w hSw; (try dsimp only at hSw); go_simp; (try (with_reducible rfl))
            try simp only [List.getElem_toArray, List.getElem_cons_succ, List.getElem_cons_zero, Act.put, List.setIfInBounds_toArray, List.set_cons_zero, List.set_cons_succ]
            refine wpAnyH_take (i := 5) (v := ?_) rfl (by kernel_rfl) (by kernel_rfl) (by kernel_rfl) (fun _ _ _ h => h) (Or.inl ⟨by rfl, ?_⟩) (by assumption) ?_
            rotate_left
            · intro w hSw; (try dsimp only at hSw); go_simp; (try (with_reducible rfl))
            try simp only [List.getElem_toArray, List.getElem_cons_succ, List.getElem_cons_zero, Act.put, List.setIfInBounds_toArray, List.set_cons_zero, List.set_cons_succ]
            refine wpAnyH_take (i := 6) (v := ?_) rfl (by kernel_rfl) (by kernel_rfl) (by kernel_rfl) (fun _ _ _ h => h) (Or.inl ⟨by rfl, ?_⟩) (by assumption) ?_
            rotate_left
            · intro w hSw; (try dsimp only at hSw); go_simp; (try (with_reducible rfl))
            try simp only [List.getElem_toArray, List.getElem_cons_succ, List.getElem_cons_zero, Act.put, List.setIfInBounds_toArray, List.set_cons_zero, List.set_cons_succ]
            refine wpAnyH_take (i := 7) (v := ?_) rfl (by kernel_rfl) (by kernel_rfl) (by kernel_rfl) (fun _ _ _ h => h) (Or.inl ⟨by rfl, ?_⟩) (by assumption) ?_
            rotate_left
            · intro w hSw; (try dsimp only at hSw); go_simp; (try (with_reducible rfl))
            try simp only [List.getElem_toArray, List.getElem_cons_succ, List.getElem_cons_zero, Act.put, List.setIfInBounds_toArray, List.set_cons_zero, List.set_cons_succ]
            refine wpAnyH_take (i := 8) (v := ?_) rfl (by kernel_rfl) (by kernel_rfl) (by kernel_rfl) (fun _ _ _ h => h) (Or.inl ⟨by rfl, ?_⟩) (by assumption) ?_
            rotate_left
            · intro w hSw; (try dsimp only at hSw); go_simp; (try (with_reducible rfl))
            try simp only [List.getElem_toArray, List.getElem_cons_succ, List.getElem_cons_zero, Act.put, List.setIfInBounds_toArray, List.set_cons_zero, List.set_cons_succ]
            refine wpAnyH_take (i := 9) (v := ?_) rfl (by kernel_rfl) (by kernel_rfl) (by kernel_rfl) (fun _ _ _ h => h) (Or.inl ⟨by rfl, ?_⟩) (by assumption) ?_
            rotate_left
            · intro w hSw; (try dsimp only at hSw); go_simp; (try (with_reducible rfl))
            try simp only [List.getElem_toArray, List.getElem_cons_succ, List.getElem_cons_zero, Act.put, List.setIfInBounds_toArray, List.set_cons_zero, List.set_cons_succ]
            refine wpAnyH_ready (rs := [10]) (by kernel_rfl) (by simp) ?_
            refine AllReadyH.cons rfl (fun K hK => ?_) AllReadyH.nil
            go_simp
            go_at_call 30; refine (CB.out _ hHeld).mono ?_; rintro e w2 ⟨rfl, hs2⟩
            go_wp2_with fail
            refine hK.out _ _ ?_ (fun hHeld => ?_)
            · clear hK K; first | exact hs2 | exact HS0.out
            clear hK K
            try simp only [List.getElem_toArray, List.getElem_cons_succ, List.getElem_cons_zero, Act.put, List.setIfInBounds_toArray, List.set_cons_zero, List.set_cons_succ]
            refine wpAnyH_take (i := 11) (v := ?_) rfl (by kernel_rfl) (by kernel_rfl) (by kernel_rfl) (fun _ _ _ h => h) (Or.inl ⟨by rfl, ?_⟩) (by assumption) ?_
            rotate_left
            · intro w hSw; (try dsimp only at hSw); go_simp; (try (with_reducible rfl))
            try simp only [List.getElem_toArray, List.getElem_cons_succ, List.getElem_cons_zero, Act.put, List.setIfInBounds_toArray, List.set_cons_zero, List.set_cons_succ]
            refine wpAnyH_done (by kernel_rfl) ?_ _
            obtain ⟨a1, a2, a3, a4, a5⟩ := hHeld
            have HS1 : Hid ((fun w' : World => w'.cell? ⟨g, 0, none⟩ = some (.slice (some ad) n c) ∧ w'.cell? ad = some (.slice B m c') ∧ w'.cell? (pd.add j) = some (.int .i64 x) ∧ w'.cell? (pd.add q) = some (.int .i64 y) ∧ Below W1.heap.size W1 w') w2.drew) := ⟨a1, a2, a3, a4, a5.drew⟩
            clear a1 a2 a3 a4 a5 CB HS0 hs2
            go_wp2
            refine wp_region_held_drew (S := (fun w' : World => w'.cell? ⟨g, 0, none⟩ = some (.slice (some ad) n c) ∧ w'.cell? ad = some (.slice B m c') ∧ w'.cell? (pd.add j) = some (.int .i64 x) ∧ w'.cell? (pd.add q) = some (.int .i64 y) ∧ Below W1.heap.size W1 w')) (by kernel_rfl) ?_ ?_
            · first | exact hs3 | exact HS1.out
            intro hHeld
            refine wpAnyH_take (i := 0) (v := ?_) rfl (by kernel_rfl) (by kernel_rfl) (by kernel_rfl) (fun _ _ _ h => h) (Or.inl ⟨by rfl, ?_⟩) (by assumption) ?_
            rotate_left
            · intro w hSw; (try dsimp only at hSw); go_simp; (try (with_reducible rfl))
            try simp only [List.getElem_toArray, List.getElem_cons_succ, List.getElem_cons_zero, Act.put, List.setIfInBounds_toArray, List.set_cons_zero, List.set_cons_succ]
            refine wpAnyH_take (i := 1) (v := ?_) rfl (by kernel_rfl) (by kernel_rfl) (by kernel_rfl) (fun _ _ _ h => h) (Or.inl ⟨by rfl, ?_⟩) (by assumption) ?_
            rotate_left
            · intro w hSw; (try dsimp only at hSw); go_simp; (try (with_reducible rfl))
            try simp only [List.getElem_toArray, List.getElem_cons_succ, List.getElem_cons_zero, Act.put, List.setIfInBounds_toArray, List.set_cons_zero, List.set_cons_succ]
            refine wpAnyH_take (i := 2) (v := ?_) rfl (by kernel_rfl) (by kernel_rfl) (by kernel_rfl) (fun _ _ _ h => h) (Or.inl ⟨by rfl, ?_⟩) (by assumption) ?_
            rotate_left
            · intro w hSw; (try dsimp only at hSw); go_simp; (try (with_reducible rfl))
            try simp only [List.getElem_toArray, List.getElem_cons_succ, List.getElem_cons_zero, Act.put, List.setIfInBounds_toArray, List.set_cons_zero, List.set_cons_succ]
            refine wpAnyH_take (i := 3) (v := ?_) rfl (by kernel_rfl) (by kernel_rfl) (by kernel_rfl) (fun _ _ _ h => h) (Or.inl ⟨by rfl, ?_⟩) (by assumption) ?_
            rotate_left
            · intro w hSw; (try dsimp only at hSw); go_simp; (try (with_reducible rfl))
            try simp only [List.getElem_toArray, List.getElem_cons_succ, List.getElem_cons_zero, Act.put, List.setIfInBounds_toArray, List.set_cons_zero, List.set_cons_succ]
            refine wpAnyH_take (i := 4) (v := ?_) rfl (by kernel_rfl) (by kernel_rfl) (by kernel_rfl) (fun _ _ _ h => h) (Or.inl ⟨by rfl, ?_⟩) (by assumption) ?_
            rotate_left
            · intro w hSw; (try dsimp only at hSw); go_simp; (try (with_reducible rfl))
            try simp only [List.getElem_toArray, List.getElem_cons_succ, List.getElem_cons_zero, Act.put, List.setIfInBounds_toArray, List.set_cons_zero, List.set_cons_succ]
            refine wpAnyH_take (i := 5) (v := ?_) rfl (by kernel_rfl) (by kernel_rfl) (by kernel_rfl) (fun _ _ _ h => h) (Or.inl ⟨by rfl, ?_⟩) (by assumption) ?_
            rotate_left
            · intro w hSw; (try dsimp only at hSw); go_simp; (try (with_reducible rfl))
            try simp only [List.getElem_toArray, List.getElem_cons_succ, List.getElem_cons_zero, Act.put, List.setIfInBounds_toArray, List.set_cons_zero, List.set_cons_succ]
            refine wpAnyH_take (i := 6) (v := ?_) rfl (by kernel_rfl) (by kernel_rfl) (by kernel_rfl) (fun _ _ _ h => h) (Or.inl ⟨by rfl, ?_⟩) (by assumption) ?_
            rotate_left
            · intro w hSw; (try dsimp only at hSw); go_simp; (try (with_reducible rfl))
            try simp only [List.getElem_toArray, List.getElem_cons_succ, List.getElem_cons_zero, Act.put, List.setIfInBounds_toArray, List.set_cons_zero, List.set_cons_succ]
            refine wpAnyH_take (i := 7) (v := ?_) rfl (by kernel_rfl) (by kernel_rfl) (by kernel_rfl) (fun _ _ _ h => h) (Or.inl ⟨by rfl, ?_⟩) (by assumption) ?_
            rotate_left
            · intro w hSw; (try dsimp only at hSw); go_simp; (try (with_reducible rfl))
            try simp only [List.getElem_toArray, List.getElem_cons_succ, List.getElem_cons_zero, Act.put, List.setIfInBounds_toArray, List.set_cons_zero, List.set_cons_succ]
            refine wpAnyH_take (i := 8) (v := ?_) rfl (by kernel_rfl) (by kernel_rfl) (by kernel_rfl) (fun _ _ _ h => h) (Or.inl ⟨by rfl, ?_⟩) (by assumption) ?_
            rotate_left
            · intro w hSw; (try dsimp only at hSw); go_simp; (try (with_reducible rfl))
            try simp only [List.getElem_toArray, List.getElem_cons_succ, List.getElem_cons_zero, Act.put, List.setIfInBounds_toArray, List.set_cons_zero, List.set_cons_succ]
            refine wpAnyH_take (i := 9) (v := ?_) rfl (by kernel_rfl) (by kernel_rfl) (by kernel_rfl) (fun _ _ _ h => h) (Or.inl ⟨by rfl, ?_⟩) (by assumption) ?_
            rotate_left
            · intro w hSw; (try dsimp only at hSw); go_simp; (try (with_reducible rfl))
            try simp only [List.getElem_toArray, List.getElem_cons_succ, List.getElem_cons_zero, Act.put, List.setIfInBounds_toArray, List.set_cons_zero, List.set_cons_succ]
            refine wpAnyH_take (i := 10) (v := ?_) rfl (by kernel_rfl) (by kernel_rfl) (by kernel_rfl) (fun _ _ _ h => h) (Or.inl ⟨by rfl, ?_⟩) (by assumption) ?_
            rotate_left
            · intro w hSw; (try dsimp only at hSw); go_simp; (try (with_reducible rfl))
            try simp only [List.getElem_toArray, List.getElem_cons_succ, List.getElem_cons_zero, Act.put, List.setIfInBounds_toArray, List.set_cons_zero, List.set_cons_succ]
            refine wpAnyH_take (i := 11) (v := ?_) rfl (by kernel_rfl) (by kernel_rfl) (by kernel_rfl) (fun _ _ _ h => h) (Or.inl ⟨by rfl, ?_⟩) (by assumption) ?_
            rotate_left
            · intro w hSw; (try dsimp only at hSw); go_simp; (try (with_reducible rfl))
            try simp only [List.getElem_toArray, List.getElem_cons_succ, List.getElem_cons_zero, Act.put, List.setIfInBounds_toArray, List.set_cons_zero, List.set_cons_succ]
            refine wpAnyH_take (i := 12) (v := ?_) rfl (by kernel_rfl) (by kernel_rfl) (by kernel_rfl) (fun _ _ _ h => h) (Or.inl ⟨by rfl, ?_⟩) (by assumption) ?_
            rotate_left
            · intro w hSw; (try dsimp only at hSw); go_simp; (try (with_reducible rfl))
            try simp only [List.getElem_toArray, List.getElem_cons_succ, List.getElem_cons_zero, Act.put, List.setIfInBounds_toArray, List.set_cons_zero, List.set_cons_succ]
            refine wpAnyH_ready (rs := [13]) (by kernel_rfl) (by simp) ?_
            refine AllReadyH.cons rfl (fun K hK => ?_) AllReadyH.nil
            go_simp
            go_at_call 30; refine (CD.out _ hHeld).mono ?_; rintro e w3 ⟨rfl, hs3⟩
            go_wp2_with fail
            refine hK.out _ _ ?_ (fun hHeld => ?_)
            · clear hK K; first | exact hs3 | exact HS1.out
            clear hK K
            try simp only [List.getElem_toArray, List.getElem_cons_succ, List.getElem_cons_zero, Act.put, List.setIfInBounds_toArray, List.set_cons_zero, List.set_cons_succ]
            refine wpAnyH_take (i := 14) (v := ?_) rfl (by kernel_rfl) (by kernel_rfl) (by kernel_rfl) (fun _ _ _ h => h) (Or.inl ⟨by rfl, ?_⟩) (by assumption) ?_
            rotate_left
            · intro w hSw; (try dsimp only at hSw); go_simp; (try (with_reducible rfl))
            try simp only [List.getElem_toArray, List.getElem_cons_succ, List.getElem_cons_zero, Act.put, List.setIfInBounds_toArray, List.set_cons_zero, List.set_cons_succ]
            refine wpAnyH_take (i := 15) (v := ?_) rfl (by kernel_rfl) (by kernel_rfl) (by kernel_rfl) (fun _ _ _ h => h) (Or.inl ⟨by rfl, ?_⟩) (by assumption) ?_
            rotate_left
            · intro w hSw; (try dsimp only at hSw); go_simp; (try (with_reducible rfl))
            try simp only [List.getElem_toArray, List.getElem_cons_succ, List.getElem_cons_zero, Act.put, List.setIfInBounds_toArray, List.set_cons_zero, List.set_cons_succ]
            refine wpAnyH_done (by kernel_rfl) ?_ _
            obtain ⟨_, _, _, _, a5⟩ := hHeld
            have HBL := Lib.hid a5
            clear a5 HS1 CD hs3
            go_wp2
            go_roundw
            case rel => exact ⟨j + 1, by omega, by go_num, HF2.out, HBL.out⟩
            case measure => simp [intOf]; omega
          · have HFD : Hid (fromB (-1) 1 [x - y] = false) := by show _ = _; rw [Bool.eq_false_iff]; intro e; exact hs (fromB_one.1 e)
            have HF2 : Hid (firstF (pAt m path) n = 9) := firstF_stop HF.out (pAt_jump (by rw [HXE.out]; exact HIN.out) h0 (by rw [HXE.out, HYE.out]; exact hs)) (by decide) hlt
            have CD : Hid (∀ W', (fun w' : World => w'.cell? ⟨g, 0, none⟩ = some (.slice (some ad) n c) ∧ w'.cell? ad = some (.slice B m c') ∧ w'.cell? (pd.add j) = some (.int .i64 x) ∧ w'.cell? (pd.add q) = some (.int .i64 y) ∧ Below W1.heap.size W1 w') W' → Calls Tryd.prog 30 #[.int .i64 (x - y), .int .i64 (-1), .int .i64 1] W' fun e w' => e = .returned (.bool false) ∧ (fun w' : World => w'.cell? ⟨g, 0, none⟩ = some (.slice (some ad) n c) ∧ w'.cell? ad = some (.slice B m c') ∧ w'.cell? (pd.add j) = some (.int .i64 x) ∧ w'.cell? (pd.add q) = some (.int .i64 y) ∧ Below W1.heap.size W1 w') w') := by
              intro W' hS
              have h := within_any (x - y) (-1) 1 W'
              rw [HFD.out] at h
              refine h.mono ?_
              rintro e w' ⟨he, hw⟩
              subst hw
              exact ⟨he, hS⟩
            clear hs
            go_wp2
            refine wp_region_held_drew (S := (fun w' : World => w'.cell? ⟨g, 0, none⟩ = some (.slice (some ad) n c) ∧ w'.cell? ad = some (.slice B m c') ∧ w'.cell? (pd.add j) = some (.int .i64 x) ∧ w'.cell? (pd.add q) = some (.int .i64 y) ∧ Below W1.heap.size W1 w')) (by kernel_rfl) ?_ ?_
            · first | exact hs2 | exact HS0.out
            intro hHeld
            refine wpAnyH_take (i := 0) (v := ?_) rfl (by kernel_rfl) (by kernel_rfl) (by kernel_rfl) (fun _ _ _ h => h) (Or.inl ⟨by rfl, ?_⟩) (by assumption) ?_
            rotate_left
            · intro w hSw; (try dsimp only at hSw); go_simp; (try (with_reducible rfl))
            try simp only [List.getElem_toArray, List.getElem_cons_succ, List.getElem_cons_zero, Act.put, List.setIfInBounds_toArray, List.set_cons_zero, List.set_cons_succ]
            refine wpAnyH_take (i := 1) (v := ?_) rfl (by kernel_rfl) (by kernel_rfl) (by kernel_rfl) (fun _ _ _ h => h) (Or.inl ⟨by rfl, ?_⟩) (by assumption) ?_
            rotate_left
            · intro w hSw; (try dsimp only at hSw); go_simp; (try (with_reducible rfl))
            try simp only [List.getElem_toArray, List.getElem_cons_succ, List.getElem_cons_zero, Act.put, List.setIfInBounds_toArray, List.set_cons_zero, List.set_cons_succ]
            refine wpAnyH_take (i := 2) (v := ?_) rfl (by kernel_rfl) (by kernel_rfl) (by kernel_rfl) (fun _ _ _ h => h) (Or.inl ⟨by rfl, ?_⟩) (by assumption) ?_
            rotate_left
            · intro w hSw; (try dsimp only at hSw); go_simp; (try (with_reducible rfl))
            try simp only [List.getElem_toArray, List.getElem_cons_succ, List.getElem_cons_zero, Act.put, List.setIfInBounds_toArray, List.set_cons_zero, List.set_cons_succ]
            refine wpAnyH_take (i := 3) (v := ?_) rfl (by kernel_rfl) (by kernel_rfl) (by kernel_rfl) (fun _ _ _ h => h) (Or.inl ⟨by rfl, ?_⟩) (by assumption) ?_
            rotate_left
            · intro w hSw; (try dsimp only at hSw); go_simp; (try (with_reducible rfl))
            try simp only [List.getElem_toArray, List.getElem_cons_succ, List.getElem_cons_zero, Act.put, List.setIfInBounds_toArray, List.set_cons_zero, List.set_cons_succ]
            refine wpAnyH_take (i := 4) (v := ?_) rfl (by kernel_rfl) (by kernel_rfl) (by kernel_rfl) (fun _ _ _ h => h) (Or.inl ⟨by rfl, ?_⟩) (by assumption) ?_
            rotate_left
            · intro w hSw; (try dsimp only at hSw); go_simp; (try (with_reducible rfl))
            try simp only [List.getElem_toArray, List.getElem_cons_succ, List.getElem_cons_zero, Act.put, List.setIfInBounds_toArray, List.set_cons_zero, List.set_cons_succ]
            refine wpAnyH_take (i := 5) (v := ?_) rfl (by kernel_rfl) (by kernel_rfl) (by kernel_rfl) (fun _ _ _ h => h) (Or.inl ⟨by rfl, ?_⟩) (by assumption) ?_
            rotate_left
            · intro w hSw; (try dsimp only at hSw); go_simp; (try (with_reducible rfl))
            try simp only [List.getElem_toArray, List.getElem_cons_succ, List.getElem_cons_zero, Act.put, List.setIfInBounds_toArray, List.set_cons_zero, List.set_cons_succ]
            refine wpAnyH_take (i := 6) (v := ?_) rfl (by kernel_rfl) (by kernel_rfl) (by kernel_rfl) (fun _ _ _ h => h) (Or.inl ⟨by rfl, ?_⟩) (by assumption) ?_
            rotate_left
            · intro w hSw; (try dsimp only at hSw); go_simp; (try (with_reducible rfl))
            try simp only [List.getElem_toArray, List.getElem_cons_succ, List.getElem_cons_zero, Act.put, List.setIfInBounds_toArray, List.set_cons_zero, List.set_cons_succ]
            refine wpAnyH_take (i := 7) (v := ?_) rfl (by kernel_rfl) (by kernel_rfl) (by kernel_rfl) (fun _ _ _ h => h) (Or.inl ⟨by rfl, ?_⟩) (by assumption) ?_
            rotate_left
            · intro w hSw; (try dsimp only at hSw); go_simp; (try (with_reducible rfl))
            try simp only [List.getElem_toArray, List.getElem_cons_succ, List.getElem_cons_zero, Act.put, List.setIfInBounds_toArray, List.set_cons_zero, List.set_cons_succ]
            refine wpAnyH_take (i := 8) (v := ?_) rfl (by kernel_rfl) (by kernel_rfl) (by kernel_rfl) (fun _ _ _ h => h) (Or.inl ⟨by rfl, ?_⟩) (by assumption) ?_
            rotate_left
            · intro w hSw; (try dsimp only at hSw); go_simp; (try (with_reducible rfl))
            try simp only [List.getElem_toArray, List.getElem_cons_succ, List.getElem_cons_zero, Act.put, List.setIfInBounds_toArray, List.set_cons_zero, List.set_cons_succ]
            refine wpAnyH_take (i := 9) (v := ?_) rfl (by kernel_rfl) (by kernel_rfl) (by kernel_rfl) (fun _ _ _ h => h) (Or.inl ⟨by rfl, ?_⟩) (by assumption) ?_
            rotate_left
            · intro w hSw; (try dsimp only at hSw); go_simp; (try (with_reducible rfl))
            try simp only [List.getElem_toArray, List.getElem_cons_succ, List.getElem_cons_zero, Act.put, List.setIfInBounds_toArray, List.set_cons_zero, List.set_cons_succ]
            refine wpAnyH_ready (rs := [10]) (by kernel_rfl) (by simp) ?_
            refine AllReadyH.cons rfl (fun K hK => ?_) AllReadyH.nil
            go_simp
            go_at_call 30; refine (CB.out _ hHeld).mono ?_; rintro e w2 ⟨rfl, hs2⟩
            go_wp2_with fail
            refine hK.out _ _ ?_ (fun hHeld => ?_)
            · clear hK K; first | exact hs2 | exact HS0.out
            clear hK K
            try simp only [List.getElem_toArray, List.getElem_cons_succ, List.getElem_cons_zero, Act.put, List.setIfInBounds_toArray, List.set_cons_zero, List.set_cons_succ]
            refine wpAnyH_take (i := 11) (v := ?_) rfl (by kernel_rfl) (by kernel_rfl) (by kernel_rfl) (fun _ _ _ h => h) (Or.inl ⟨by rfl, ?_⟩) (by assumption) ?_
            rotate_left
            · intro w hSw; (try dsimp only at hSw); go_simp; (try (with_reducible rfl))
            try simp only [List.getElem_toArray, List.getElem_cons_succ, List.getElem_cons_zero, Act.put, List.setIfInBounds_toArray, List.set_cons_zero, List.set_cons_succ]
            refine wpAnyH_done (by kernel_rfl) ?_ _
            obtain ⟨a1, a2, a3, a4, a5⟩ := hHeld
            have HS1 : Hid ((fun w' : World => w'.cell? ⟨g, 0, none⟩ = some (.slice (some ad) n c) ∧ w'.cell? ad = some (.slice B m c') ∧ w'.cell? (pd.add j) = some (.int .i64 x) ∧ w'.cell? (pd.add q) = some (.int .i64 y) ∧ Below W1.heap.size W1 w') w2.drew) := ⟨a1, a2, a3, a4, a5.drew⟩
            clear a1 a2 a3 a4 a5 CB HS0 hs2
            go_wp2
            refine wp_region_held_drew (S := (fun w' : World => w'.cell? ⟨g, 0, none⟩ = some (.slice (some ad) n c) ∧ w'.cell? ad = some (.slice B m c') ∧ w'.cell? (pd.add j) = some (.int .i64 x) ∧ w'.cell? (pd.add q) = some (.int .i64 y) ∧ Below W1.heap.size W1 w')) (by kernel_rfl) ?_ ?_
            · first | exact hs3 | exact HS1.out
            intro hHeld
            refine wpAnyH_take (i := 0) (v := ?_) rfl (by kernel_rfl) (by kernel_rfl) (by kernel_rfl) (fun _ _ _ h => h) (Or.inl ⟨by rfl, ?_⟩) (by assumption) ?_
            rotate_left
            · intro w hSw; (try dsimp only at hSw); go_simp; (try (with_reducible rfl))
            try simp only [List.getElem_toArray, List.getElem_cons_succ, List.getElem_cons_zero, Act.put, List.setIfInBounds_toArray, List.set_cons_zero, List.set_cons_succ]
            refine wpAnyH_take (i := 1) (v := ?_) rfl (by kernel_rfl) (by kernel_rfl) (by kernel_rfl) (fun _ _ _ h => h) (Or.inl ⟨by rfl, ?_⟩) (by assumption) ?_
            rotate_left
            · intro w hSw; (try dsimp only at hSw); go_simp; (try (with_reducible rfl))
            try simp only [List.getElem_toArray, List.getElem_cons_succ, List.getElem_cons_zero, Act.put, List.setIfInBounds_toArray, List.set_cons_zero, List.set_cons_succ]
            refine wpAnyH_take (i := 2) (v := ?_) rfl (by kernel_rfl) (by kernel_rfl) (by kernel_rfl) (fun _ _ _ h => h) (Or.inl ⟨by rfl, ?_⟩) (by assumption) ?_
            rotate_left
            · intro w hSw; (try dsimp only at hSw); go_simp; (try (with_reducible rfl))
            try simp only [List.getElem_toArray, List.getElem_cons_succ, List.getElem_cons_zero, Act.put, List.setIfInBounds_toArray, List.set_cons_zero, List.set_cons_succ]
            refine wpAnyH_take (i := 3) (v := ?_) rfl (by kernel_rfl) (by kernel_rfl) (by kernel_rfl) (fun _ _ _ h => h) (Or.inl ⟨by rfl, ?_⟩) (by assumption) ?_
            rotate_left
            · intro w hSw; (try dsimp only at hSw); go_simp; (try (with_reducible rfl))
            try simp only [List.getElem_toArray, List.getElem_cons_succ, List.getElem_cons_zero, Act.put, List.setIfInBounds_toArray, List.set_cons_zero, List.set_cons_succ]
            refine wpAnyH_take (i := 4) (v := ?_) rfl (by kernel_rfl) (by kernel_rfl) (by kernel_rfl) (fun _ _ _ h => h) (Or.inl ⟨by rfl, ?_⟩) (by assumption) ?_
            rotate_left
            · intro w hSw; (try dsimp only at hSw); go_simp; (try (with_reducible rfl))
            try simp only [List.getElem_toArray, List.getElem_cons_succ, List.getElem_cons_zero, Act.put, List.setIfInBounds_toArray, List.set_cons_zero, List.set_cons_succ]
            refine wpAnyH_take (i := 5) (v := ?_) rfl (by kernel_rfl) (by kernel_rfl) (by kernel_rfl) (fun _ _ _ h => h) (Or.inl ⟨by rfl, ?_⟩) (by assumption) ?_
            rotate_left
            · intro w hSw; (try dsimp only at hSw); go_simp; (try (with_reducible rfl))
            try simp only [List.getElem_toArray, List.getElem_cons_succ, List.getElem_cons_zero, Act.put, List.setIfInBounds_toArray, List.set_cons_zero, List.set_cons_succ]
            refine wpAnyH_take (i := 6) (v := ?_) rfl (by kernel_rfl) (by kernel_rfl) (by kernel_rfl) (fun _ _ _ h => h) (Or.inl ⟨by rfl, ?_⟩) (by assumption) ?_
            rotate_left
            · intro w hSw; (try dsimp only at hSw); go_simp; (try (with_reducible rfl))
            try simp only [List.getElem_toArray, List.getElem_cons_succ, List.getElem_cons_zero, Act.put, List.setIfInBounds_toArray, List.set_cons_zero, List.set_cons_succ]
            refine wpAnyH_take (i := 7) (v := ?_) rfl (by kernel_rfl) (by kernel_rfl) (by kernel_rfl) (fun _ _ _ h => h) (Or.inl ⟨by rfl, ?_⟩) (by assumption) ?_
            rotate_left
            · intro w hSw; (try dsimp only at hSw); go_simp; (try (with_reducible rfl))
            try simp only [List.getElem_toArray, List.getElem_cons_succ, List.getElem_cons_zero, Act.put, List.setIfInBounds_toArray, List.set_cons_zero, List.set_cons_succ]
            refine wpAnyH_take (i := 8) (v := ?_) rfl (by kernel_rfl) (by kernel_rfl) (by kernel_rfl) (fun _ _ _ h => h) (Or.inl ⟨by rfl, ?_⟩) (by assumption) ?_
            rotate_left
            · intro w hSw; (try dsimp only at hSw); go_simp; (try (with_reducible rfl))
            try simp only [List.getElem_toArray, List.getElem_cons_succ, List.getElem_cons_zero, Act.put, List.setIfInBounds_toArray, List.set_cons_zero, List.set_cons_succ]
            refine wpAnyH_take (i := 9) (v := ?_) rfl (by kernel_rfl) (by kernel_rfl) (by kernel_rfl) (fun _ _ _ h => h) (Or.inl ⟨by rfl, ?_⟩) (by assumption) ?_
            rotate_left
            · intro w hSw; (try dsimp only at hSw); go_simp; (try (with_reducible rfl))
            try simp only [List.getElem_toArray, List.getElem_cons_succ, List.getElem_cons_zero, Act.put, List.setIfInBounds_toArray, List.set_cons_zero, List.set_cons_succ]
            refine wpAnyH_take (i := 10) (v := ?_) rfl (by kernel_rfl) (by kernel_rfl) (by kernel_rfl) (fun _ _ _ h => h) (Or.inl ⟨by rfl, ?_⟩) (by assumption) ?_
            rotate_left
            · intro w hSw; (try dsimp only at hSw); go_simp; (try (with_reducible rfl))
            try simp only [List.getElem_toArray, List.getElem_cons_succ, List.getElem_cons_zero, Act.put, List.setIfInBounds_toArray, List.set_cons_zero, List.set_cons_succ]
            refine wpAnyH_take (i := 11) (v := ?_) rfl (by kernel_rfl) (by kernel_rfl) (by kernel_rfl) (fun _ _ _ h => h) (Or.inl ⟨by rfl, ?_⟩) (by assumption) ?_
            rotate_left
            · intro w hSw; (try dsimp only at hSw); go_simp; (try (with_reducible rfl))
            try simp only [List.getElem_toArray, List.getElem_cons_succ, List.getElem_cons_zero, Act.put, List.setIfInBounds_toArray, List.set_cons_zero, List.set_cons_succ]
            refine wpAnyH_take (i := 12) (v := ?_) rfl (by kernel_rfl) (by kernel_rfl) (by kernel_rfl) (fun _ _ _ h => h) (Or.inl ⟨by rfl, ?_⟩) (by assumption) ?_
            rotate_left
            · intro w hSw; (try dsimp only at hSw); go_simp; (try (with_reducible rfl))
            try simp only [List.getElem_toArray, List.getElem_cons_succ, List.getElem_cons_zero, Act.put, List.setIfInBounds_toArray, List.set_cons_zero, List.set_cons_succ]
            refine wpAnyH_ready (rs := [13]) (by kernel_rfl) (by simp) ?_
            refine AllReadyH.cons rfl (fun K hK => ?_) AllReadyH.nil
            go_simp
            go_at_call 30; refine (CD.out _ hHeld).mono ?_; rintro e w3 ⟨rfl, hs3⟩
            go_wp2_with fail
            refine hK.out _ _ ?_ (fun hHeld => ?_)
            · clear hK K; first | exact hs3 | exact HS1.out
            clear hK K
            try simp only [List.getElem_toArray, List.getElem_cons_succ, List.getElem_cons_zero, Act.put, List.setIfInBounds_toArray, List.set_cons_zero, List.set_cons_succ]
            refine wpAnyH_take (i := 14) (v := ?_) rfl (by kernel_rfl) (by kernel_rfl) (by kernel_rfl) (fun _ _ _ h => h) (Or.inl ⟨by rfl, ?_⟩) (by assumption) ?_
            rotate_left
            · intro w hSw; (try dsimp only at hSw); go_simp; (try (with_reducible rfl))
            try simp only [List.getElem_toArray, List.getElem_cons_succ, List.getElem_cons_zero, Act.put, List.setIfInBounds_toArray, List.set_cons_zero, List.set_cons_succ]
            refine wpAnyH_take (i := 15) (v := ?_) rfl (by kernel_rfl) (by kernel_rfl) (by kernel_rfl) (fun _ _ _ h => h) (Or.inl ⟨by rfl, ?_⟩) (by assumption) ?_
            rotate_left
            · intro w hSw; (try dsimp only at hSw); go_simp; (try (with_reducible rfl))
            try simp only [List.getElem_toArray, List.getElem_cons_succ, List.getElem_cons_zero, Act.put, List.setIfInBounds_toArray, List.set_cons_zero, List.set_cons_succ]
            refine wpAnyH_done (by kernel_rfl) ?_ _
            obtain ⟨_, _, _, _, a5⟩ := hHeld
            have HBL := Lib.hid a5
            clear a5 HS1 CD hs3
            go_wp2
            go_ret
            refine ⟨by rw [HF2.out]; rfl, ?_⟩
            exact HB0.out.trans (HBL.out.mono HB0.out.size)
      · have HFB : Hid (fromB 0 ((m : Int) - 1) [x] = false) := by show _ = _; rw [Bool.eq_false_iff]; intro e; exact hin (fromB_one.1 e)
        have HF2 : Hid (firstF (pAt m path) n = 6) := firstF_stop HF.out (pAt_out (by rw [HXE.out]; exact hin)) (by decide) hlt
        clear hin
        have HS0 : Hid ((fun w' : World => w'.cell? ⟨g, 0, none⟩ = some (.slice (some ad) n c) ∧ w'.cell? ad = some (.slice B m c') ∧ w'.cell? (pd.add j) = some (.int .i64 x) ∧ Below W1.heap.size W1 w') wr.drew) := ⟨n0, k0, c1, HX.out.drew⟩
        have CB : Hid (∀ W', (fun w' : World => w'.cell? ⟨g, 0, none⟩ = some (.slice (some ad) n c) ∧ w'.cell? ad = some (.slice B m c') ∧ w'.cell? (pd.add j) = some (.int .i64 x) ∧ Below W1.heap.size W1 w') W' → Calls Tryd.prog 30 #[.int .i64 x, .int .i64 0, .int .i64 ((m : Int) - 1)] W' fun e w' => e = .returned (.bool false) ∧ (fun w' : World => w'.cell? ⟨g, 0, none⟩ = some (.slice (some ad) n c) ∧ w'.cell? ad = some (.slice B m c') ∧ w'.cell? (pd.add j) = some (.int .i64 x) ∧ Below W1.heap.size W1 w') w') := by
          intro W' hS
          have h := within_any x 0 ((m : Int) - 1) W'
          rw [HFB.out] at h
          refine h.mono ?_
          rintro e w' ⟨he, hw⟩
          subst hw
          exact ⟨he, hS⟩
        clear n0 k0 c1
        go_wp2
        refine wp_region_held_drew (S := (fun w' : World => w'.cell? ⟨g, 0, none⟩ = some (.slice (some ad) n c) ∧ w'.cell? ad = some (.slice B m c') ∧ w'.cell? (pd.add j) = some (.int .i64 x) ∧ Below W1.heap.size W1 w')) (by kernel_rfl) ?_ ?_
        · first | exact hs2 | exact HS0.out
        intro hHeld
        refine wpAnyH_take (i := 0) (v := ?_) rfl (by kernel_rfl) (by kernel_rfl) (by kernel_rfl) (fun _ _ _ h => h) (Or.inl ⟨by rfl, ?_⟩) (by assumption) ?_
        rotate_left
        · intro w hSw; (try dsimp only at hSw); go_simp; (try (with_reducible rfl))
        try simp only [List.getElem_toArray, List.getElem_cons_succ, List.getElem_cons_zero, Act.put, List.setIfInBounds_toArray, List.set_cons_zero, List.set_cons_succ]
        refine wpAnyH_take (i := 1) (v := ?_) rfl (by kernel_rfl) (by kernel_rfl) (by kernel_rfl) (fun _ _ _ h => h) (Or.inl ⟨by rfl, ?_⟩) (by assumption) ?_
        rotate_left
        · intro w hSw; (try dsimp only at hSw); go_simp; (try (with_reducible rfl))
        try simp only [List.getElem_toArray, List.getElem_cons_succ, List.getElem_cons_zero, Act.put, List.setIfInBounds_toArray, List.set_cons_zero, List.set_cons_succ]
        refine wpAnyH_take (i := 2) (v := ?_) rfl (by kernel_rfl) (by kernel_rfl) (by kernel_rfl) (fun _ _ _ h => h) (Or.inl ⟨by rfl, ?_⟩) (by assumption) ?_
        rotate_left
        · intro w hSw; (try dsimp only at hSw); go_simp; (try (with_reducible rfl))
        try simp only [List.getElem_toArray, List.getElem_cons_succ, List.getElem_cons_zero, Act.put, List.setIfInBounds_toArray, List.set_cons_zero, List.set_cons_succ]
        refine wpAnyH_take (i := 3) (v := ?_) rfl (by kernel_rfl) (by kernel_rfl) (by kernel_rfl) (fun _ _ _ h => h) (Or.inl ⟨by rfl, ?_⟩) (by assumption) ?_
        rotate_left
        · intro w hSw; (try dsimp only at hSw); go_simp; (try (with_reducible rfl))
        try simp only [List.getElem_toArray, List.getElem_cons_succ, List.getElem_cons_zero, Act.put, List.setIfInBounds_toArray, List.set_cons_zero, List.set_cons_succ]
        refine wpAnyH_take (i := 4) (v := ?_) rfl (by kernel_rfl) (by kernel_rfl) (by kernel_rfl) (fun _ _ _ h => h) (Or.inl ⟨by rfl, ?_⟩) (by assumption) ?_
        rotate_left
        · intro w hSw; (try dsimp only at hSw); go_simp; (try (with_reducible rfl))
        try simp only [List.getElem_toArray, List.getElem_cons_succ, List.getElem_cons_zero, Act.put, List.setIfInBounds_toArray, List.set_cons_zero, List.set_cons_succ]
        refine wpAnyH_take (i := 5) (v := ?_) rfl (by kernel_rfl) (by kernel_rfl) (by kernel_rfl) (fun _ _ _ h => h) (Or.inl ⟨by rfl, ?_⟩) (by assumption) ?_
        rotate_left
        · intro w hSw; (try dsimp only at hSw); go_simp; (try (with_reducible rfl))
        try simp only [List.getElem_toArray, List.getElem_cons_succ, List.getElem_cons_zero, Act.put, List.setIfInBounds_toArray, List.set_cons_zero, List.set_cons_succ]
        refine wpAnyH_take (i := 6) (v := ?_) rfl (by kernel_rfl) (by kernel_rfl) (by kernel_rfl) (fun _ _ _ h => h) (Or.inl ⟨by rfl, ?_⟩) (by assumption) ?_
        rotate_left
        · intro w hSw; (try dsimp only at hSw); go_simp; (try (with_reducible rfl))
        try simp only [List.getElem_toArray, List.getElem_cons_succ, List.getElem_cons_zero, Act.put, List.setIfInBounds_toArray, List.set_cons_zero, List.set_cons_succ]
        refine wpAnyH_take (i := 7) (v := ?_) rfl (by kernel_rfl) (by kernel_rfl) (by kernel_rfl) (fun _ _ _ h => h) (Or.inl ⟨by rfl, ?_⟩) (by assumption) ?_
        rotate_left
        · intro w hSw; (try dsimp only at hSw); go_simp; (try (with_reducible rfl))
        try simp only [List.getElem_toArray, List.getElem_cons_succ, List.getElem_cons_zero, Act.put, List.setIfInBounds_toArray, List.set_cons_zero, List.set_cons_succ]
        refine wpAnyH_take (i := 8) (v := ?_) rfl (by kernel_rfl) (by kernel_rfl) (by kernel_rfl) (fun _ _ _ h => h) (Or.inl ⟨by rfl, ?_⟩) (by assumption) ?_
        rotate_left
        · intro w hSw; (try dsimp only at hSw); go_simp; (try (with_reducible rfl))
        try simp only [List.getElem_toArray, List.getElem_cons_succ, List.getElem_cons_zero, Act.put, List.setIfInBounds_toArray, List.set_cons_zero, List.set_cons_succ]
        refine wpAnyH_take (i := 9) (v := ?_) rfl (by kernel_rfl) (by kernel_rfl) (by kernel_rfl) (fun _ _ _ h => h) (Or.inl ⟨by rfl, ?_⟩) (by assumption) ?_
        rotate_left
        · intro w hSw; (try dsimp only at hSw); go_simp; (try (with_reducible rfl))
        try simp only [List.getElem_toArray, List.getElem_cons_succ, List.getElem_cons_zero, Act.put, List.setIfInBounds_toArray, List.set_cons_zero, List.set_cons_succ]
        refine wpAnyH_ready (rs := [10]) (by kernel_rfl) (by simp) ?_
        refine AllReadyH.cons rfl (fun K hK => ?_) AllReadyH.nil
        go_simp
        go_at_call 30; refine (CB.out _ hHeld).mono ?_; rintro e w2 ⟨rfl, hs2⟩
        go_wp2_with fail
        refine hK.out _ _ ?_ (fun hHeld => ?_)
        · clear hK K; first | exact hs2 | exact HS0.out
        clear hK K
        try simp only [List.getElem_toArray, List.getElem_cons_succ, List.getElem_cons_zero, Act.put, List.setIfInBounds_toArray, List.set_cons_zero, List.set_cons_succ]
        refine wpAnyH_take (i := 11) (v := ?_) rfl (by kernel_rfl) (by kernel_rfl) (by kernel_rfl) (fun _ _ _ h => h) (Or.inl ⟨by rfl, ?_⟩) (by assumption) ?_
        rotate_left
        · intro w hSw; (try dsimp only at hSw); go_simp; (try (with_reducible rfl))
        try simp only [List.getElem_toArray, List.getElem_cons_succ, List.getElem_cons_zero, Act.put, List.setIfInBounds_toArray, List.set_cons_zero, List.set_cons_succ]
        refine wpAnyH_done (by kernel_rfl) ?_ _
        obtain ⟨_, _, _, a4⟩ := hHeld
        have HBL := Lib.hid a4
        clear a4 CB HS0 hs2
        go_wp2
        go_ret
        refine ⟨by rw [HF2.out]; rfl, ?_⟩
        exact HB0.out.trans (HBL.out.mono HB0.out.size)
    · obtain rfl : n = j := by omega
      have HF2 := HF
      have HBL := HX
      go_wp2
      go_ret
      refine ⟨by rw [HF2.out]; rfl, ?_⟩
      exact HB0.out.trans (HBL.out.mono HB0.out.size)

set_option maxRecDepth 100000 in
theorem refPathErr_any (ad : Addr) (n c m c' : Nat) (B : Option Addr) (b : Int) (P : Option Addr) (k cp : Nat) (path : List Int) (w : World) (hn : 0 < n ∧ n ≤ 1000000) (hm : m ≤ 1000000) (hk : k ≤ 1000000) (hadb : ad.block < w.heap.size) (hck : w.cell? ad = some (.slice B m c')) (hp : RdI w P k path) :
    Calls Tryd.prog 28 #[.agg #[.slice (some ad) n c, .int .i64 b], .slice P k cp] w fun e w' => e = .returned (.int .i64 (pathE n m path)) ∧ Below w.heap.size w w' := by
  by_cases hkn : k = n
  · subst hkn
    exact refPathErr_same ad k c m c' B b P cp path w hn hm hadb hck hp
  · have HE : Hid (pathE n m path = 10) := if_neg (by rw [hp.1]; exact hkn)
    have hne : ((k : Int) != (n : Int)) = true := by rw [bne_iff_ne]; omega
    have hb0 : Below w.heap.size w (w.alloc (.cells #[.slice (some ad) n c, .int .i64 b] 53)) := (Below.refl _ w).alloc (Nat.le_refl _) _
    have HB0 := Lib.hid hb0
    rw [HE.out]
    clear hkn HE hp hck hb0 hn
    go_enter Tryd.func28, Tryd.ntmps28
    go_wp2
    go_ret
    exact ⟨rfl, HB0.out⟩

end Go.Proofs.YtofdjapbofagiaaDoor

namespace Go.Proofs.YtofdjapbofagiaaDoor
open Go.RowKit

theorem RdGN.toG {w : World} {A : Option Addr} {n : Nat} {rows : List (List Int)} (h : RdGN w A n rows) : RdG w A n rows := by
  refine ⟨h.1, fun hn => ?_⟩
  obtain ⟨ad, e, hlt, hc⟩ := h.2 hn
  refine ⟨ad, e, hlt, fun j hj => ?_⟩
  obtain ⟨B, m, c, h1, h2, h3, _⟩ := hc j hj
  exact ⟨B, m, c, h1, h2, h3⟩
/-- A task in a variable. -/
def TaskAt (w : World) (g : Nat) (A : Option Addr) (n c : Nat) (b : Int) : Prop := Bk w g 53 #[.slice A n c, .int .i64 b]
theorem TaskAt.below {w w' : World} {g : Nat} {A : Option Addr} {n c : Nat} {b : Int} (h : TaskAt w g A n c b) (hb : Below w.heap.size w w') : TaskAt w' g A n c b := Bk.later h hb
theorem TaskAt.c0 {w : World} {g : Nat} {A : Option Addr} {n c : Nat} {b : Int} (h : TaskAt w g A n c b) : w.cell? ⟨g, 0, none⟩ = some (.slice A n c) := by rw [Bk.cell h]; rfl
theorem TaskAt.c1 {w : World} {g : Nat} {A : Option Addr} {n c : Nat} {b : Int} (h : TaskAt w g A n c b) : w.cell? ⟨g, 1, none⟩ = some (.int .i64 b) := by rw [Bk.cell h]; rfl
def CellAt (w : World) (a : Addr) (v : Value) : Prop := a.block < w.heap.size ∧ w.cell? a = some v
theorem CellAt.below {w w' : World} {a : Addr} {v : Value} (h : CellAt w a v) (hb : Below w.heap.size w w') : CellAt w' a v := ⟨Nat.lt_of_lt_of_le h.1 hb.size, (hb.cell h.1).trans h.2⟩
theorem gridB_parts {R C : Nat} {rows : List (List Int)} (h : gridB R C rows = true) : rows.length ≤ R + 2 ∧ ∀ j, j < rows.length → (rows.getD j []).length ≤ C + 2 := by
  unfold gridB at h
  rw [Bool.and_eq_true, decide_eq_true_eq, List.all_eq_true] at h
  exact ⟨h.1, fun j hj => by have := h.2 _ (getD_in rows j [] hj); simpa using this⟩
theorem own_ranges {w : World} {base n : Nat} {v : Value} {ps : List (Int × Int)} (h : w.ownsRow base 28 2 v n (pairCells ps)) (hl : ps.length = n) : ∃ A c g, v = .slice A n c ∧ (0 < n → A = some ⟨g, 0, none⟩) ∧ RdR w g n ps := by
  obtain ⟨A, c, rfl, hf⟩ := own_form h
  by_cases h0 : 0 < n
  · obtain ⟨g, rfl⟩ := hf h0
    exact ⟨_, c, g, rfl, fun _ => rfl, rdR_of_own h hl⟩
  · exact ⟨A, c, 0, rfl, fun h => absurd h h0, hl, fun h => absurd h h0, fun j hj => absurd hj (by omega)⟩

set_option maxRecDepth 100000 in
set_option maxHeartbeats 16000000 in
theorem costs_wide (A : Option Addr) (n c : Nat) (b : Int) (rows : List (List Int)) (P : Option Addr) (k cp : Nat) (path : List Int) (limit : Int) (w : World) (hl : LaidSides w) (hr : RdGo w A n rows) (hA : P = none → k = 0 ∧ cp = 0) (hp : RdI w P k path) (hgb : gridB 40 12 rows = false) :
    Calls Tryd.prog 4 #[.agg #[.slice A n c, .int .i64 b], .slice P k cp, .int .i64 limit] w fun e w' => e = .returned (.bool true) ∧ Below w.heap.size w w' := by
  have hb0 : Below w.heap.size w (w.alloc (.cells #[.slice A n c, .int .i64 b] 53)) := (Below.refl _ _).alloc (Nat.le_refl _) _
  have HL := Lib.hid (hl.later hb0)
  have HT : Hid (TaskAt (w.alloc (.cells #[.slice A n c, .int .i64 b] 53)) w.heap.size A n c b) := Bk.new w 53 #[.slice A n c, .int .i64 b]
  have HP := Lib.hid (hp.below hb0)
  have HAP := Lib.hid hA
  have HPL : Hid (path.length = k) := hp.1
  have low0 := Lib.hid hb0
  have HR := Lib.hid (hr.below hb0)
  have CST : Hid (∀ W, RdGo W A n rows → Calls Tryd.prog 19 #[.slice A n c] W fun e w' => e = .returned (.bool false) ∧ W = w') := fun W h => by rw [← hgb]; exact strip_any _ n c rows W h
  clear hl hr hA hp hb0 hgb
  go_enter Tryd.func4, Tryd.ntmps4
  go_wp2_with fail
  refine (awake_any _ HL.out).mono ?_
  rintro e w1 ⟨rfl, hb1⟩
  have Ft1 := Lib.hid (HT.out.below hb1)
  have Fr1 := Lib.hid (HR.out.below hb1)
  have low1 := Lib.hid (low0.out.trans (hb1.mono low0.out.size))
  clear HT HR low0 HL hb1
  have n0 : w1.cell? ⟨w.heap.size, 0, none⟩ = some (.slice A n c) := Ft1.out.c0
  have n1 : w1.cell? ⟨w.heap.size, 1, none⟩ = some (.int .i64 b) := Ft1.out.c1
  go_wp2_with fail
  refine (CST.out _ Fr1.out).mono ?_
  rintro e w' ⟨rfl, rfl⟩
  go_wp2
  go_ret
  exact ⟨rfl, low1.out⟩

set_option maxRecDepth 100000 in
set_option maxHeartbeats 16000000 in
theorem costs_long (A : Option Addr) (n c : Nat) (b : Int) (rows : List (List Int)) (P : Option Addr) (k cp : Nat) (path : List Int) (limit : Int) (w : World) (hl : LaidSides w) (hr : RdGo w A n rows) (hA : P = none → k = 0 ∧ cp = 0) (hp : RdI w P k path) (hgb : gridB 40 12 rows = true) (hk : ¬ k ≤ 42) :
    Calls Tryd.prog 4 #[.agg #[.slice A n c, .int .i64 b], .slice P k cp, .int .i64 limit] w fun e w' => e = .returned (.bool true) ∧ Below w.heap.size w w' := by
  have hb0 : Below w.heap.size w (w.alloc (.cells #[.slice A n c, .int .i64 b] 53)) := (Below.refl _ _).alloc (Nat.le_refl _) _
  have HL := Lib.hid (hl.later hb0)
  have HT : Hid (TaskAt (w.alloc (.cells #[.slice A n c, .int .i64 b] 53)) w.heap.size A n c b) := Bk.new w 53 #[.slice A n c, .int .i64 b]
  have HP := Lib.hid (hp.below hb0)
  have HAP := Lib.hid hA
  have HPL : Hid (path.length = k) := hp.1
  have low0 := Lib.hid hb0
  have HR := Lib.hid (hr.below hb0)
  have CST : Hid (∀ W, RdGo W A n rows → Calls Tryd.prog 19 #[.slice A n c] W fun e w' => e = .returned (.bool true) ∧ W = w') := fun W h => by rw [← hgb]; exact strip_any _ n c rows W h
  have hkI : (42 : Int) < (k : Int) := by omega
  clear hl hr hA hp hb0 hgb
  go_enter Tryd.func4, Tryd.ntmps4
  go_wp2_with fail
  refine (awake_any _ HL.out).mono ?_
  rintro e w1 ⟨rfl, hb1⟩
  have Ft1 := Lib.hid (HT.out.below hb1)
  have Fr1 := Lib.hid (HR.out.below hb1)
  have low1 := Lib.hid (low0.out.trans (hb1.mono low0.out.size))
  clear HT HR low0 HL hb1
  have n0 : w1.cell? ⟨w.heap.size, 0, none⟩ = some (.slice A n c) := Ft1.out.c0
  have n1 : w1.cell? ⟨w.heap.size, 1, none⟩ = some (.int .i64 b) := Ft1.out.c1
  go_wp2_with fail
  refine (CST.out _ Fr1.out).mono ?_
  rintro e w' ⟨rfl, rfl⟩
  go_wp2
  go_ret
  exact ⟨rfl, low1.out⟩

end Go.Proofs.YtofdjapbofagiaaDoor

