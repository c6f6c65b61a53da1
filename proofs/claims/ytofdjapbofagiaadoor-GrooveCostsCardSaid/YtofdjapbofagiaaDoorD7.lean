import Derived.Test.YtofdjapbofagiaaDoorGD
import Derived.Test.YtofdjapbofagiaaDoorGJ
namespace Go.Proofs.YtofdjapbofagiaaDoor
open Go.RowKit

def OwnR (w : World) (ps : List (Int × Int)) (e : Ending) (w' : World) : Prop :=
  (∃ v, e = .returned v ∧ w'.ownsRow w.heap.size 28 2 v ps.length (pairCells ps)) ∧ Below w.heap.size w w'

set_option maxRecDepth 100000 in
set_option maxHeartbeats 8000000 in
theorem refCracks_any (ad : Addr) (n c m : Nat) (rows : List (List Int)) (b : Int) (P : Option Addr) (cp : Nat) (path : List Int) (w : World) (hr : RdG w (some ad) n rows) (hn : 0 < n ∧ n ≤ 1000000) (hm : m ≤ 1000000) (hp : RdI w P n path) (hpe : pathE n m path = 0) (hg : ∀ r ∈ rows, r.length = m ∧ ∀ x ∈ r, 0 ≤ x ∧ x ≤ 255) (limit : Int) :
    Calls Tryd.prog 32 #[.agg #[.slice (some ad) n c, .int .i64 b], .slice P n cp, .int .i64 limit] w (OwnR w (crF rows path limit n)) := by
  obtain ⟨i0, hi0, hz0, hz1, hz2⟩ := info_parts rngInfo
  have hb0 : Below w.heap.size w (w.alloc (.cells #[.slice (some ad) n c, .int .i64 b] 53)) := (Below.refl _ w).alloc (Nat.le_refl _) _
  have HR1 := Lib.hid (hr.below hb0)
  have HP1 := Lib.hid (hp.below hb0)
  have HB2 := Lib.hid hb0
  have HGB := Lib.hid hg
  have HN := Lib.hid (Bk.new w 53 #[.slice (some ad) n c, .int .i64 b])
  have hpi := (path_in hpe).2
  have HPI := Lib.hid hpi
  have hnb : n ≤ 1000000 := hn.2
  clear hr hp hpe hb0 hg hpi hn
  go_enter Tryd.func32, Tryd.ntmps32
  go_wp2
  obtain ⟨g, hgw⟩ : ∃ g, w.heap.size = g := ⟨_, rfl⟩
  have HGW := Lib.hid hgw
  obtain ⟨W1, hW1⟩ : ∃ W, (w.alloc (.cells #[.slice (some ad) n c, .int .i64 b] 53)) = W := ⟨_, rfl⟩
  rw [hW1] at HP1 HR1 HN HB2 ⊢
  rw [hgw] at HN
  try rw [hgw]
  clear hW1 hgw
  go_loopw [7, 8] (fun v i wr => ∃ j : Nat, j ≤ n ∧ i = .int .i64 j ∧ Hid (wr.ownsRow W1.heap.size 28 2 v (crF rows path limit j).length (pairCells (crF rows path limit j)) ∧ Below W1.heap.size W1 wr)) (fun _ i _ => n - (intOf i).toNat)
  case atStart => exact ⟨0, Nat.zero_le _, rfl, World.ownsRow_nil _ _ _ _, Below.refl _ _⟩
  case round =>
    obtain ⟨j, hj, rfl, HI⟩ := hrel
    by_cases hlt : j < n
    · have hjI : (j : Int) < (n : Int) := by omega
      have hj0 : (0 : Int) ≤ (j : Int) := by omega
      have hjl := crF_length rows path limit j
      have hsz : W1.heap.size ≤ wr.heap.size := HI.out.2.size
      have qn := HN.out.later HI.out.2
      have n0 : wr.cell? ⟨g, 0, none⟩ = some (.slice (some ad) n c) := by rw [qn.cell]; rfl
      obtain ⟨pd, hP, hpdb, hc⟩ := (HP1.out.below HI.out.2).2 (by omega)
      subst hP
      have c1 := hc j hlt
      have hx := HPI.out j hlt
      obtain ⟨x, hxe⟩ : ∃ x, path.getD j 0 = x := ⟨_, rfl⟩
      rw [hxe] at c1 hx
      obtain ⟨t, rfl⟩ : ∃ t : Nat, x = (t : Int) := ⟨x.toNat, by omega⟩
      have htm : t < m := by omega
      have htI : (t : Int) < (m : Int) := by omega
      have ht0 : (0 : Int) ≤ (t : Int) := by omega
      obtain ⟨bd, cb, r1, r2, hv0, hv1, _, _⟩ := grid_at (HR1.out.below HI.out.2) HGB.out j t hlt htm
      have HV : Hid (valAt rows path j = (rows.getD j []).getD t 0) := by show _ = _; unfold valAt; rw [hxe]; rfl
      obtain ⟨v, hve⟩ : ∃ v, (rows.getD j []).getD t 0 = v := ⟨_, rfl⟩
      rw [hve] at r2 hv0 hv1 HV
      clear hc hxe hve qn hx
      obtain ⟨ln, hln⟩ : ∃ ln, (crF rows path limit j).length = ln := ⟨_, rfl⟩
      have HLNE := Lib.hid hln
      rw [hln] at HI hjl
      have hlb : ln ≤ 1000000 := by omega
      obtain ⟨Ac, cap, rfl, hform⟩ := own_form HI.out.1
      by_cases hvl : v ≤ limit
      · have HJ : Hid (crF rows path limit (j + 1) = crF rows path limit j) := by
          show _ = _
          exact crF_skip (by rw [HV.out]; omega)
        clear hln hform
        have hvb : decide (v ≤ limit) = true := decide_eq_true hvl
        have HS0 : Hid ((fun w' : World => w'.cell? ⟨g, 0, none⟩ = some (.slice (some ad) n c) ∧ w'.cell? (ad.add j) = some (.slice (some bd) m cb) ∧ w'.cell? (pd.add j) = some (.int .i64 t) ∧ w'.cell? (bd.add t) = some (.int .i64 v) ∧ Below W1.heap.size W1 w') wr.drew) := ⟨n0, r1, c1, r2, HI.out.2.drew⟩
        have HVL := Lib.hid hvl
        clear n0 c1 r1 r2 hvl
        go_wp2
        refine wp_region_held_drew (S := (fun w' : World => w'.cell? ⟨g, 0, none⟩ = some (.slice (some ad) n c) ∧ w'.cell? (ad.add j) = some (.slice (some bd) m cb) ∧ w'.cell? (pd.add j) = some (.int .i64 t) ∧ w'.cell? (bd.add t) = some (.int .i64 v) ∧ Below W1.heap.size W1 w')) (by kernel_rfl) ?_ ?_
        · exact HS0.out
        intro hHeld
        refine wpAnyH_take (i := 0) (v := ?_) rfl (by kernel_rfl) (by kernel_rfl) (by kernel_rfl) (fun _ _ _ h => h) (Or.inl ⟨by rfl, ?_⟩) (by assumption) ?_
        rotate_left
        · intro w hSw; (try dsimp only at hSw); go_simp; (try (with_reducible rfl))
        try simp only [List.getElem_toArray, List.getElem_cons_succ, List.getElem_cons_zero, Act.put, List.setIfInBounds_toArray, List.set_cons_zero, List.set_cons_succ]
        refine wpAnyH_take (i := 1) (v := ?_) rfl (by kernel_rfl) (by kernel_rfl) (by kernel_rfl) (fun _ _ _ h => h) (Or.inl ⟨by rfl, ?_⟩) (by assumption) ?_
        rotate_left
        · intro w hSw; (try dsimp only at hSw); go_simp; (try (with_reducible rfl))
        try simp only [List.getElem_toArray, List.getElem_cons_succ, List.getElem_cons_zero, Act.put, List.setIfInBounds_toArray, List.set_cons_zero, List.set_cons_succ]
        refine wpAnyH_take (i := 2) (v := ?_) rfl (by kernel_rfl) (by kernel_rfl) (by kernel_rfl) (fun _ _ _ h => h) (Or.inl ⟨by rfl, ?_⟩) (by assumption) ?_
        rotate_left
        · intro w hSw; (try dsimp only at hSw); go_simp; (try (with_reducible rfl))
        try simp only [List.getElem_toArray, List.getElem_cons_succ, List.getElem_cons_zero, Act.put, List.setIfInBounds_toArray, List.set_cons_zero, List.set_cons_succ]
        refine wpAnyH_take (i := 3) (v := ?_) rfl (by kernel_rfl) (by kernel_rfl) (by kernel_rfl) (fun _ _ _ h => h) (Or.inl ⟨by rfl, ?_⟩) (by assumption) ?_
        rotate_left
        · intro w hSw; (try dsimp only at hSw); go_simp; (try (with_reducible rfl))
        try simp only [List.getElem_toArray, List.getElem_cons_succ, List.getElem_cons_zero, Act.put, List.setIfInBounds_toArray, List.set_cons_zero, List.set_cons_succ]
        refine wpAnyH_take (i := 4) (v := ?_) rfl (by kernel_rfl) (by kernel_rfl) (by kernel_rfl) (fun _ _ _ h => h) (Or.inl ⟨by rfl, ?_⟩) (by assumption) ?_
        rotate_left
        · intro w hSw; (try dsimp only at hSw); go_simp; (try (with_reducible rfl))
        try simp only [List.getElem_toArray, List.getElem_cons_succ, List.getElem_cons_zero, Act.put, List.setIfInBounds_toArray, List.set_cons_zero, List.set_cons_succ]
        refine wpAnyH_take (i := 5) (v := ?_) rfl (by kernel_rfl) (by kernel_rfl) (by kernel_rfl) (fun _ _ _ h => h) (Or.inl ⟨by rfl, ?_⟩) (by assumption) ?_
        rotate_left
        · intro w hSw; (try dsimp only at hSw); go_simp; (try (with_reducible rfl))
        try simp only [List.getElem_toArray, List.getElem_cons_succ, List.getElem_cons_zero, Act.put, List.setIfInBounds_toArray, List.set_cons_zero, List.set_cons_succ]
        refine wpAnyH_take (i := 6) (v := ?_) rfl (by kernel_rfl) (by kernel_rfl) (by kernel_rfl) (fun _ _ _ h => h) (Or.inl ⟨by rfl, ?_⟩) (by assumption) ?_
        rotate_left
        · intro w hSw; (try dsimp only at hSw); go_simp; (try (with_reducible rfl))
        try simp only [List.getElem_toArray, List.getElem_cons_succ, List.getElem_cons_zero, Act.put, List.setIfInBounds_toArray, List.set_cons_zero, List.set_cons_succ]
        refine wpAnyH_take (i := 7) (v := ?_) rfl (by kernel_rfl) (by kernel_rfl) (by kernel_rfl) (fun _ _ _ h => h) (Or.inl ⟨by rfl, ?_⟩) (by assumption) ?_
        rotate_left
        · intro w hSw; (try dsimp only at hSw); go_simp; (try (with_reducible rfl))
        try simp only [List.getElem_toArray, List.getElem_cons_succ, List.getElem_cons_zero, Act.put, List.setIfInBounds_toArray, List.set_cons_zero, List.set_cons_succ]
        refine wpAnyH_take (i := 8) (v := ?_) rfl (by kernel_rfl) (by kernel_rfl) (by kernel_rfl) (fun _ _ _ h => h) (Or.inl ⟨by rfl, ?_⟩) (by assumption) ?_
        rotate_left
        · intro w hSw; (try dsimp only at hSw); go_simp; (try (with_reducible rfl))
        try simp only [List.getElem_toArray, List.getElem_cons_succ, List.getElem_cons_zero, Act.put, List.setIfInBounds_toArray, List.set_cons_zero, List.set_cons_succ]
        refine wpAnyH_take (i := 9) (v := ?_) rfl (by kernel_rfl) (by kernel_rfl) (by kernel_rfl) (fun _ _ _ h => h) (Or.inl ⟨by rfl, ?_⟩) (by assumption) ?_
        rotate_left
        · intro w hSw; (try dsimp only at hSw); go_simp; (try (with_reducible rfl))
        try simp only [List.getElem_toArray, List.getElem_cons_succ, List.getElem_cons_zero, Act.put, List.setIfInBounds_toArray, List.set_cons_zero, List.set_cons_succ]
        refine wpAnyH_take (i := 10) (v := ?_) rfl (by kernel_rfl) (by kernel_rfl) (by kernel_rfl) (fun _ _ _ h => h) (Or.inl ⟨by rfl, ?_⟩) (by assumption) ?_
        rotate_left
        · intro w hSw; (try dsimp only at hSw); go_simp; (try (with_reducible rfl))
        try simp only [List.getElem_toArray, List.getElem_cons_succ, List.getElem_cons_zero, Act.put, List.setIfInBounds_toArray, List.set_cons_zero, List.set_cons_succ]
        refine wpAnyH_take (i := 11) (v := ?_) rfl (by kernel_rfl) (by kernel_rfl) (by kernel_rfl) (fun _ _ _ h => h) (Or.inl ⟨by rfl, ?_⟩) (by assumption) ?_
        rotate_left
        · intro w hSw; (try dsimp only at hSw); go_simp; (try (with_reducible rfl))
        try simp only [List.getElem_toArray, List.getElem_cons_succ, List.getElem_cons_zero, Act.put, List.setIfInBounds_toArray, List.set_cons_zero, List.set_cons_succ]
        refine wpAnyH_take (i := 12) (v := ?_) rfl (by kernel_rfl) (by kernel_rfl) (by kernel_rfl) (fun _ _ _ h => h) (Or.inl ⟨by rfl, ?_⟩) (by assumption) ?_
        rotate_left
        · intro w hSw; (try dsimp only at hSw); go_simp; (try (with_reducible rfl))
        try simp only [List.getElem_toArray, List.getElem_cons_succ, List.getElem_cons_zero, Act.put, List.setIfInBounds_toArray, List.set_cons_zero, List.set_cons_succ]
        refine wpAnyH_done (by kernel_rfl) ?_ _
        clear hHeld HS0 hvb
        have HI2 : Hid (wr.drew.ownsRow W1.heap.size 28 2 (.slice Ac ln cap) ln (pairCells (crF rows path limit j)) ∧ Below W1.heap.size W1 wr.drew) := ⟨HI.out.1.drew, HI.out.2.drew⟩
        obtain ⟨wd, hwd⟩ : ∃ W, wr.drew = W := ⟨_, rfl⟩
        rw [hwd] at HI2 ⊢
        clear hwd HI hsz
        have hsz : W1.heap.size ≤ wd.heap.size := HI2.out.2.size
        have HI := HI2
        clear HI2
        have hvl := HVL.out
        go_wp2
        go_roundw
        case rel => exact ⟨j + 1, by omega, by go_num, by show _ ∧ _; rw [HJ.out, HLNE.out]; exact HI.out⟩
        case measure => simp [intOf]; omega
      · skip
        have hvb : decide (v ≤ limit) = false := decide_eq_false hvl
        have HS0 : Hid ((fun w' : World => w'.cell? ⟨g, 0, none⟩ = some (.slice (some ad) n c) ∧ w'.cell? (ad.add j) = some (.slice (some bd) m cb) ∧ w'.cell? (pd.add j) = some (.int .i64 t) ∧ w'.cell? (bd.add t) = some (.int .i64 v) ∧ Below W1.heap.size W1 w') wr.drew) := ⟨n0, r1, c1, r2, HI.out.2.drew⟩
        have HVL := Lib.hid hvl
        have HLN2 := Lib.hid hln
        have HFO := Lib.hid hform
        clear n0 c1 r1 r2 hvl hln hform
        go_wp2
        refine wp_region_held_drew (S := (fun w' : World => w'.cell? ⟨g, 0, none⟩ = some (.slice (some ad) n c) ∧ w'.cell? (ad.add j) = some (.slice (some bd) m cb) ∧ w'.cell? (pd.add j) = some (.int .i64 t) ∧ w'.cell? (bd.add t) = some (.int .i64 v) ∧ Below W1.heap.size W1 w')) (by kernel_rfl) ?_ ?_
        · exact HS0.out
        intro hHeld
        refine wpAnyH_take (i := 0) (v := ?_) rfl (by kernel_rfl) (by kernel_rfl) (by kernel_rfl) (fun _ _ _ h => h) (Or.inl ⟨by rfl, ?_⟩) (by assumption) ?_
        rotate_left
        · intro w hSw; (try dsimp only at hSw); go_simp; (try (with_reducible rfl))
        try simp only [List.getElem_toArray, List.getElem_cons_succ, List.getElem_cons_zero, Act.put, List.setIfInBounds_toArray, List.set_cons_zero, List.set_cons_succ]
        refine wpAnyH_take (i := 1) (v := ?_) rfl (by kernel_rfl) (by kernel_rfl) (by kernel_rfl) (fun _ _ _ h => h) (Or.inl ⟨by rfl, ?_⟩) (by assumption) ?_
        rotate_left
        · intro w hSw; (try dsimp only at hSw); go_simp; (try (with_reducible rfl))
        try simp only [List.getElem_toArray, List.getElem_cons_succ, List.getElem_cons_zero, Act.put, List.setIfInBounds_toArray, List.set_cons_zero, List.set_cons_succ]
        refine wpAnyH_take (i := 2) (v := ?_) rfl (by kernel_rfl) (by kernel_rfl) (by kernel_rfl) (fun _ _ _ h => h) (Or.inl ⟨by rfl, ?_⟩) (by assumption) ?_
        rotate_left
        · intro w hSw; (try dsimp only at hSw); go_simp; (try (with_reducible rfl))
        try simp only [List.getElem_toArray, List.getElem_cons_succ, List.getElem_cons_zero, Act.put, List.setIfInBounds_toArray, List.set_cons_zero, List.set_cons_succ]
        refine wpAnyH_take (i := 3) (v := ?_) rfl (by kernel_rfl) (by kernel_rfl) (by kernel_rfl) (fun _ _ _ h => h) (Or.inl ⟨by rfl, ?_⟩) (by assumption) ?_
        rotate_left
        · intro w hSw; (try dsimp only at hSw); go_simp; (try (with_reducible rfl))
        try simp only [List.getElem_toArray, List.getElem_cons_succ, List.getElem_cons_zero, Act.put, List.setIfInBounds_toArray, List.set_cons_zero, List.set_cons_succ]
        refine wpAnyH_take (i := 4) (v := ?_) rfl (by kernel_rfl) (by kernel_rfl) (by kernel_rfl) (fun _ _ _ h => h) (Or.inl ⟨by rfl, ?_⟩) (by assumption) ?_
        rotate_left
        · intro w hSw; (try dsimp only at hSw); go_simp; (try (with_reducible rfl))
        try simp only [List.getElem_toArray, List.getElem_cons_succ, List.getElem_cons_zero, Act.put, List.setIfInBounds_toArray, List.set_cons_zero, List.set_cons_succ]
        refine wpAnyH_take (i := 5) (v := ?_) rfl (by kernel_rfl) (by kernel_rfl) (by kernel_rfl) (fun _ _ _ h => h) (Or.inl ⟨by rfl, ?_⟩) (by assumption) ?_
        rotate_left
        · intro w hSw; (try dsimp only at hSw); go_simp; (try (with_reducible rfl))
        try simp only [List.getElem_toArray, List.getElem_cons_succ, List.getElem_cons_zero, Act.put, List.setIfInBounds_toArray, List.set_cons_zero, List.set_cons_succ]
        refine wpAnyH_take (i := 6) (v := ?_) rfl (by kernel_rfl) (by kernel_rfl) (by kernel_rfl) (fun _ _ _ h => h) (Or.inl ⟨by rfl, ?_⟩) (by assumption) ?_
        rotate_left
        · intro w hSw; (try dsimp only at hSw); go_simp; (try (with_reducible rfl))
        try simp only [List.getElem_toArray, List.getElem_cons_succ, List.getElem_cons_zero, Act.put, List.setIfInBounds_toArray, List.set_cons_zero, List.set_cons_succ]
        refine wpAnyH_take (i := 7) (v := ?_) rfl (by kernel_rfl) (by kernel_rfl) (by kernel_rfl) (fun _ _ _ h => h) (Or.inl ⟨by rfl, ?_⟩) (by assumption) ?_
        rotate_left
        · intro w hSw; (try dsimp only at hSw); go_simp; (try (with_reducible rfl))
        try simp only [List.getElem_toArray, List.getElem_cons_succ, List.getElem_cons_zero, Act.put, List.setIfInBounds_toArray, List.set_cons_zero, List.set_cons_succ]
        refine wpAnyH_take (i := 8) (v := ?_) rfl (by kernel_rfl) (by kernel_rfl) (by kernel_rfl) (fun _ _ _ h => h) (Or.inl ⟨by rfl, ?_⟩) (by assumption) ?_
        rotate_left
        · intro w hSw; (try dsimp only at hSw); go_simp; (try (with_reducible rfl))
        try simp only [List.getElem_toArray, List.getElem_cons_succ, List.getElem_cons_zero, Act.put, List.setIfInBounds_toArray, List.set_cons_zero, List.set_cons_succ]
        refine wpAnyH_take (i := 9) (v := ?_) rfl (by kernel_rfl) (by kernel_rfl) (by kernel_rfl) (fun _ _ _ h => h) (Or.inl ⟨by rfl, ?_⟩) (by assumption) ?_
        rotate_left
        · intro w hSw; (try dsimp only at hSw); go_simp; (try (with_reducible rfl))
        try simp only [List.getElem_toArray, List.getElem_cons_succ, List.getElem_cons_zero, Act.put, List.setIfInBounds_toArray, List.set_cons_zero, List.set_cons_succ]
        refine wpAnyH_take (i := 10) (v := ?_) rfl (by kernel_rfl) (by kernel_rfl) (by kernel_rfl) (fun _ _ _ h => h) (Or.inl ⟨by rfl, ?_⟩) (by assumption) ?_
        rotate_left
        · intro w hSw; (try dsimp only at hSw); go_simp; (try (with_reducible rfl))
        try simp only [List.getElem_toArray, List.getElem_cons_succ, List.getElem_cons_zero, Act.put, List.setIfInBounds_toArray, List.set_cons_zero, List.set_cons_succ]
        refine wpAnyH_take (i := 11) (v := ?_) rfl (by kernel_rfl) (by kernel_rfl) (by kernel_rfl) (fun _ _ _ h => h) (Or.inl ⟨by rfl, ?_⟩) (by assumption) ?_
        rotate_left
        · intro w hSw; (try dsimp only at hSw); go_simp; (try (with_reducible rfl))
        try simp only [List.getElem_toArray, List.getElem_cons_succ, List.getElem_cons_zero, Act.put, List.setIfInBounds_toArray, List.set_cons_zero, List.set_cons_succ]
        refine wpAnyH_take (i := 12) (v := ?_) rfl (by kernel_rfl) (by kernel_rfl) (by kernel_rfl) (fun _ _ _ h => h) (Or.inl ⟨by rfl, ?_⟩) (by assumption) ?_
        rotate_left
        · intro w hSw; (try dsimp only at hSw); go_simp; (try (with_reducible rfl))
        try simp only [List.getElem_toArray, List.getElem_cons_succ, List.getElem_cons_zero, Act.put, List.setIfInBounds_toArray, List.set_cons_zero, List.set_cons_succ]
        refine wpAnyH_done (by kernel_rfl) ?_ _
        clear hHeld HS0 hvb
        have HI2 : Hid (wr.drew.ownsRow W1.heap.size 28 2 (.slice Ac ln cap) ln (pairCells (crF rows path limit j)) ∧ Below W1.heap.size W1 wr.drew) := ⟨HI.out.1.drew, HI.out.2.drew⟩
        obtain ⟨wd, hwd⟩ : ∃ W, wr.drew = W := ⟨_, rfl⟩
        rw [hwd] at HI2 ⊢
        clear hwd HI hsz
        have hsz : W1.heap.size ≤ wd.heap.size := HI2.out.2.size
        have HI := HI2
        clear HI2
        have hvl := HVL.out
        have hln := HLN2.out
        have hform := HFO.out
        by_cases hl0 : ln = 0
        · subst hl0
          have HJ : Hid (crF rows path limit (j + 1) = crF rows path limit j ++ [((j : Int), (j : Int))]) := by
            show _ = _
            exact crF_first (by rw [HV.out]; omega) hln
          clear hln hform
          go_wp2_with (at_builtin; refine wpList_append_own _ rfl (.tmp 49) (.tmp 53) 59 rfl W1.heap.size 28 i0 _ 2 16 Tryd.underlying59 hi0 hz0 hz1 hz2 rfl (by decide) _ _ _ rfl (HI.out.1.alloc _) ⟨wd.heap.size, 0, none⟩ 1 1 [.int .i64 (j : Int), .int .i64 (j : Int)] rfl rfl (two_new _ _ _ _) (by simp [Value.oneCell']) (by unfold maxLen; omega) (by omega) (by simp; omega) ?_)
          intro v' w4 hown' hgrow _
          have HFIN : Hid (w4.ownsRow W1.heap.size 28 2 v' (crF rows path limit (j + 1)).length (pairCells (crF rows path limit (j + 1))) ∧ Below W1.heap.size W1 w4) := by
            refine ⟨?_, (HI.out.2.alloc HI.out.2.size _).grown hgrow (by simp; omega) (fun z e => (HI.out.1.lt z e).1)⟩
            rw [HJ.out, pairCells_snoc, List.length_append, HLNE.out]
            exact hown'
          clear hown' hgrow
          go_wp2
          go_roundw
          case rel => exact ⟨j + 1, by omega, by go_num, HFIN.out⟩
          case measure => simp [intOf]; omega
        · obtain ⟨q, hq⟩ : ∃ q, ln = q + 1 := ⟨ln - 1, by omega⟩
          obtain ⟨gc, rfl⟩ := hform (by omega)
          have HQ : Hid ((crF rows path limit j).length = q + 1) := hln.trans hq
          obtain ⟨_, hch⟩ := pairCells_at (crF rows path limit j) q (by rw [HQ.out]; omega)
          have hcq := (HI.out.1.cellAt (q * 2 + 1) (by omega)).trans hch
          have hfq := HI.out.1.frozenAt (q * 2 + 1)
          have hgc := (HI.out.1.lt gc rfl).1
          obtain ⟨hi, hhi⟩ : ∃ hi, ((crF rows path limit j).getD q (0, 0)).2 = hi := ⟨_, rfl⟩
          rw [hhi] at hcq
          have hz1' : IntKind.i64.wrap ((ln : Int) - 1) = (q : Int) := by rw [show (ln : Int) - 1 = (q : Int) by omega]; exact IntWalk.i64_in _ (by omega)
          have hz2' : (ln : Int) - 1 = (q : Int) := by omega
          have hz3' : (0 : Int) ≤ (q : Int) := by omega
          have hz4' : (q : Int) < (ln : Int) := by omega
          have hz5' : decide ((0 : Int) ≤ (q : Int)) = true := decide_eq_true (by omega)
          have hz6' : IntKind.i64.wrap ((j : Int) - 1) = (j : Int) - 1 := IntWalk.i64_in _ (by omega)
          have HLQ : Hid (ln = q + 1) := hq
          have hqb : q < 1000000 := by omega
          clear hch hln hq
          by_cases heq : hi = (j : Int) - 1
          · have HJ : Hid (crF rows path limit (j + 1) = (crF rows path limit j).set q (((crF rows path limit j).getD q (0, 0)).1, (j : Int))) := by
              show _ = _
              exact crF_join (by rw [HV.out]; omega) HQ.out (hhi.trans heq)
            have heb : (hi == (j : Int) - 1) = true := by rw [heq]; simp
            have HFIN : Hid ((wd.setCell ⟨gc, q * 2 + 1, none⟩ (.int .i64 (j : Int))).ownsRow W1.heap.size 28 2 (.slice (some ⟨gc, 0, none⟩) ln cap) (crF rows path limit (j + 1)).length (pairCells (crF rows path limit (j + 1))) ∧ Below W1.heap.size W1 (wd.setCell ⟨gc, q * 2 + 1, none⟩ (.int .i64 (j : Int)))) := by
              refine ⟨?_, HI.out.2.setCell (p := ⟨gc, q * 2 + 1, none⟩) hgc _⟩
              have h := (HI.out.1.stored (q * 2 + 1) (.int .i64 (j : Int))).1
              rw [pairCells_set2 _ _ _ (by rw [HQ.out]; omega)] at h
              rw [HJ.out, List.length_set, HLNE.out]
              exact h
            clear heq hhi
            go_wp2
            go_roundw
            case rel => exact ⟨j + 1, by omega, by go_num, HFIN.out⟩
            case measure => simp [intOf]; omega
          · have HJ : Hid (crF rows path limit (j + 1) = crF rows path limit j ++ [((j : Int), (j : Int))]) := by
              show _ = _
              exact crF_apart (by rw [HV.out]; omega) HQ.out (by rw [hhi]; exact heq)
            have heb : (hi == (j : Int) - 1) = false := by rw [beq_eq_false_iff_ne]; exact heq
            clear heq hhi
            go_wp2_with (at_builtin; refine wpList_append_own _ rfl (.tmp 49) (.tmp 53) 59 rfl W1.heap.size 28 i0 _ 2 16 Tryd.underlying59 hi0 hz0 hz1 hz2 rfl (by decide) _ _ _ rfl (HI.out.1.alloc _) ⟨wd.heap.size, 0, none⟩ 1 1 [.int .i64 (j : Int), .int .i64 (j : Int)] rfl rfl (two_new _ _ _ _) (by simp [Value.oneCell']) (by unfold maxLen; omega) (by omega) (by simp; omega) ?_)
            intro v' w4 hown' hgrow _
            have HFIN : Hid (w4.ownsRow W1.heap.size 28 2 v' (crF rows path limit (j + 1)).length (pairCells (crF rows path limit (j + 1))) ∧ Below W1.heap.size W1 w4) := by
              refine ⟨?_, (HI.out.2.alloc HI.out.2.size _).grown hgrow (by simp; omega) (fun z e => (HI.out.1.lt z e).1)⟩
              rw [HJ.out, pairCells_snoc, List.length_append, HLNE.out]
              exact hown'
            clear hown' hgrow
            go_wp2
            go_roundw
            case rel => exact ⟨j + 1, by omega, by go_num, HFIN.out⟩
            case measure => simp [intOf]; omega
    · obtain rfl : n = j := by omega
      go_wp2
      go_ret
      exact ⟨⟨_, rfl, ownMono HI.out.1 HB2.out.size⟩, HB2.out.trans (HI.out.2.mono HB2.out.size)⟩

end Go.Proofs.YtofdjapbofagiaaDoor
