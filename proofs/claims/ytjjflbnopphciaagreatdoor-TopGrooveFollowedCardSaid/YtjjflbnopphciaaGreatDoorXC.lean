import Derived.Test.YtjjflbnopphciaaGreatDoorH2
import Derived.Test.YtjjflbnopphciaaGreatDoorR1
import Derived.Deep.RegionHeld
namespace Go.Proofs.YtjjflbnopphciaaGreatDoor
open Go.RowKit Go.Shelf
attribute [local go_sem] Oper.semAt_some

/-- The slice '.slice A n c' reads as the numbers xs. -/
def RdI (w : World) (A : Option Addr) (n : Nat) (xs : List Int) : Prop :=
  xs.length = n ∧ (0 < n → ∃ ad, A = some ad ∧ ad.block < w.heap.size ∧ ∀ j, j < n → w.cell? (ad.add j) = some (.int .i64 (xs.getD j 0)))
theorem addBlock (a : Addr) (n : Nat) : (a.add n).block = a.block := by unfold Addr.add; split <;> rfl
theorem RdI.below {w w' : World} {A : Option Addr} {n : Nat} {xs : List Int} (h : RdI w A n xs) (hb : Below w.heap.size w w') : RdI w' A n xs := by
  refine ⟨h.1, fun hn => ?_⟩
  obtain ⟨ad, e, hlt, hc⟩ := h.2 hn
  exact ⟨ad, e, Nat.lt_of_lt_of_le hlt hb.size, fun j hj => (hb.cell (by rw [addBlock]; exact hlt)).trans (hc j hj)⟩

theorem cellA {W : World} {a : Addr} {v : Value} (o : Obj) (h : W.cell? a = some v) : (W.alloc o).cell? a = some v := cell_kept h (World.grownBy_alloc W o none) (fun r e => by cases e)
theorem frozA {W : World} {a : Addr} {v : Value} (o : Obj) (h : W.cell? a = some v) (hf : W.frozen? a = false) : (W.alloc o).frozen? a = false := (frozen_kept h (World.grownBy_alloc W o none) (fun r e => by cases e)).trans hf

set_option maxRecDepth 100000 in
set_option maxHeartbeats 4000000 in
theorem cheapest_any (sv : Value) (b : Int) (cols c : Nat) (A : Option Addr) (cap : Nat) (costs : List Int) (w : World) (hcol : c < cols) (hcb : cols ≤ 1000000) (hr : RdI w A cols costs)
    (hb : 0 ≤ b ∧ b ≤ 1000000) (hcs : ∀ x ∈ costs, 0 ≤ x ∧ x ≤ 1000000000000000000) :
    Calls Tryz.prog 82 #[.agg #[sv, .int .i64 b, .int .i64 cols], .slice A cols cap, .int .i64 c] w fun e w' =>
      e = .returned (.tuple #[.int .i64 (chp costs b c cols).1, .int .i64 (chp costs b c cols).2]) ∧ Below w.heap.size w w' := by
  have HR := Lib.hid hr
  have HC := Lib.hid hcs
  have HB0 := Lib.hid hb
  clear hr hcs hb
  refine (callsIn_wide (n := 6)).1 ?_
  refine callsIn_of_wp_marks Tryz.func82 rfl trivial ?_ rfl
  simp only [Tryz.ntmps82, List.size_toArray, List.length_cons, List.length_nil, Nat.reduceAdd, Nat.reduceSub, Array.replicate_succ, Array.replicate_zero, List.push_toArray, List.append_toArray, List.nil_append, List.cons_append]
  gi_wp2_with (refine ⟨trivial, ?_⟩; gi_at_call 96; refine (neighbours_in Fence.wide _ trivial rfl _ _ _ _ _).mono ?_; rintro e w' ⟨rfl, rfl⟩)
  obtain ⟨W0, hW0⟩ : ∃ W0, (((((((w.alloc (.cells #[sv, .int .i64 b, .int .i64 cols] 104)).alloc (.cells #[.slice A cols cap] 22)).alloc (.cells #[.int .i64 c] 3)).alloc (.cells #[.int .i64 0] 3)).alloc (.cells #[.int .i64 9223372036854775807] 3)).alloc (.cells #[sv, .int .i64 b, .int .i64 cols] 104)).alloc (.cells #[.int .i64 c] 3)) = W0 := ⟨_, rfl⟩
  rw [hW0]
  have hsz : W0.heap.size = w.heap.size + 7 := by rw [← hW0]; (simp [go_sem]; done)
  have c00 : W0.cell? ⟨w.heap.size, 0, none⟩ = some sv := by rw [← hW0]; (simp [go_sem]; done)
  have c01 : W0.cell? ⟨w.heap.size, 1, none⟩ = some (.int .i64 b) := by rw [← hW0]; (simp [go_sem]; done)
  have c02 : W0.cell? ⟨w.heap.size, 2, none⟩ = some (.int .i64 cols) := by rw [← hW0]; (simp [go_sem]; done)
  have c1 : W0.cell? ⟨w.heap.size + 1, 0, none⟩ = some (.slice A cols cap) := by rw [← hW0]; (simp [go_sem]; done)
  have c2 : W0.cell? ⟨w.heap.size + 1 + 1, 0, none⟩ = some (.int .i64 c) := by rw [← hW0]; (simp [go_sem]; done)
  have c3 : W0.cell? ⟨w.heap.size + 1 + 1 + 1, 0, none⟩ = some (.int .i64 0) := by rw [← hW0]; (simp [go_sem]; done)
  have c4 : W0.cell? ⟨w.heap.size + 1 + 1 + 1 + 1, 0, none⟩ = some (.int .i64 9223372036854775807) := by rw [← hW0]; (simp [go_sem]; done)
  have f3 : W0.frozen? ⟨w.heap.size + 1 + 1 + 1, 0, none⟩ = false := by rw [← hW0]; (simp [go_sem]; done)
  have f4 : W0.frozen? ⟨w.heap.size + 1 + 1 + 1 + 1, 0, none⟩ = false := by rw [← hW0]; (simp [go_sem]; done)
  have c5 : W0.cell? ⟨w.heap.size + 1 + 1 + 1 + 1 + 1, 2, none⟩ = some (.int .i64 cols) := by rw [← hW0]; (simp [go_sem]; done)
  have c6 : W0.cell? ⟨w.heap.size + 1 + 1 + 1 + 1 + 1 + 1, 0, none⟩ = some (.int .i64 c) := by rw [← hW0]; (simp [go_sem]; done)
  have hbel : Below w.heap.size w W0 := by rw [← hW0]; exact (((((((Below.refl _ w).alloc (by simp) _).alloc (by simp) _).alloc (by simp; omega) _).alloc (by simp; omega) _).alloc (by simp; omega) _).alloc (by simp; omega) _).alloc (by simp; omega) _
  refine wpIn_rangeFunc_ownF rfl (by omega) (gf := 114) (lb := #[.pointer (some ⟨w.heap.size + 1 + 1 + 1 + 1 + 1 + 1, 0, none⟩), .pointer (some ⟨w.heap.size + 1 + 1 + 1 + 1 + 1, 0, none⟩)]) rfl trivial (enters_of Tryz.func114 (by kernel_rfl) rfl)
    (nbrs_stops Fence.wide _ trivial rfl (by omega) (w.heap.size + 1 + 1 + 1 + 1 + 1 + 1) (w.heap.size + 1 + 1 + 1 + 1 + 1) c cols hcol hcb W0 (by omega) (by omega) c6 c5) (fun h k => h.trans k) (fun W l o o' hl _ _ _ => Kp2.putObj W l o' (by omega) (by omega)) (Below.refl _ _) (fun _ => rfl)
    (fun pre W => (W.cell? ⟨w.heap.size, 0, none⟩ = some sv ∧ W.cell? ⟨w.heap.size, 1, none⟩ = some (.int .i64 b) ∧ W.cell? ⟨w.heap.size, 2, none⟩ = some (.int .i64 cols) ∧ W.cell? ⟨w.heap.size + 1, 0, none⟩ = some (.slice A cols cap) ∧ W.cell? ⟨w.heap.size + 1 + 1, 0, none⟩ = some (.int .i64 c) ∧ W.cell? ⟨w.heap.size + 1 + 1 + 1, 0, none⟩ = some (.int .i64 (chFrom costs b c (pre.map (·.1))).1) ∧ W.cell? ⟨w.heap.size + 1 + 1 + 1 + 1, 0, none⟩ = some (.int .i64 (chFrom costs b c (pre.map (·.1))).2) ∧ W.frozen? ⟨w.heap.size + 1 + 1 + 1, 0, none⟩ = false ∧ W.frozen? ⟨w.heap.size + 1 + 1 + 1 + 1, 0, none⟩ = false) ∧ (Below w.heap.size w W ∧ w.heap.size + 7 ≤ W.heap.size))
    (fun _ _ _ => False)
    (OwnFrom.and (Own.from (fun s X Y row hs hg hr => ⟨cell_kept hs.1 hg hr, cell_kept hs.2.1 hg hr, cell_kept hs.2.2.1 hg hr, cell_kept hs.2.2.2.1 hg hr, cell_kept hs.2.2.2.2.1 hg hr, cell_kept hs.2.2.2.2.2.1 hg hr, cell_kept hs.2.2.2.2.2.2.1 hg hr, (frozen_kept hs.2.2.2.2.2.1 hg hr).trans hs.2.2.2.2.2.2.2.1, (frozen_kept hs.2.2.2.2.2.2.1 hg hr).trans hs.2.2.2.2.2.2.2.2⟩) _) (OwnFrom.and (ownFrom_below (Nat.le_refl _) (by omega)) (fun s X Y row hs hg hr => Nat.le_trans hs hg.size)))
    (fun _ _ _ _ _ hs _ _ => hs)
    ⟨⟨c00, c01, c02, c1, c2, c3, c4, f3, f4⟩, hbel, by omega⟩
    (fun x => { tmps := #[.agg #[sv, .int .i64 b, .int .i64 cols], .slice A cols cap, .int .i64 c, .pointer (some ⟨w.heap.size, 0, none⟩), .pointer (some ⟨w.heap.size + 1, 0, none⟩), .pointer (some ⟨w.heap.size + 1 + 1, 0, none⟩), .pointer (some ⟨w.heap.size + 1 + 1 + 1, 0, none⟩), .pointer (some ⟨w.heap.size + 1 + 1 + 1 + 1, 0, none⟩), .int .i64 x.1, undef, .agg #[sv, .int .i64 b, .int .i64 cols], .int .i64 c, .func (.func 114) #[] #[.pointer (some ⟨w.heap.size + 1 + 1 + 1 + 1 + 1 + 1, 0, none⟩), .pointer (some ⟨w.heap.size + 1 + 1 + 1 + 1 + 1, 0, none⟩)], .int .i64 x.1, undef, undef, undef, undef, undef, undef, undef, undef, undef, undef, undef, undef, undef, undef, undef, undef], defers := [] }) ?assign ?body ?done ?stop
  case assign =>
    intro l x W K hK
    gi_wp2
    exact hK
  case body =>
    clear c00 c01 c02 c1 c2 c3 c4 f3 f4 c5 c6 hbel hW0 hsz
    rintro l pre ⟨x, hx0, hx1⟩ W ⟨⟨d00, d01, d02, d1, d2, d3, d4, e3, e4⟩, hBW, hWs⟩ _
    obtain ⟨k, rfl⟩ := Int.eq_ofNat_of_zero_le hx0
    obtain ⟨ad, rfl, _, hca⟩ := (HR.out.below hBW).2 (by omega)
    have hck := hca k (by omega)
    clear hca
    obtain ⟨cv, hcv⟩ : ∃ cv, costs.getD k 0 = cv := ⟨_, rfl⟩
    obtain ⟨s1, s2, hs⟩ : ∃ s1 s2, chFrom costs b c (pre.map (·.1)) = (s1, s2) := ⟨_, _, rfl⟩
    have hsn : Hid (chFrom costs b c ((pre ++ [(⟨(k : Int), hx0, hx1⟩ : Col cols)]).map (·.1)) = chStep costs b c (s1, s2) k) := by
      show _ = _
      rw [List.map_append, List.map_cons, List.map_nil, chFrom_snoc, hs]
    rw [hs] at d3 d4
    rw [hcv] at hck
    dsimp only at d3 d4
    obtain ⟨bv, hbv⟩ : ∃ bv, (if (c : Int) = (k : Int) then 0 else b) = bv := ⟨_, rfl⟩
    have hcvb : 0 ≤ cv ∧ cv ≤ 1000000000000000000 := by
      rw [← hcv, List.getD_eq_getElem?_getD, List.getElem?_eq_getElem (by have := HR.out.1; omega)]
      exact HC.out _ (List.getElem_mem _)
    have hbvb : 0 ≤ bv ∧ bv ≤ 1000000 := by have := HB0.out; rw [← hbv]; split <;> omega
    have HBend : Hid (∀ W' : World, (W'.cell? (ad.add k) = some (.int .i64 cv) ∧ W'.cell? ((⟨w.heap.size, 0, none⟩ : Addr)) = some (sv) ∧ W'.cell? (⟨w.heap.size, 1, none⟩) = some (.int .i64 b) ∧ W'.cell? (⟨w.heap.size, 2, none⟩) = some (.int .i64 cols) ∧ W'.cell? (⟨w.heap.size + 1, 0, none⟩) = some (.slice (some ad) cols cap) ∧ W'.cell? (⟨w.heap.size + 1 + 1, 0, none⟩) = some (.int .i64 c) ∧ W'.cell? (⟨w.heap.size + 1 + 1 + 1, 0, none⟩) = some (.int .i64 s1) ∧ W'.cell? (⟨w.heap.size + 1 + 1 + 1 + 1, 0, none⟩) = some (.int .i64 s2) ∧ W'.frozen? ⟨w.heap.size + 1 + 1 + 1, 0, none⟩ = false ∧ W'.frozen? ⟨w.heap.size + 1 + 1 + 1 + 1, 0, none⟩ = false ∧ w.heap.size + 7 ≤ W'.heap.size ∧ KeepsOthers W W' ∧ Kp2 (w.heap.size + 1 + 1 + 1 + 1 + 1 + 1) (w.heap.size + 1 + 1 + 1 + 1 + 1) W W' ∧ Below w.heap.size W W') → Calls Tryz.prog 97 #[.agg #[sv, .int .i64 b, .int .i64 cols], .int .i64 c, .int .i64 k] W' fun e w' => e = .returned (.int .i64 bv) ∧ (w'.cell? (ad.add k) = some (.int .i64 cv) ∧ w'.cell? ((⟨w.heap.size, 0, none⟩ : Addr)) = some (sv) ∧ w'.cell? (⟨w.heap.size, 1, none⟩) = some (.int .i64 b) ∧ w'.cell? (⟨w.heap.size, 2, none⟩) = some (.int .i64 cols) ∧ w'.cell? (⟨w.heap.size + 1, 0, none⟩) = some (.slice (some ad) cols cap) ∧ w'.cell? (⟨w.heap.size + 1 + 1, 0, none⟩) = some (.int .i64 c) ∧ w'.cell? (⟨w.heap.size + 1 + 1 + 1, 0, none⟩) = some (.int .i64 s1) ∧ w'.cell? (⟨w.heap.size + 1 + 1 + 1 + 1, 0, none⟩) = some (.int .i64 s2) ∧ w'.frozen? ⟨w.heap.size + 1 + 1 + 1, 0, none⟩ = false ∧ w'.frozen? ⟨w.heap.size + 1 + 1 + 1 + 1, 0, none⟩ = false ∧ w.heap.size + 7 ≤ w'.heap.size ∧ KeepsOthers W w' ∧ Kp2 (w.heap.size + 1 + 1 + 1 + 1 + 1 + 1) (w.heap.size + 1 + 1 + 1 + 1 + 1) W w' ∧ Below w.heap.size W w')) := by
      rintro W' ⟨g1, g2, g3, g4, g5, g6, g7, g8, g9, g10, g11, g12, g13, g14⟩
      refine (bend_any sv b cols c k W').mono ?_
      rintro e w' ⟨he, o, rfl⟩
      exact ⟨by rw [he, hbv], cellA o g1, cellA o g2, cellA o g3, cellA o g4, cellA o g5, cellA o g6, cellA o g7, cellA o g8, frozA o g7 g9, frozA o g8 g10, by simp; omega, g12.trans (KeepsOthers.alloc _ _), g13.trans (Kp2.alloc _ _ (by omega) (by omega)), g14.alloc (by omega) _⟩
    have HS : Hid (costs.getD k 0 = cv) := hcv
    have HV : Hid ((if (c : Int) = (k : Int) then 0 else b) = bv) := hbv
    clear hcv hbv hs
    have hwrp : IntKind.i64.wrap (cv + bv) = cv + bv := IntWalk.i64_in _ (by omega)
    have hmx : Tryz.prog.follows .mixedOrders = true := by kernel_rfl
    gi_wp2
    refine region_in_round (S := (fun w' : World => w'.cell? (ad.add k) = some (.int .i64 cv) ∧ w'.cell? ((⟨w.heap.size, 0, none⟩ : Addr)) = some (sv) ∧ w'.cell? (⟨w.heap.size, 1, none⟩) = some (.int .i64 b) ∧ w'.cell? (⟨w.heap.size, 2, none⟩) = some (.int .i64 cols) ∧ w'.cell? (⟨w.heap.size + 1, 0, none⟩) = some (.slice (some ad) cols cap) ∧ w'.cell? (⟨w.heap.size + 1 + 1, 0, none⟩) = some (.int .i64 c) ∧ w'.cell? (⟨w.heap.size + 1 + 1 + 1, 0, none⟩) = some (.int .i64 s1) ∧ w'.cell? (⟨w.heap.size + 1 + 1 + 1 + 1, 0, none⟩) = some (.int .i64 s2) ∧ w'.frozen? ⟨w.heap.size + 1 + 1 + 1, 0, none⟩ = false ∧ w'.frozen? ⟨w.heap.size + 1 + 1 + 1 + 1, 0, none⟩ = false ∧ w.heap.size + 7 ≤ w'.heap.size ∧ KeepsOthers W w' ∧ Kp2 (w.heap.size + 1 + 1 + 1 + 1 + 1 + 1) (w.heap.size + 1 + 1 + 1 + 1 + 1) W w' ∧ Below w.heap.size W w')) (R := (fun a' w' => (fun w' : World => w'.cell? (ad.add k) = some (.int .i64 cv) ∧ w'.cell? ((⟨w.heap.size, 0, none⟩ : Addr)) = some (sv) ∧ w'.cell? (⟨w.heap.size, 1, none⟩) = some (.int .i64 b) ∧ w'.cell? (⟨w.heap.size, 2, none⟩) = some (.int .i64 cols) ∧ w'.cell? (⟨w.heap.size + 1, 0, none⟩) = some (.slice (some ad) cols cap) ∧ w'.cell? (⟨w.heap.size + 1 + 1, 0, none⟩) = some (.int .i64 c) ∧ w'.cell? (⟨w.heap.size + 1 + 1 + 1, 0, none⟩) = some (.int .i64 s1) ∧ w'.cell? (⟨w.heap.size + 1 + 1 + 1 + 1, 0, none⟩) = some (.int .i64 s2) ∧ w'.frozen? ⟨w.heap.size + 1 + 1 + 1, 0, none⟩ = false ∧ w'.frozen? ⟨w.heap.size + 1 + 1 + 1 + 1, 0, none⟩ = false ∧ w.heap.size + 7 ≤ w'.heap.size ∧ KeepsOthers W w' ∧ Kp2 (w.heap.size + 1 + 1 + 1 + 1 + 1 + 1) (w.heap.size + 1 + 1 + 1 + 1 + 1) W w' ∧ Below w.heap.size W w') w' ∧ ∃ u14 u15 u16 u17 u18 u19 u20 u21 u22 : Value, a' = { tmps := #[.agg #[sv, .int .i64 b, .int .i64 cols], .slice (some ad) cols cap, .int .i64 c, .pointer (some ⟨w.heap.size, 0, none⟩), .pointer (some ⟨w.heap.size + 1, 0, none⟩), .pointer (some ⟨w.heap.size + 1 + 1, 0, none⟩), .pointer (some ⟨w.heap.size + 1 + 1 + 1, 0, none⟩), .pointer (some ⟨w.heap.size + 1 + 1 + 1 + 1, 0, none⟩), .int .i64 k, .int .i64 (cv + bv), .agg #[sv, .int .i64 b, .int .i64 cols], .int .i64 c, .func (.func 114) #[] #[.pointer (some ⟨w.heap.size + 1 + 1 + 1 + 1 + 1 + 1, 0, none⟩), .pointer (some ⟨w.heap.size + 1 + 1 + 1 + 1 + 1, 0, none⟩)], .int .i64 k, u14, u15, u16, u17, u18, u19, u20, u21, u22, undef, undef, undef, undef, undef, undef, undef], defers := [] })) hmx (by intro i o hi c; rcases i with _ | _ | _ | _ | _ | _ | _ | _ | _ | _ | i <;> first | (cases hi; simp; done) | (simp at hi)) ?_ ?_ ?_
    · first | (with_reducible assumption) | exact ⟨hck, d00, d01, d02, d1, d2, d3, d4, e3, e4, hWs, KeepsOthers.drew _, Kp2.drew _, (Below.refl _ _).drew⟩
    intro hHeld
    refine wpAnyH_take (i := 0) (v := ?_) rfl (by kernel_rfl) (by kernel_rfl) (by kernel_rfl) (fun _ _ _ h => h) (Or.inl ⟨by rfl, ?_⟩) (by assumption) ?_
    rotate_left
    · intro w hSw; (try dsimp only at hSw); go_simp; (try (with_reducible rfl))
    try simp only [List.getElem_toArray, List.getElem_cons_succ, List.getElem_cons_zero, Act.put, List.setIfInBounds_toArray, List.set_cons_zero, List.set_cons_succ]
    refine wpAnyH_take (i := 1) (v := ?_) rfl (by kernel_rfl) (by kernel_rfl) (by kernel_rfl) (fun _ _ _ h => h) (Or.inl ⟨by rfl, ?_⟩) (by assumption) ?_
    rotate_left
    · intro w hSw; (try dsimp only at hSw); go_simp; (try (with_reducible rfl))
    try simp only [List.getElem_toArray, List.getElem_cons_succ, List.getElem_cons_zero, Act.put, List.setIfInBounds_toArray, List.set_cons_zero, List.set_cons_succ]
    refine wpAnyH_take (i := 2) (v := ?_) rfl (by kernel_rfl) (by kernel_rfl) (by kernel_rfl) (fun _ _ _ h => h) (Or.inl ⟨by rfl, ?_⟩) (by assumption) ?_
    rotate_left
    · intro w hSw; (try dsimp only at hSw); go_simp; (try (with_reducible rfl))
    try simp only [List.getElem_toArray, List.getElem_cons_succ, List.getElem_cons_zero, Act.put, List.setIfInBounds_toArray, List.set_cons_zero, List.set_cons_succ]
    refine wpAnyH_take (i := 3) (v := ?_) rfl (by kernel_rfl) (by kernel_rfl) (by kernel_rfl) (fun _ _ _ h => h) (Or.inl ⟨by rfl, ?_⟩) (by assumption) ?_
    rotate_left
    · intro w hSw; (try dsimp only at hSw); go_simp; (try (with_reducible rfl))
    try simp only [List.getElem_toArray, List.getElem_cons_succ, List.getElem_cons_zero, Act.put, List.setIfInBounds_toArray, List.set_cons_zero, List.set_cons_succ]
    refine wpAnyH_take (i := 4) (v := ?_) rfl (by kernel_rfl) (by kernel_rfl) (by kernel_rfl) (fun _ _ _ h => h) (Or.inl ⟨by rfl, ?_⟩) (by assumption) ?_
    rotate_left
    · intro w hSw; (try dsimp only at hSw); go_simp; (try (with_reducible rfl))
    try simp only [List.getElem_toArray, List.getElem_cons_succ, List.getElem_cons_zero, Act.put, List.setIfInBounds_toArray, List.set_cons_zero, List.set_cons_succ]
    refine wpAnyH_take (i := 5) (v := ?_) rfl (by kernel_rfl) (by kernel_rfl) (by kernel_rfl) (fun _ _ _ h => h) (Or.inl ⟨by rfl, ?_⟩) (by assumption) ?_
    rotate_left
    · intro w hSw; (try dsimp only at hSw); go_simp; (try (with_reducible rfl))
    try simp only [List.getElem_toArray, List.getElem_cons_succ, List.getElem_cons_zero, Act.put, List.setIfInBounds_toArray, List.set_cons_zero, List.set_cons_succ]
    refine wpAnyH_take (i := 6) (v := ?_) rfl (by kernel_rfl) (by kernel_rfl) (by kernel_rfl) (fun _ _ _ h => h) (Or.inl ⟨by rfl, ?_⟩) (by assumption) ?_
    rotate_left
    · intro w hSw; (try dsimp only at hSw); go_simp; (try (with_reducible rfl))
    try simp only [List.getElem_toArray, List.getElem_cons_succ, List.getElem_cons_zero, Act.put, List.setIfInBounds_toArray, List.set_cons_zero, List.set_cons_succ]
    refine wpAnyH_ready (rs := [7]) (by kernel_rfl) (by simp) ?_
    refine AllReadyH.cons rfl (fun K hK => ?_) AllReadyH.nil
    go_simp
    go_at_call 97; refine (HBend.out _ hHeld).mono ?_; rintro e w' ⟨rfl, hs2⟩
    go_wp2_with fail
    refine hK.out _ _ ?_ (fun hHeld => ?_)
    · clear hK K; first | (with_reducible assumption) | exact ⟨hck, d00, d01, d02, d1, d2, d3, d4, e3, e4, hWs, KeepsOthers.drew _, Kp2.drew _, (Below.refl _ _).drew⟩
    clear hK K
    try simp only [List.getElem_toArray, List.getElem_cons_succ, List.getElem_cons_zero, Act.put, List.setIfInBounds_toArray, List.set_cons_zero, List.set_cons_succ]
    refine wpAnyH_take (i := 8) (v := ?_) rfl (by kernel_rfl) (by kernel_rfl) (by kernel_rfl) (fun _ _ _ h => h) (Or.inl ⟨by rfl, ?_⟩) (by assumption) ?_
    rotate_left
    · intro w hSw; (try dsimp only at hSw); go_simp; (try (with_reducible rfl))
    try simp only [List.getElem_toArray, List.getElem_cons_succ, List.getElem_cons_zero, Act.put, List.setIfInBounds_toArray, List.set_cons_zero, List.set_cons_succ]
    refine wpAnyH_take (i := 9) (v := ?_) rfl (by kernel_rfl) (by kernel_rfl) (by kernel_rfl) (fun _ _ _ h => h) (Or.inl ⟨by rfl, ?_⟩) (by assumption) ?_
    rotate_left
    · intro w hSw; (try dsimp only at hSw); go_simp; (try (with_reducible rfl))
    try simp only [List.getElem_toArray, List.getElem_cons_succ, List.getElem_cons_zero, Act.put, List.setIfInBounds_toArray, List.set_cons_zero, List.set_cons_succ]
    refine wpAnyH_done (by kernel_rfl) ?_ _
    · exact ⟨hHeld, _, _, _, _, _, _, _, _, _, rfl⟩
    intro a' w' g1 g2 g3 g4 g5 g6 g7 g8 g9 g10 g11 hKO hK2 hBl u14 u15 u16 u17 u18 u19 u20 u21 u22 ha'
    subst ha'
    clear d00 d01 d02 d1 d2 d3 d4 e3 e4 hck HBend hWs
    have hval : costs.getD (k : Int).toNat 0 + (if (k : Int) = (c : Int) then 0 else b) = cv + bv := by
      rw [Int.toNat_natCast, HS.out]
      congr 1
      rw [← HV.out]
      by_cases e : (c : Int) = (k : Int)
      · rw [if_pos e, if_pos e.symm]
      · rw [if_neg e, if_neg (fun e' => e e'.symm)]
    have HVal := Lib.hid hval
    clear hval
    by_cases hlt : cv + bv < s2
    · have hst : Hid (chFrom costs b c ((pre ++ [(⟨(k : Int), hx0, hx1⟩ : Col cols)]).map (·.1)) = ((k : Int), cv + bv)) := by
        show _ = _
        rw [hsn.out]; unfold chStep; rw [HVal.out]; exact if_pos hlt
      gi_wp2
      refine ⟨hKO.trans ((KeepsOthers.setCell _ _ _).trans (KeepsOthers.setCell _ _ _)), hK2.trans ((Kp2.setCell _ _ _ (by dsimp only; omega) (by dsimp only; omega)).trans (Kp2.setCell _ _ _ (by dsimp only; omega) (by dsimp only; omega))), ?_, (((hBW.trans hBl).setCell (p := ⟨w.heap.size + 1 + 1 + 1, 0, none⟩) (by dsimp only; omega) _).setCell (p := ⟨w.heap.size + 1 + 1 + 1 + 1, 0, none⟩) (by dsimp only; omega) _), by simp; omega⟩
      rw [hst.out]
      refine ⟨?_, ?_, ?_, ?_, ?_, ?_, ?_, ?_, ?_⟩
      · rw [World.cell?_setCell_far _ _ _ _ (by dsimp only; omega), World.cell?_setCell_far _ _ _ _ (by dsimp only; omega)]; exact g2
      · rw [World.cell?_setCell_far _ _ _ _ (by dsimp only; omega), World.cell?_setCell_far _ _ _ _ (by dsimp only; omega)]; exact g3
      · rw [World.cell?_setCell_far _ _ _ _ (by dsimp only; omega), World.cell?_setCell_far _ _ _ _ (by dsimp only; omega)]; exact g4
      · rw [World.cell?_setCell_far _ _ _ _ (by dsimp only; omega), World.cell?_setCell_far _ _ _ _ (by dsimp only; omega)]; exact g5
      · rw [World.cell?_setCell_far _ _ _ _ (by dsimp only; omega), World.cell?_setCell_far _ _ _ _ (by dsimp only; omega)]; exact g6
      · rw [World.cell?_setCell_far _ _ _ _ (by dsimp only; omega)]; exact World.cell?_setCell_same' _ _ _ (by rw [g7]; rfl)
      · exact World.cell?_setCell_same' _ _ _ (by rw [World.cell?_setCell_far _ _ _ _ (by dsimp only; omega), g8]; rfl)
      · rw [World.frozen?_setCell, World.frozen?_setCell]; exact g9
      · rw [World.frozen?_setCell, World.frozen?_setCell]; exact g10
    · have hst : Hid (chFrom costs b c ((pre ++ [(⟨(k : Int), hx0, hx1⟩ : Col cols)]).map (·.1)) = (s1, s2)) := by
        show _ = _
        rw [hsn.out]; unfold chStep; rw [HVal.out]; exact if_neg hlt
      gi_wp2
      refine ⟨hKO, hK2, ?_, hBW.trans hBl, g11⟩
      have h1 : w'.cell? ⟨w.heap.size + 1 + 1 + 1, 0, none⟩ = some (.int .i64 (chFrom costs b c ((pre ++ [(⟨(k : Int), hx0, hx1⟩ : Col cols)]).map (·.1))).1) := by rw [hst.out]; exact g7
      have h2 : w'.cell? ⟨w.heap.size + 1 + 1 + 1 + 1, 0, none⟩ = some (.int .i64 (chFrom costs b c ((pre ++ [(⟨(k : Int), hx0, hx1⟩ : Col cols)]).map (·.1))).2) := by rw [hst.out]; exact g8
      exact ⟨g2, g3, g4, g5, g6, h1, h2, g9, g10⟩
  case done =>
    clear c00 c01 c02 c1 c2 c3 c4 f3 f4 c5 c6 hbel hW0
    rintro D ys W hD hys ⟨⟨d00, d01, d02, d1, d2, d3, d4, e3, e4⟩, hB, hWs⟩ hK
    rw [hys] at d3 d4
    change _ = some (Value.int .i64 (chp costs b c cols).1) at d3
    change _ = some (Value.int .i64 (chp costs b c cols).2) at d4
    obtain ⟨r1, hr1⟩ : ∃ r, (chp costs b c cols).1 = r := ⟨_, rfl⟩
    obtain ⟨r2, hr2⟩ : ∃ r, (chp costs b c cols).2 = r := ⟨_, rfl⟩
    rw [hr1] at d3
    rw [hr2] at d4
    have HR1 := Lib.hid hr1
    have HR2 := Lib.hid hr2
    have HK := Lib.hid hK
    clear hr1 hr2 hK hys d00 d01 d02 d1 d2
    have hmx : Tryz.prog.follows .mixedOrders = true := by kernel_rfl
    gi_wp2
    gi_region
    all_goals gi_wp2
    all_goals (try go_bits)
    all_goals
      have hK' : (((W.setCell ⟨w.heap.size + 1 + 1 + 1, 0, none⟩ (.int .i64 r1)).setCell ⟨w.heap.size + 1 + 1 + 1 + 1, 0, none⟩ (.int .i64 r2)).drew).heap[D]? = some (.deferred (some [])) := (((KeepsOthers.setCell W ⟨w.heap.size + 1 + 1 + 1, 0, none⟩ (.int .i64 r1)).trans (KeepsOthers.setCell _ ⟨w.heap.size + 1 + 1 + 1 + 1, 0, none⟩ (.int .i64 r2))).trans (KeepsOthers.drew _)).same D _ HK.out rfl
      refine ⟨by simp, .inl ⟨_, _, rfl, run_takeDeferred hK', ?_⟩⟩
      have hx1 := cell_kept (W := ((W.setCell ⟨w.heap.size + 1 + 1 + 1, 0, none⟩ (.int .i64 r1)).setCell ⟨w.heap.size + 1 + 1 + 1 + 1, 0, none⟩ (.int .i64 r2)).drew) (a := ⟨w.heap.size + 1 + 1 + 1, 0, none⟩) (v := .int .i64 r1) (by show World.cell? ((W.setCell _ _).setCell _ _) _ = _; rw [World.cell?_setCell_far _ _ _ _ (by dsimp only; omega)]; exact World.cell?_setCell_same' _ _ _ (by rw [d3]; rfl)) (grownBy_putObj' _ D (.deferred none)) (fun r e => by cases e; exact ⟨_, hK', rfl⟩)
      have hx2 := cell_kept (W := ((W.setCell ⟨w.heap.size + 1 + 1 + 1, 0, none⟩ (.int .i64 r1)).setCell ⟨w.heap.size + 1 + 1 + 1 + 1, 0, none⟩ (.int .i64 r2)).drew) (a := ⟨w.heap.size + 1 + 1 + 1 + 1, 0, none⟩) (v := .int .i64 r2) (World.cell?_setCell_same' _ _ _ (by rw [World.cell?_setCell_far _ _ _ _ (by dsimp only; omega), d4]; rfl)) (grownBy_putObj' _ D (.deferred none)) (fun r e => by cases e; exact ⟨_, hK', rfl⟩)
      refine ⟨.tuple #[.int .i64 r1, .int .i64 r2], ?_, by rw [HR1.out, HR2.out], ?_⟩
      · simp [results, Tryz.f82, go_sem, hx1, hx2]
      · exact (((hB.setCell (p := ⟨w.heap.size + 1 + 1 + 1, 0, none⟩) (by dsimp only; omega) _).setCell (p := ⟨w.heap.size + 1 + 1 + 1 + 1, 0, none⟩) (by dsimp only; omega) _).drew).trans (belowK_b (w := w) (Nat.le_refl _) _ D _ _ (by omega) hK' rfl rfl)
  case stop =>
    rintro D c pre W _ _ h _
    exact h.elim

end Go.Proofs.YtjjflbnopphciaaGreatDoor

namespace Go.Proofs.YtjjflbnopphciaaGreatDoor
open Go.RowKit

/-- All numbers are from lo to hi. -/
def fromB (lo hi : Int) (xs : List Int) : Bool := xs.all fun n => decide (lo ≤ n) && decide (n ≤ hi)
theorem fromB_step (lo hi : Int) (xs : List Int) (k : Nat) (hk : k < xs.length) :
    fromB lo hi (xs.drop k) = (decide (lo ≤ xs.getD k 0) && decide (xs.getD k 0 ≤ hi) && fromB lo hi (xs.drop (k + 1))) := by
  unfold fromB
  rw [List.drop_eq_getElem_cons hk]
  simp only [List.all_cons, List.getD_eq_getElem?_getD, List.getElem?_eq_getElem hk, Option.getD_some]

set_option maxHeartbeats 1000000 in
theorem areFrom_any (A : Option Addr) (n c : Nat) (xs : List Int) (lo hi : Int) (w : World) (hr : RdI w A n xs) (hn : n ≤ 9223372036854775806) :
    Calls Tryz.prog 45 #[.int .i64 lo, .int .i64 hi, .slice A n c] w fun e w' => e = .returned (.bool (fromB lo hi xs)) ∧ w = w' := by
  have HR := Lib.hid hr; clear hr
  go_enter Tryz.func45, Tryz.ntmps45
  go_wp2
  go_loop [11] (fun i => ∃ k : Nat, k ≤ n ∧ i = .int .i64 k ∧ Hid (fromB lo hi xs = fromB lo hi (xs.drop k))) (fun i => n - (intOf i).toNat)
  case atStart => exact ⟨0, Nat.zero_le _, rfl, rfl⟩
  case round =>
    obtain ⟨k, hk, rfl, HE⟩ := hrel
    by_cases hlt : k < n
    · obtain ⟨ad, ha, _, hc⟩ := HR.out.2 (by omega)
      have hck := hc k hlt
      clear hc
      subst ha
      obtain ⟨x, hx⟩ : ∃ x, xs.getD k 0 = x := ⟨_, rfl⟩
      have hs := fromB_step lo hi xs k (by have := HR.out.1; omega)
      rw [hx] at hck hs
      have HS := Lib.hid hs; clear hs hx
      have hkI : (k : Int) < (n : Int) := by omega
      by_cases h1 : lo ≤ x
      · by_cases h2 : x ≤ hi
        · go_wp2
          go_round
          case rel => exact ⟨k + 1, by omega, by go_num, by show _ = _; rw [HE.out, HS.out, decide_eq_true h1, decide_eq_true h2]; rfl⟩
          case measure => simp [intOf]; omega
        · go_wp2
          go_ret
          exact ⟨by rw [HE.out, HS.out, show decide (x ≤ hi) = false from decide_eq_false (by omega), Bool.and_false, Bool.false_and]; rfl, rfl⟩
      · go_wp2
        go_ret
        exact ⟨by rw [HE.out, HS.out, show decide (lo ≤ x) = false from decide_eq_false (by omega), Bool.false_and, Bool.false_and]; rfl, rfl⟩
    · obtain rfl : n = k := by omega
      go_wp2
      go_ret
      exact ⟨by rw [HE.out, List.drop_eq_nil_of_le (by have := HR.out.1; omega)]; rfl, rfl⟩

theorem areAtMost_any (A : Option Addr) (n c : Nat) (xs : List Int) (m : Int) (w : World) (hr : RdI w A n xs) (hn : n ≤ 9223372036854775806) (hm : 0 ≤ m ∧ m ≤ 9223372036854775807) :
    Calls Tryz.prog 60 #[.int .i64 m, .slice A n c] w fun e w' => e = .returned (.bool (fromB (-m) m xs)) ∧ w = w' := by
  have C := Lib.hid (areFrom_any A n c xs (-m) m w hr hn)
  clear hr
  have hneg : IntKind.i64.wrap (-m) = -m := IntWalk.i64_in _ (by omega)
  go_enter Tryz.func60, Tryz.ntmps60
  go_wp2_with (go_at_call 45; refine C.out.mono ?_; rintro e w' ⟨rfl, rfl⟩)
  go_ret
  exact ⟨rfl, rfl⟩

end Go.Proofs.YtjjflbnopphciaaGreatDoor

namespace Go.Proofs.YtjjflbnopphciaaGreatDoor
open Go.RowKit

/-- The slice '.slice A n c' reads as the rows. -/
def RdG (w : World) (A : Option Addr) (n : Nat) (rows : List (List Int)) : Prop :=
  rows.length = n ∧ (0 < n → ∃ ad, A = some ad ∧ ad.block < w.heap.size ∧ ∀ j, j < n → ∃ B m c, w.cell? (ad.add j) = some (.slice B m c) ∧ RdI w B m (rows.getD j []) ∧ m ≤ 9223372036854775806)

theorem RdG.below {w w' : World} {A : Option Addr} {n : Nat} {rows : List (List Int)} (h : RdG w A n rows) (hb : Below w.heap.size w w') : RdG w' A n rows := by
  refine ⟨h.1, fun hn => ?_⟩
  obtain ⟨ad, e, hlt, hc⟩ := h.2 hn
  refine ⟨ad, e, Nat.lt_of_lt_of_le hlt hb.size, fun j hj => ?_⟩
  obtain ⟨B, m, c, h1, h2, h3⟩ := hc j hj
  exact ⟨B, m, c, (hb.cell (by rw [addBlock]; exact hlt)).trans h1, h2.below hb, h3⟩

/-- The error of one row, of all rows: the first one's. -/
def rowE (cols : Nat) (lo hi : Int) (r : List Int) : Int := if r.length = cols then (if fromB lo hi r = true then 0 else 2) else 10
def rowsE (cols : Nat) (lo hi : Int) : List (List Int) → Int
  | [] => 0
  | r :: rs => if rowE cols lo hi r = 0 then rowsE cols lo hi rs else rowE cols lo hi r
theorem rowsE_step (cols : Nat) (lo hi : Int) (rows : List (List Int)) (k : Nat) (hk : k < rows.length) :
    rowsE cols lo hi (rows.drop k) = if rowE cols lo hi (rows.getD k []) = 0 then rowsE cols lo hi (rows.drop (k + 1)) else rowE cols lo hi (rows.getD k []) := by
  rw [List.drop_eq_getElem_cons hk]
  simp only [rowsE, List.getD_eq_getElem?_getD, List.getElem?_eq_getElem hk, Option.getD_some]

set_option maxRecDepth 100000 in
set_option maxHeartbeats 1000000 in
theorem checkRows_any (A : Option Addr) (n c : Nat) (rows : List (List Int)) (cols : Nat) (lo hi : Int) (w : World) (hr : RdG w A n rows) (hn : n ≤ 9223372036854775806) :
    Calls Tryz.prog 93 #[.slice A n c, .int .i64 cols, .int .i64 lo, .int .i64 hi] w fun e w' => e = .returned (.int .i64 (rowsE cols lo hi rows)) ∧ w = w' := by
  have HR := Lib.hid hr; clear hr
  go_enter Tryz.func93, Tryz.ntmps93
  go_wp2
  go_loop [13] (fun i => ∃ k : Nat, k ≤ n ∧ i = .int .i64 k ∧ Hid (rowsE cols lo hi rows = rowsE cols lo hi (rows.drop k))) (fun i => n - (intOf i).toNat)
  case atStart => exact ⟨0, Nat.zero_le _, rfl, rfl⟩
  case round =>
    obtain ⟨k, hk, rfl, HE⟩ := hrel
    by_cases hlt : k < n
    · obtain ⟨ad, ha, _, hc⟩ := HR.out.2 (by omega)
      obtain ⟨B, m, c', hck, hrow, hm⟩ := hc k hlt
      clear hc
      subst ha
      obtain ⟨x, hx⟩ : ∃ x, rows.getD k [] = x := ⟨_, rfl⟩
      have hs := rowsE_step cols lo hi rows k (by have := HR.out.1; omega)
      rw [hx] at hrow hs
      have hxm : x.length = m := hrow.1
      have C := Lib.hid (areFrom_any B m c' x lo hi w hrow hm)
      clear hrow hx
      obtain ⟨t, ht⟩ : ∃ t, fromB lo hi x = t := ⟨_, rfl⟩
      rw [ht] at C
      have HS := Lib.hid hs; clear hs
      have HT := Lib.hid ht; clear ht
      have HXM := Lib.hid hxm; clear hxm
      have hkI : (k : Int) < (n : Int) := by omega
      by_cases h1 : m = cols
      · subst h1
        have h1b : ((m : Int) != (m : Int)) = false := bne_self_eq_false' _
        have hE : Hid (rowE m lo hi x = if t = true then 0 else 2) := by
          show rowE m lo hi x = _
          unfold rowE
          rw [if_pos HXM.out, HT.out]
        cases t
        · go_wp2_with (go_at_call 45; refine C.out.mono ?_; rintro e w' ⟨rfl, rfl⟩)
          go_ret
          exact ⟨by rw [HE.out, HS.out, hE.out]; simp, rfl⟩
        · go_wp2_with (go_at_call 45; refine C.out.mono ?_; rintro e w' ⟨rfl, rfl⟩)
          go_round
          case rel => exact ⟨k + 1, by omega, by go_num, by show _ = _; rw [HE.out, HS.out, hE.out]; simp⟩
          case measure => simp [intOf]; omega
      · have h1b : ((m : Int) != (cols : Int)) = true := by rw [bne_iff_ne]; omega
        have hE : Hid (rowE cols lo hi x = 10) := by
          show rowE cols lo hi x = _
          unfold rowE
          rw [if_neg (by rw [HXM.out]; exact h1)]
        go_wp2
        go_ret
        exact ⟨by rw [HE.out, HS.out, hE.out]; rfl, rfl⟩
    · obtain rfl : n = k := by omega
      go_wp2
      go_ret
      exact ⟨by rw [HE.out, List.drop_eq_nil_of_le (by have := HR.out.1; omega)]; rfl, rfl⟩

set_option maxRecDepth 100000 in
set_option maxHeartbeats 1000000 in
theorem checkRowsS_any (A : Option Addr) (n c : Nat) (rows : List (List Int)) (cols : Nat) (lo hi : Int) (w : World) (hr : RdG w A n rows) (hn : n ≤ 9223372036854775806) :
    Calls Tryz.prog 113 #[.slice A n c, .int .i64 cols, .int .i64 lo, .int .i64 hi] w fun e w' => e = .returned (.int .i64 (rowsE cols lo hi rows)) ∧ w = w' := by
  have HR := Lib.hid hr; clear hr
  go_enter Tryz.func113, Tryz.ntmps113
  go_wp2
  go_loop [13] (fun i => ∃ k : Nat, k ≤ n ∧ i = .int .i64 k ∧ Hid (rowsE cols lo hi rows = rowsE cols lo hi (rows.drop k))) (fun i => n - (intOf i).toNat)
  case atStart => exact ⟨0, Nat.zero_le _, rfl, rfl⟩
  case round =>
    obtain ⟨k, hk, rfl, HE⟩ := hrel
    by_cases hlt : k < n
    · obtain ⟨ad, ha, _, hc⟩ := HR.out.2 (by omega)
      obtain ⟨B, m, c', hck, hrow, hm⟩ := hc k hlt
      clear hc
      subst ha
      obtain ⟨x, hx⟩ : ∃ x, rows.getD k [] = x := ⟨_, rfl⟩
      have hs := rowsE_step cols lo hi rows k (by have := HR.out.1; omega)
      rw [hx] at hrow hs
      have hxm : x.length = m := hrow.1
      have C := Lib.hid (areFrom_any B m c' x lo hi w hrow hm)
      clear hrow hx
      obtain ⟨t, ht⟩ : ∃ t, fromB lo hi x = t := ⟨_, rfl⟩
      rw [ht] at C
      have HS := Lib.hid hs; clear hs
      have HT := Lib.hid ht; clear ht
      have HXM := Lib.hid hxm; clear hxm
      have hkI : (k : Int) < (n : Int) := by omega
      by_cases h1 : m = cols
      · subst h1
        have h1b : ((m : Int) != (m : Int)) = false := bne_self_eq_false' _
        have hE : Hid (rowE m lo hi x = if t = true then 0 else 2) := by
          show rowE m lo hi x = _
          unfold rowE
          rw [if_pos HXM.out, HT.out]
        cases t
        · go_wp2_with (go_at_call 45; refine C.out.mono ?_; rintro e w' ⟨rfl, rfl⟩)
          go_ret
          exact ⟨by rw [HE.out, HS.out, hE.out]; simp, rfl⟩
        · go_wp2_with (go_at_call 45; refine C.out.mono ?_; rintro e w' ⟨rfl, rfl⟩)
          go_round
          case rel => exact ⟨k + 1, by omega, by go_num, by show _ = _; rw [HE.out, HS.out, hE.out]; simp⟩
          case measure => simp [intOf]; omega
      · have h1b : ((m : Int) != (cols : Int)) = true := by rw [bne_iff_ne]; omega
        have hE : Hid (rowE cols lo hi x = 10) := by
          show rowE cols lo hi x = _
          unfold rowE
          rw [if_neg (by rw [HXM.out]; exact h1)]
        go_wp2
        go_ret
        exact ⟨by rw [HE.out, HS.out, hE.out]; rfl, rfl⟩
    · obtain rfl : n = k := by omega
      go_wp2
      go_ret
      exact ⟨by rw [HE.out, List.drop_eq_nil_of_le (by have := HR.out.1; omega)]; rfl, rfl⟩

set_option maxRecDepth 100000 in
set_option maxHeartbeats 1000000 in
theorem checkRowsP_any (A : Option Addr) (n c : Nat) (rows : List (List Int)) (cols : Nat) (lo hi : Int) (w : World) (hr : RdG w A n rows) (hn : n ≤ 9223372036854775806) :
    Calls Tryz.prog 53 #[.slice A n c, .int .i64 cols, .int .i64 lo, .int .i64 hi] w fun e w' => e = .returned (.int .i64 (rowsE cols lo hi rows)) ∧ w = w' := by
  have HR := Lib.hid hr; clear hr
  go_enter Tryz.func53, Tryz.ntmps53
  go_wp2
  go_loop [13] (fun i => ∃ k : Nat, k ≤ n ∧ i = .int .i64 k ∧ Hid (rowsE cols lo hi rows = rowsE cols lo hi (rows.drop k))) (fun i => n - (intOf i).toNat)
  case atStart => exact ⟨0, Nat.zero_le _, rfl, rfl⟩
  case round =>
    obtain ⟨k, hk, rfl, HE⟩ := hrel
    by_cases hlt : k < n
    · obtain ⟨ad, ha, _, hc⟩ := HR.out.2 (by omega)
      obtain ⟨B, m, c', hck, hrow, hm⟩ := hc k hlt
      clear hc
      subst ha
      obtain ⟨x, hx⟩ : ∃ x, rows.getD k [] = x := ⟨_, rfl⟩
      have hs := rowsE_step cols lo hi rows k (by have := HR.out.1; omega)
      rw [hx] at hrow hs
      have hxm : x.length = m := hrow.1
      have C := Lib.hid (areFrom_any B m c' x lo hi w hrow hm)
      clear hrow hx
      obtain ⟨t, ht⟩ : ∃ t, fromB lo hi x = t := ⟨_, rfl⟩
      rw [ht] at C
      have HS := Lib.hid hs; clear hs
      have HT := Lib.hid ht; clear ht
      have HXM := Lib.hid hxm; clear hxm
      have hkI : (k : Int) < (n : Int) := by omega
      by_cases h1 : m = cols
      · subst h1
        have h1b : ((m : Int) != (m : Int)) = false := bne_self_eq_false' _
        have hE : Hid (rowE m lo hi x = if t = true then 0 else 2) := by
          show rowE m lo hi x = _
          unfold rowE
          rw [if_pos HXM.out, HT.out]
        cases t
        · go_wp2_with (go_at_call 45; refine C.out.mono ?_; rintro e w' ⟨rfl, rfl⟩)
          go_ret
          exact ⟨by rw [HE.out, HS.out, hE.out]; simp, rfl⟩
        · go_wp2_with (go_at_call 45; refine C.out.mono ?_; rintro e w' ⟨rfl, rfl⟩)
          go_round
          case rel => exact ⟨k + 1, by omega, by go_num, by show _ = _; rw [HE.out, HS.out, hE.out]; simp⟩
          case measure => simp [intOf]; omega
      · have h1b : ((m : Int) != (cols : Int)) = true := by rw [bne_iff_ne]; omega
        have hE : Hid (rowE cols lo hi x = 10) := by
          show rowE cols lo hi x = _
          unfold rowE
          rw [if_neg (by rw [HXM.out]; exact h1)]
        go_wp2
        go_ret
        exact ⟨by rw [HE.out, HS.out, hE.out]; rfl, rfl⟩
    · obtain rfl : n = k := by omega
      go_wp2
      go_ret
      exact ⟨by rw [HE.out, List.drop_eq_nil_of_le (by have := HR.out.1; omega)]; rfl, rfl⟩

end Go.Proofs.YtjjflbnopphciaaGreatDoor

namespace Go.Proofs.YtjjflbnopphciaaGreatDoor
open Go.RowKit

/-- The error of a grid of values. -/
def gridE (R C : Nat) : List (List Int) → Int
  | [] => 10
  | r :: rs => if r.length = 0 then 10 else if R < rs.length + 1 ∨ C < r.length then 8 else rowsE r.length 0 255 (r :: rs)
theorem addZ (a : Addr) : a.add 0 = a := by unfold Addr.add; simp
theorem gridE_zero {R C : Nat} {rows : List (List Int)} (h : rows.length = 0) : gridE R C rows = 10 := by
  cases rows with
  | nil => rfl
  | cons _ _ => simp at h
theorem gridE_row {R C : Nat} {rows : List (List Int)} {n m : Nat} (h : rows.length = n) (hn : 0 < n) (hm : (rows.getD 0 []).length = m) :
    gridE R C rows = if m = 0 then 10 else if R < n ∨ C < m then 8 else rowsE m 0 255 rows := by
  cases rows with
  | nil => simp at h; omega
  | cons r rs => simp at h hm; subst h hm; rfl

set_option maxRecDepth 100000 in
set_option maxHeartbeats 1000000 in
theorem checkGrid_any (A : Option Addr) (n c R C : Nat) (rows : List (List Int)) (w : World) (hr : RdG w A n rows) (hn : n ≤ 9223372036854775806) :
    Calls Tryz.prog 75 #[.slice A n c, .int .i64 R, .int .i64 C] w fun e w' => e = .returned (.int .i64 (gridE R C rows)) ∧ w = w' := by
  have C0 := Lib.hid (checkRows_any A n c rows)
  by_cases h0 : n = 0
  · subst h0
    have he := Lib.hid (gridE_zero (R := R) (C := C) hr.1)
    clear hr C0
    go_enter Tryz.func75, Tryz.ntmps75
    go_wp2
    go_ret
    exact ⟨by rw [he.out]; rfl, rfl⟩
  · obtain ⟨ad, rfl, _, hc⟩ := hr.2 (by omega)
    obtain ⟨B, m, c', hck, hrow, hm⟩ := hc 0 (by omega)
    clear hc
    have HE := Lib.hid (gridE_row (R := R) (C := C) hr.1 (by omega) hrow.1)
    have C1 := Lib.hid (C0.out m 0 255 w hr hn)
    rw [addZ] at hck
    clear hr hrow C0
    have hn1 : ((n : Int) == 0) = false := by simp; omega
    by_cases hm0 : m = 0
    · subst hm0
      have he : Hid (gridE R C rows = 10) := by show _ = _; rw [HE.out]; rfl
      go_enter Tryz.func75, Tryz.ntmps75
      go_wp2
      go_ret
      exact ⟨by rw [he.out]; rfl, rfl⟩
    · have hm1 : ((m : Int) == 0) = false := by simp; omega
      have hmp : (0 : Int) < (m : Int) := by omega
      have hnp : (0 : Int) < (n : Int) := by omega
      by_cases hR : R < n
      · have he : Hid (gridE R C rows = 8) := by show _ = _; rw [HE.out, if_neg hm0, if_pos (.inl hR)]
        have hRI : (R : Int) < (n : Int) := by omega
        go_enter Tryz.func75, Tryz.ntmps75
        go_wp2
        go_ret
        exact ⟨by rw [he.out]; rfl, rfl⟩
      · have hRI : ¬ (R : Int) < (n : Int) := by omega
        by_cases hC : C < m
        · have he : Hid (gridE R C rows = 8) := by show _ = _; rw [HE.out, if_neg hm0, if_pos (.inr hC)]
          have hCI : (C : Int) < (m : Int) := by omega
          go_enter Tryz.func75, Tryz.ntmps75
          go_wp2
          go_ret
          exact ⟨by rw [he.out]; rfl, rfl⟩
        · have he : Hid (gridE R C rows = rowsE m 0 255 rows) := by show _ = _; rw [HE.out, if_neg hm0, if_neg (by omega)]
          have hCI : ¬ (C : Int) < (m : Int) := by omega
          go_enter Tryz.func75, Tryz.ntmps75
          go_wp2_with (go_at_call 93; refine C1.out.mono ?_; rintro e w' ⟨rfl, rfl⟩)
          go_ret
          exact ⟨by rw [he.out]; rfl, rfl⟩

set_option maxRecDepth 100000 in
set_option maxHeartbeats 1000000 in
theorem checkGridS_any (A : Option Addr) (n c R C : Nat) (rows : List (List Int)) (w : World) (hr : RdG w A n rows) (hn : n ≤ 9223372036854775806) :
    Calls Tryz.prog 95 #[.slice A n c, .int .i64 R, .int .i64 C] w fun e w' => e = .returned (.int .i64 (gridE R C rows)) ∧ w = w' := by
  have C0 := Lib.hid (checkRowsS_any A n c rows)
  by_cases h0 : n = 0
  · subst h0
    have he := Lib.hid (gridE_zero (R := R) (C := C) hr.1)
    clear hr C0
    go_enter Tryz.func95, Tryz.ntmps95
    go_wp2
    go_ret
    exact ⟨by rw [he.out]; rfl, rfl⟩
  · obtain ⟨ad, rfl, _, hc⟩ := hr.2 (by omega)
    obtain ⟨B, m, c', hck, hrow, hm⟩ := hc 0 (by omega)
    clear hc
    have HE := Lib.hid (gridE_row (R := R) (C := C) hr.1 (by omega) hrow.1)
    have C1 := Lib.hid (C0.out m 0 255 w hr hn)
    rw [addZ] at hck
    clear hr hrow C0
    have hn1 : ((n : Int) == 0) = false := by simp; omega
    by_cases hm0 : m = 0
    · subst hm0
      have he : Hid (gridE R C rows = 10) := by show _ = _; rw [HE.out]; rfl
      go_enter Tryz.func95, Tryz.ntmps95
      go_wp2
      go_ret
      exact ⟨by rw [he.out]; rfl, rfl⟩
    · have hm1 : ((m : Int) == 0) = false := by simp; omega
      have hmp : (0 : Int) < (m : Int) := by omega
      have hnp : (0 : Int) < (n : Int) := by omega
      by_cases hR : R < n
      · have he : Hid (gridE R C rows = 8) := by show _ = _; rw [HE.out, if_neg hm0, if_pos (.inl hR)]
        have hRI : (R : Int) < (n : Int) := by omega
        go_enter Tryz.func95, Tryz.ntmps95
        go_wp2
        go_ret
        exact ⟨by rw [he.out]; rfl, rfl⟩
      · have hRI : ¬ (R : Int) < (n : Int) := by omega
        by_cases hC : C < m
        · have he : Hid (gridE R C rows = 8) := by show _ = _; rw [HE.out, if_neg hm0, if_pos (.inr hC)]
          have hCI : (C : Int) < (m : Int) := by omega
          go_enter Tryz.func95, Tryz.ntmps95
          go_wp2
          go_ret
          exact ⟨by rw [he.out]; rfl, rfl⟩
        · have he : Hid (gridE R C rows = rowsE m 0 255 rows) := by show _ = _; rw [HE.out, if_neg hm0, if_neg (by omega)]
          have hCI : ¬ (C : Int) < (m : Int) := by omega
          go_enter Tryz.func95, Tryz.ntmps95
          go_wp2_with (go_at_call 113; refine C1.out.mono ?_; rintro e w' ⟨rfl, rfl⟩)
          go_ret
          exact ⟨by rw [he.out]; rfl, rfl⟩

theorem checkImage_any (A : Option Addr) (n c : Nat) (rows : List (List Int)) (w : World) (hr : RdG w A n rows) (hn : n ≤ 9223372036854775806) :
    Calls Tryz.prog 44 #[.agg #[.slice A n c]] w fun e w' => e = .returned (.int .i64 (gridE 24 24 rows)) ∧ Below w.heap.size w w' := by
  have hb := (Below.refl w.heap.size w).alloc (Nat.le_refl _) (.cells #[.slice A n c] 41)
  have C := Lib.hid (checkGrid_any A n c 24 24 rows _ (hr.below hb) hn)
  clear hr hb
  go_enter Tryz.func44, Tryz.ntmps44
  go_wp2_with (go_at_call 75; refine C.out.mono ?_; rintro e w' ⟨rfl, rfl⟩)
  go_ret
  exact ⟨rfl, (Below.refl _ w).alloc (Nat.le_refl _) _⟩

theorem checkStrip_any (A : Option Addr) (n c : Nat) (rows : List (List Int)) (w : World) (hr : RdG w A n rows) (hn : n ≤ 9223372036854775806) :
    Calls Tryz.prog 78 #[.slice A n c] w fun e w' => e = .returned (.int .i64 (gridE 40 12 rows)) ∧ w = w' := by
  have C := Lib.hid (checkGridS_any A n c 40 12 rows w hr hn)
  clear hr
  go_enter Tryz.func78, Tryz.ntmps78
  go_wp2_with (go_at_call 95; refine C.out.mono ?_; rintro e w' ⟨rfl, rfl⟩)
  go_ret
  exact ⟨rfl, rfl⟩

end Go.Proofs.YtjjflbnopphciaaGreatDoor

namespace Go.Proofs.YtjjflbnopphciaaGreatDoor
open Go.RowKit

theorem lit1 (W : World) (b : Nat) (x : Int) (h : W.cell? ⟨b, 0, none⟩ = some (.int .i64 x)) : RdI W (some ⟨b, 0, none⟩) 1 [x] :=
  ⟨rfl, fun _ => ⟨_, rfl, World.block_lt_of_cell? _ _ h, fun j hj => by obtain rfl : j = 0 := by omega
                                                                        rw [addZ]; exact h⟩⟩

set_option maxRecDepth 100000 in
set_option maxHeartbeats 4000000 in
theorem hasRing_yes (ad : Addr) (n c m c' : Nat) (B : Option Addr) (cx cy r : Int) (w : World) (hck : w.cell? ad = some (.slice B m c')) (hadb : ad.block < w.heap.size) (hn : 0 < n) (hnb : n ≤ 1000000000) (hmb : m ≤ 1000000000) (hr : 0 ≤ r ∧ r ≤ 100000)
    (hb : fromB r ((m : Int) - 1 - r) [cx] = true) :
    Calls Tryz.prog 46 #[.agg #[.slice (some ad) n c], .agg #[.int .i64 cx, .int .i64 cy], .int .i64 r] w fun e w' => e = .returned (.bool (fromB r ((n : Int) - 1 - r) [cy])) ∧ Below w.heap.size w w' := by
  have HB := Lib.hid hb
  have hbel : Below w.heap.size w ((w.alloc (.cells #[.slice (some ad) n c] 41)).alloc (.cells #[.int .i64 cx, .int .i64 cy] 43)) := ((Below.refl _ w).alloc (Nat.le_refl _) _).alloc (by simp) _
  have HS0 : Hid ((fun w' : World => w'.cell? ⟨w.heap.size, 0, none⟩ = some (.slice (some ad) n c) ∧ w'.cell? ⟨w.heap.size + 1, 0, none⟩ = some (.int .i64 cx) ∧ w'.cell? ⟨w.heap.size + 1, 1, none⟩ = some (.int .i64 cy) ∧ w'.cell? ad = some (.slice B m c') ∧ Below w.heap.size w w') ((w.alloc (.cells #[.slice (some ad) n c] 41)).alloc (.cells #[.int .i64 cx, .int .i64 cy] 43)).drew) :=
    ⟨by simp [go_sem], by simp [go_sem], by simp [go_sem], (hbel.cell hadb).trans hck, hbel.drew⟩
  have HS1 : Hid (∀ (W : World) (o : Obj), (fun w' : World => w'.cell? ⟨w.heap.size, 0, none⟩ = some (.slice (some ad) n c) ∧ w'.cell? ⟨w.heap.size + 1, 0, none⟩ = some (.int .i64 cx) ∧ w'.cell? ⟨w.heap.size + 1, 1, none⟩ = some (.int .i64 cy) ∧ w'.cell? ad = some (.slice B m c') ∧ Below w.heap.size w w') W → (fun w' : World => w'.cell? ⟨w.heap.size, 0, none⟩ = some (.slice (some ad) n c) ∧ w'.cell? ⟨w.heap.size + 1, 0, none⟩ = some (.int .i64 cx) ∧ w'.cell? ⟨w.heap.size + 1, 1, none⟩ = some (.int .i64 cy) ∧ w'.cell? ad = some (.slice B m c') ∧ Below w.heap.size w w') (W.alloc o)) := fun W o h => ⟨cellA o h.1, cellA o h.2.1, cellA o h.2.2.1, cellA o h.2.2.2.1, h.2.2.2.2.alloc h.2.2.2.2.size o⟩
  clear hbel hck hb
  have hs1 : IntKind.i64.wrap ((m : Int) - 1) = (m : Int) - 1 := IntWalk.i64_in _ (by omega)
  have hs2 : IntKind.i64.wrap ((m : Int) - 1 - r) = (m : Int) - 1 - r := IntWalk.i64_in _ (by omega)
  have hs3 : IntKind.i64.wrap ((n : Int) - 1) = (n : Int) - 1 := IntWalk.i64_in _ (by omega)
  have hs4 : IntKind.i64.wrap ((n : Int) - 1 - r) = (n : Int) - 1 - r := IntWalk.i64_in _ (by omega)
  have hnI : (0 : Int) < (n : Int) := by omega
  go_enter Tryz.func46, Tryz.ntmps46
  go_wp2_with fail
  refine wp_region_held_drew (S := (fun w' : World => w'.cell? ⟨w.heap.size, 0, none⟩ = some (.slice (some ad) n c) ∧ w'.cell? ⟨w.heap.size + 1, 0, none⟩ = some (.int .i64 cx) ∧ w'.cell? ⟨w.heap.size + 1, 1, none⟩ = some (.int .i64 cy) ∧ w'.cell? ad = some (.slice B m c') ∧ Below w.heap.size w w')) (by kernel_rfl) ?_ ?_
  · first | (with_reducible assumption) | exact HS1.out _ _ hHeld | exact HS0.out
  intro hHeld
  refine wpAnyH_take (i := 0) (v := ?_) rfl (by kernel_rfl) (by kernel_rfl) (by kernel_rfl) (fun _ _ _ h => h) (Or.inl ⟨by rfl, ?_⟩) (by assumption) ?_
  rotate_left
  · intro w hSw; (try dsimp only at hSw); go_simp; (try (with_reducible rfl))
  try simp only [List.getElem_toArray, List.getElem_cons_succ, List.getElem_cons_zero, Act.put, List.setIfInBounds_toArray, List.set_cons_zero, List.set_cons_succ]
  refine wpAnyH_take (i := 1) (v := ?_) rfl (by kernel_rfl) (by kernel_rfl) (by kernel_rfl) (fun _ _ _ h => h) (Or.inl ⟨by rfl, ?_⟩) (by assumption) ?_
  rotate_left
  · intro w hSw; (try dsimp only at hSw); go_simp; (try (with_reducible rfl))
  try simp only [List.getElem_toArray, List.getElem_cons_succ, List.getElem_cons_zero, Act.put, List.setIfInBounds_toArray, List.set_cons_zero, List.set_cons_succ]
  refine wpAnyH_take (i := 2) (v := ?_) rfl (by kernel_rfl) (by kernel_rfl) (by kernel_rfl) (fun _ _ _ h => h) (Or.inl ⟨by rfl, ?_⟩) (by assumption) ?_
  rotate_left
  · intro w hSw; (try dsimp only at hSw); go_simp; (try (with_reducible rfl))
  try simp only [List.getElem_toArray, List.getElem_cons_succ, List.getElem_cons_zero, Act.put, List.setIfInBounds_toArray, List.set_cons_zero, List.set_cons_succ]
  refine wpAnyH_take (i := 3) (v := ?_) rfl (by kernel_rfl) (by kernel_rfl) (by kernel_rfl) (fun _ _ _ h => h) (Or.inl ⟨by rfl, ?_⟩) (by assumption) ?_
  rotate_left
  · intro w hSw; (try dsimp only at hSw); go_simp; (try (with_reducible rfl))
  try simp only [List.getElem_toArray, List.getElem_cons_succ, List.getElem_cons_zero, Act.put, List.setIfInBounds_toArray, List.set_cons_zero, List.set_cons_succ]
  refine wpAnyH_take (i := 4) (v := ?_) rfl (by kernel_rfl) (by kernel_rfl) (by kernel_rfl) (fun _ _ _ h => h) (Or.inl ⟨by rfl, ?_⟩) (by assumption) ?_
  rotate_left
  · intro w hSw; (try dsimp only at hSw); go_simp; (try (with_reducible rfl))
  try simp only [List.getElem_toArray, List.getElem_cons_succ, List.getElem_cons_zero, Act.put, List.setIfInBounds_toArray, List.set_cons_zero, List.set_cons_succ]
  refine wpAnyH_take (i := 5) (v := ?_) rfl (by kernel_rfl) (by kernel_rfl) (by kernel_rfl) (fun _ _ _ h => h) (Or.inl ⟨by rfl, ?_⟩) (by assumption) ?_
  rotate_left
  · intro w hSw; (try dsimp only at hSw); go_simp; (try (with_reducible rfl))
  try simp only [List.getElem_toArray, List.getElem_cons_succ, List.getElem_cons_zero, Act.put, List.setIfInBounds_toArray, List.set_cons_zero, List.set_cons_succ]
  refine wpAnyH_take (i := 6) (v := ?_) rfl (by kernel_rfl) (by kernel_rfl) (by kernel_rfl) (fun _ _ _ h => h) (Or.inl ⟨by rfl, ?_⟩) (by assumption) ?_
  rotate_left
  · intro w hSw; (try dsimp only at hSw); go_simp; (try (with_reducible rfl))
  try simp only [List.getElem_toArray, List.getElem_cons_succ, List.getElem_cons_zero, Act.put, List.setIfInBounds_toArray, List.set_cons_zero, List.set_cons_succ]
  refine wpAnyH_take (i := 7) (v := ?_) rfl (by kernel_rfl) (by kernel_rfl) (by kernel_rfl) (fun _ _ _ h => h) (Or.inl ⟨by rfl, ?_⟩) (by assumption) ?_
  rotate_left
  · intro w hSw; (try dsimp only at hSw); go_simp; (try (with_reducible rfl))
  try simp only [List.getElem_toArray, List.getElem_cons_succ, List.getElem_cons_zero, Act.put, List.setIfInBounds_toArray, List.set_cons_zero, List.set_cons_succ]
  refine wpAnyH_take (i := 8) (v := ?_) rfl (by kernel_rfl) (by kernel_rfl) (by kernel_rfl) (fun _ _ _ h => h) (Or.inl ⟨by rfl, ?_⟩) (by assumption) ?_
  rotate_left
  · intro w hSw; (try dsimp only at hSw); go_simp; (try (with_reducible rfl))
  try simp only [List.getElem_toArray, List.getElem_cons_succ, List.getElem_cons_zero, Act.put, List.setIfInBounds_toArray, List.set_cons_zero, List.set_cons_succ]
  refine wpAnyH_take (i := 9) (v := ?_) rfl (by kernel_rfl) (by kernel_rfl) (by kernel_rfl) (fun _ _ _ h => h) (Or.inl ⟨by rfl, ?_⟩) (by assumption) ?_
  rotate_left
  · intro w hSw; (try dsimp only at hSw); go_simp; (try (with_reducible rfl))
  try simp only [List.getElem_toArray, List.getElem_cons_succ, List.getElem_cons_zero, Act.put, List.setIfInBounds_toArray, List.set_cons_zero, List.set_cons_succ]
  refine wpAnyH_take (i := 10) (v := ?_) rfl (by kernel_rfl) (by kernel_rfl) (by kernel_rfl) (fun _ _ _ h => h) (Or.inl ⟨by rfl, ?_⟩) (by assumption) ?_
  rotate_left
  · intro w hSw; (try dsimp only at hSw); go_simp; (try (with_reducible rfl))
  try simp only [List.getElem_toArray, List.getElem_cons_succ, List.getElem_cons_zero, Act.put, List.setIfInBounds_toArray, List.set_cons_zero, List.set_cons_succ]
  refine wpAnyH_ready (rs := [11]) (by kernel_rfl) (by simp) ?_
  refine AllReadyH.cons rfl (fun K hK => ?_) AllReadyH.nil
  go_simp
  refine hK.out _ _ ?_ (fun hHeld => ?_)
  · clear hK K; first | (with_reducible assumption) | exact HS1.out _ _ hHeld | exact HS0.out
  clear hK K
  try simp only [List.getElem_toArray, List.getElem_cons_succ, List.getElem_cons_zero, Act.put, List.setIfInBounds_toArray, List.set_cons_zero, List.set_cons_succ]
  refine wpAnyH_ready (rs := [12]) (by kernel_rfl) (by simp) ?_
  refine AllReadyH.cons rfl (fun K hK => ?_) AllReadyH.nil
  go_simp
  go_at_call 45; refine (areFrom_any _ _ _ [cx] _ _ _ (lit1 _ _ _ (by simp [go_sem])) (by omega)).mono ?_; rintro e w' ⟨rfl, rfl⟩; rw [HB.out]
  go_wp2_with fail
  refine hK.out _ _ ?_ (fun hHeld => ?_)
  · clear hK K; first | (with_reducible assumption) | exact HS1.out _ _ hHeld | exact HS0.out
  clear hK K
  try simp only [List.getElem_toArray, List.getElem_cons_succ, List.getElem_cons_zero, Act.put, List.setIfInBounds_toArray, List.set_cons_zero, List.set_cons_succ]
  refine wpAnyH_take (i := 13) (v := ?_) rfl (by kernel_rfl) (by kernel_rfl) (by kernel_rfl) (fun _ _ _ h => h) (Or.inl ⟨by rfl, ?_⟩) (by assumption) ?_
  rotate_left
  · intro w hSw; (try dsimp only at hSw); go_simp; (try (with_reducible rfl))
  try simp only [List.getElem_toArray, List.getElem_cons_succ, List.getElem_cons_zero, Act.put, List.setIfInBounds_toArray, List.set_cons_zero, List.set_cons_succ]
  refine wpAnyH_take (i := 14) (v := ?_) rfl (by kernel_rfl) (by kernel_rfl) (by kernel_rfl) (fun _ _ _ h => h) (Or.inl ⟨by rfl, ?_⟩) (by assumption) ?_
  rotate_left
  · intro w hSw; (try dsimp only at hSw); go_simp; (try (with_reducible rfl))
  try simp only [List.getElem_toArray, List.getElem_cons_succ, List.getElem_cons_zero, Act.put, List.setIfInBounds_toArray, List.set_cons_zero, List.set_cons_succ]
  refine wpAnyH_take (i := 15) (v := ?_) rfl (by kernel_rfl) (by kernel_rfl) (by kernel_rfl) (fun _ _ _ h => h) (Or.inl ⟨by rfl, ?_⟩) (by assumption) ?_
  rotate_left
  · intro w hSw; (try dsimp only at hSw); go_simp; (try (with_reducible rfl))
  try simp only [List.getElem_toArray, List.getElem_cons_succ, List.getElem_cons_zero, Act.put, List.setIfInBounds_toArray, List.set_cons_zero, List.set_cons_succ]
  refine wpAnyH_take (i := 16) (v := ?_) rfl (by kernel_rfl) (by kernel_rfl) (by kernel_rfl) (fun _ _ _ h => h) (Or.inl ⟨by rfl, ?_⟩) (by assumption) ?_
  rotate_left
  · intro w hSw; (try dsimp only at hSw); go_simp; (try (with_reducible rfl))
  try simp only [List.getElem_toArray, List.getElem_cons_succ, List.getElem_cons_zero, Act.put, List.setIfInBounds_toArray, List.set_cons_zero, List.set_cons_succ]
  refine wpAnyH_take (i := 17) (v := ?_) rfl (by kernel_rfl) (by kernel_rfl) (by kernel_rfl) (fun _ _ _ h => h) (Or.inl ⟨by rfl, ?_⟩) (by assumption) ?_
  rotate_left
  · intro w hSw; (try dsimp only at hSw); go_simp; (try (with_reducible rfl))
  try simp only [List.getElem_toArray, List.getElem_cons_succ, List.getElem_cons_zero, Act.put, List.setIfInBounds_toArray, List.set_cons_zero, List.set_cons_succ]
  refine wpAnyH_take (i := 18) (v := ?_) rfl (by kernel_rfl) (by kernel_rfl) (by kernel_rfl) (fun _ _ _ h => h) (Or.inl ⟨by rfl, ?_⟩) (by assumption) ?_
  rotate_left
  · intro w hSw; (try dsimp only at hSw); go_simp; (try (with_reducible rfl))
  try simp only [List.getElem_toArray, List.getElem_cons_succ, List.getElem_cons_zero, Act.put, List.setIfInBounds_toArray, List.set_cons_zero, List.set_cons_succ]
  refine wpAnyH_take (i := 19) (v := ?_) rfl (by kernel_rfl) (by kernel_rfl) (by kernel_rfl) (fun _ _ _ h => h) (Or.inl ⟨by rfl, ?_⟩) (by assumption) ?_
  rotate_left
  · intro w hSw; (try dsimp only at hSw); go_simp; (try (with_reducible rfl))
  try simp only [List.getElem_toArray, List.getElem_cons_succ, List.getElem_cons_zero, Act.put, List.setIfInBounds_toArray, List.set_cons_zero, List.set_cons_succ]
  refine wpAnyH_take (i := 20) (v := ?_) rfl (by kernel_rfl) (by kernel_rfl) (by kernel_rfl) (fun _ _ _ h => h) (Or.inl ⟨by rfl, ?_⟩) (by assumption) ?_
  rotate_left
  · intro w hSw; (try dsimp only at hSw); go_simp; (try (with_reducible rfl))
  try simp only [List.getElem_toArray, List.getElem_cons_succ, List.getElem_cons_zero, Act.put, List.setIfInBounds_toArray, List.set_cons_zero, List.set_cons_succ]
  refine wpAnyH_take (i := 21) (v := ?_) rfl (by kernel_rfl) (by kernel_rfl) (by kernel_rfl) (fun _ _ _ h => h) (Or.inl ⟨by rfl, ?_⟩) (by assumption) ?_
  rotate_left
  · intro w hSw; (try dsimp only at hSw); go_simp; (try (with_reducible rfl))
  try simp only [List.getElem_toArray, List.getElem_cons_succ, List.getElem_cons_zero, Act.put, List.setIfInBounds_toArray, List.set_cons_zero, List.set_cons_succ]
  refine wpAnyH_take (i := 22) (v := ?_) rfl (by kernel_rfl) (by kernel_rfl) (by kernel_rfl) (fun _ _ _ h => h) (Or.inl ⟨by rfl, ?_⟩) (by assumption) ?_
  rotate_left
  · intro w hSw; (try dsimp only at hSw); go_simp; (try (with_reducible rfl))
  try simp only [List.getElem_toArray, List.getElem_cons_succ, List.getElem_cons_zero, Act.put, List.setIfInBounds_toArray, List.set_cons_zero, List.set_cons_succ]
  refine wpAnyH_ready (rs := [23]) (by kernel_rfl) (by simp) ?_
  refine AllReadyH.cons rfl (fun K hK => ?_) AllReadyH.nil
  go_simp
  refine hK.out _ _ ?_ (fun hHeld => ?_)
  · clear hK K; first | (with_reducible assumption) | exact HS1.out _ _ hHeld | exact HS0.out
  clear hK K
  try simp only [List.getElem_toArray, List.getElem_cons_succ, List.getElem_cons_zero, Act.put, List.setIfInBounds_toArray, List.set_cons_zero, List.set_cons_succ]
  refine wpAnyH_ready (rs := [24]) (by kernel_rfl) (by simp) ?_
  refine AllReadyH.cons rfl (fun K hK => ?_) AllReadyH.nil
  go_simp
  go_at_call 45; refine (areFrom_any _ _ _ [cy] _ _ _ (lit1 _ _ _ (by simp [go_sem])) (by omega)).mono ?_; rintro e w' ⟨rfl, rfl⟩
  go_wp2_with fail
  refine hK.out _ _ ?_ (fun hHeld => ?_)
  · clear hK K; first | (with_reducible assumption) | exact HS1.out _ _ hHeld | exact HS0.out
  clear hK K
  try simp only [List.getElem_toArray, List.getElem_cons_succ, List.getElem_cons_zero, Act.put, List.setIfInBounds_toArray, List.set_cons_zero, List.set_cons_succ]
  refine wpAnyH_take (i := 25) (v := ?_) rfl (by kernel_rfl) (by kernel_rfl) (by kernel_rfl) (fun _ _ _ h => h) (Or.inl ⟨by rfl, ?_⟩) (by assumption) ?_
  rotate_left
  · intro w hSw; (try dsimp only at hSw); go_simp; (try (with_reducible rfl))
  try simp only [List.getElem_toArray, List.getElem_cons_succ, List.getElem_cons_zero, Act.put, List.setIfInBounds_toArray, List.set_cons_zero, List.set_cons_succ]
  refine wpAnyH_take (i := 26) (v := ?_) rfl (by kernel_rfl) (by kernel_rfl) (by kernel_rfl) (fun _ _ _ h => h) (Or.inl ⟨by rfl, ?_⟩) (by assumption) ?_
  rotate_left
  · intro w hSw; (try dsimp only at hSw); go_simp; (try (with_reducible rfl))
  try simp only [List.getElem_toArray, List.getElem_cons_succ, List.getElem_cons_zero, Act.put, List.setIfInBounds_toArray, List.set_cons_zero, List.set_cons_succ]
  refine wpAnyH_done (by kernel_rfl) ?_ _
  go_wp2
  go_ret
  exact ⟨rfl, hHeld.2.2.2.2⟩

set_option maxRecDepth 100000 in
set_option maxHeartbeats 4000000 in
theorem hasRing_no (ad : Addr) (n c m c' : Nat) (B : Option Addr) (cx cy r : Int) (w : World) (hck : w.cell? ad = some (.slice B m c')) (hadb : ad.block < w.heap.size) (hn : 0 < n) (hnb : n ≤ 1000000000) (hmb : m ≤ 1000000000) (hr : 0 ≤ r ∧ r ≤ 100000)
    (hb : fromB r ((m : Int) - 1 - r) [cx] = false) :
    Calls Tryz.prog 46 #[.agg #[.slice (some ad) n c], .agg #[.int .i64 cx, .int .i64 cy], .int .i64 r] w fun e w' => e = .returned (.bool (false)) ∧ Below w.heap.size w w' := by
  have HB := Lib.hid hb
  have hbel : Below w.heap.size w ((w.alloc (.cells #[.slice (some ad) n c] 41)).alloc (.cells #[.int .i64 cx, .int .i64 cy] 43)) := ((Below.refl _ w).alloc (Nat.le_refl _) _).alloc (by simp) _
  have HS0 : Hid ((fun w' : World => w'.cell? ⟨w.heap.size, 0, none⟩ = some (.slice (some ad) n c) ∧ w'.cell? ⟨w.heap.size + 1, 0, none⟩ = some (.int .i64 cx) ∧ w'.cell? ⟨w.heap.size + 1, 1, none⟩ = some (.int .i64 cy) ∧ w'.cell? ad = some (.slice B m c') ∧ Below w.heap.size w w') ((w.alloc (.cells #[.slice (some ad) n c] 41)).alloc (.cells #[.int .i64 cx, .int .i64 cy] 43)).drew) :=
    ⟨by simp [go_sem], by simp [go_sem], by simp [go_sem], (hbel.cell hadb).trans hck, hbel.drew⟩
  have HS1 : Hid (∀ (W : World) (o : Obj), (fun w' : World => w'.cell? ⟨w.heap.size, 0, none⟩ = some (.slice (some ad) n c) ∧ w'.cell? ⟨w.heap.size + 1, 0, none⟩ = some (.int .i64 cx) ∧ w'.cell? ⟨w.heap.size + 1, 1, none⟩ = some (.int .i64 cy) ∧ w'.cell? ad = some (.slice B m c') ∧ Below w.heap.size w w') W → (fun w' : World => w'.cell? ⟨w.heap.size, 0, none⟩ = some (.slice (some ad) n c) ∧ w'.cell? ⟨w.heap.size + 1, 0, none⟩ = some (.int .i64 cx) ∧ w'.cell? ⟨w.heap.size + 1, 1, none⟩ = some (.int .i64 cy) ∧ w'.cell? ad = some (.slice B m c') ∧ Below w.heap.size w w') (W.alloc o)) := fun W o h => ⟨cellA o h.1, cellA o h.2.1, cellA o h.2.2.1, cellA o h.2.2.2.1, h.2.2.2.2.alloc h.2.2.2.2.size o⟩
  clear hbel hck hb
  have hs1 : IntKind.i64.wrap ((m : Int) - 1) = (m : Int) - 1 := IntWalk.i64_in _ (by omega)
  have hs2 : IntKind.i64.wrap ((m : Int) - 1 - r) = (m : Int) - 1 - r := IntWalk.i64_in _ (by omega)
  have hs3 : IntKind.i64.wrap ((n : Int) - 1) = (n : Int) - 1 := IntWalk.i64_in _ (by omega)
  have hs4 : IntKind.i64.wrap ((n : Int) - 1 - r) = (n : Int) - 1 - r := IntWalk.i64_in _ (by omega)
  have hnI : (0 : Int) < (n : Int) := by omega
  go_enter Tryz.func46, Tryz.ntmps46
  go_wp2_with fail
  refine wp_region_held_drew (S := (fun w' : World => w'.cell? ⟨w.heap.size, 0, none⟩ = some (.slice (some ad) n c) ∧ w'.cell? ⟨w.heap.size + 1, 0, none⟩ = some (.int .i64 cx) ∧ w'.cell? ⟨w.heap.size + 1, 1, none⟩ = some (.int .i64 cy) ∧ w'.cell? ad = some (.slice B m c') ∧ Below w.heap.size w w')) (by kernel_rfl) ?_ ?_
  · first | (with_reducible assumption) | exact HS1.out _ _ hHeld | exact HS0.out
  intro hHeld
  refine wpAnyH_take (i := 0) (v := ?_) rfl (by kernel_rfl) (by kernel_rfl) (by kernel_rfl) (fun _ _ _ h => h) (Or.inl ⟨by rfl, ?_⟩) (by assumption) ?_
  rotate_left
  · intro w hSw; (try dsimp only at hSw); go_simp; (try (with_reducible rfl))
  try simp only [List.getElem_toArray, List.getElem_cons_succ, List.getElem_cons_zero, Act.put, List.setIfInBounds_toArray, List.set_cons_zero, List.set_cons_succ]
  refine wpAnyH_take (i := 1) (v := ?_) rfl (by kernel_rfl) (by kernel_rfl) (by kernel_rfl) (fun _ _ _ h => h) (Or.inl ⟨by rfl, ?_⟩) (by assumption) ?_
  rotate_left
  · intro w hSw; (try dsimp only at hSw); go_simp; (try (with_reducible rfl))
  try simp only [List.getElem_toArray, List.getElem_cons_succ, List.getElem_cons_zero, Act.put, List.setIfInBounds_toArray, List.set_cons_zero, List.set_cons_succ]
  refine wpAnyH_take (i := 2) (v := ?_) rfl (by kernel_rfl) (by kernel_rfl) (by kernel_rfl) (fun _ _ _ h => h) (Or.inl ⟨by rfl, ?_⟩) (by assumption) ?_
  rotate_left
  · intro w hSw; (try dsimp only at hSw); go_simp; (try (with_reducible rfl))
  try simp only [List.getElem_toArray, List.getElem_cons_succ, List.getElem_cons_zero, Act.put, List.setIfInBounds_toArray, List.set_cons_zero, List.set_cons_succ]
  refine wpAnyH_take (i := 3) (v := ?_) rfl (by kernel_rfl) (by kernel_rfl) (by kernel_rfl) (fun _ _ _ h => h) (Or.inl ⟨by rfl, ?_⟩) (by assumption) ?_
  rotate_left
  · intro w hSw; (try dsimp only at hSw); go_simp; (try (with_reducible rfl))
  try simp only [List.getElem_toArray, List.getElem_cons_succ, List.getElem_cons_zero, Act.put, List.setIfInBounds_toArray, List.set_cons_zero, List.set_cons_succ]
  refine wpAnyH_take (i := 4) (v := ?_) rfl (by kernel_rfl) (by kernel_rfl) (by kernel_rfl) (fun _ _ _ h => h) (Or.inl ⟨by rfl, ?_⟩) (by assumption) ?_
  rotate_left
  · intro w hSw; (try dsimp only at hSw); go_simp; (try (with_reducible rfl))
  try simp only [List.getElem_toArray, List.getElem_cons_succ, List.getElem_cons_zero, Act.put, List.setIfInBounds_toArray, List.set_cons_zero, List.set_cons_succ]
  refine wpAnyH_take (i := 5) (v := ?_) rfl (by kernel_rfl) (by kernel_rfl) (by kernel_rfl) (fun _ _ _ h => h) (Or.inl ⟨by rfl, ?_⟩) (by assumption) ?_
  rotate_left
  · intro w hSw; (try dsimp only at hSw); go_simp; (try (with_reducible rfl))
  try simp only [List.getElem_toArray, List.getElem_cons_succ, List.getElem_cons_zero, Act.put, List.setIfInBounds_toArray, List.set_cons_zero, List.set_cons_succ]
  refine wpAnyH_take (i := 6) (v := ?_) rfl (by kernel_rfl) (by kernel_rfl) (by kernel_rfl) (fun _ _ _ h => h) (Or.inl ⟨by rfl, ?_⟩) (by assumption) ?_
  rotate_left
  · intro w hSw; (try dsimp only at hSw); go_simp; (try (with_reducible rfl))
  try simp only [List.getElem_toArray, List.getElem_cons_succ, List.getElem_cons_zero, Act.put, List.setIfInBounds_toArray, List.set_cons_zero, List.set_cons_succ]
  refine wpAnyH_take (i := 7) (v := ?_) rfl (by kernel_rfl) (by kernel_rfl) (by kernel_rfl) (fun _ _ _ h => h) (Or.inl ⟨by rfl, ?_⟩) (by assumption) ?_
  rotate_left
  · intro w hSw; (try dsimp only at hSw); go_simp; (try (with_reducible rfl))
  try simp only [List.getElem_toArray, List.getElem_cons_succ, List.getElem_cons_zero, Act.put, List.setIfInBounds_toArray, List.set_cons_zero, List.set_cons_succ]
  refine wpAnyH_take (i := 8) (v := ?_) rfl (by kernel_rfl) (by kernel_rfl) (by kernel_rfl) (fun _ _ _ h => h) (Or.inl ⟨by rfl, ?_⟩) (by assumption) ?_
  rotate_left
  · intro w hSw; (try dsimp only at hSw); go_simp; (try (with_reducible rfl))
  try simp only [List.getElem_toArray, List.getElem_cons_succ, List.getElem_cons_zero, Act.put, List.setIfInBounds_toArray, List.set_cons_zero, List.set_cons_succ]
  refine wpAnyH_take (i := 9) (v := ?_) rfl (by kernel_rfl) (by kernel_rfl) (by kernel_rfl) (fun _ _ _ h => h) (Or.inl ⟨by rfl, ?_⟩) (by assumption) ?_
  rotate_left
  · intro w hSw; (try dsimp only at hSw); go_simp; (try (with_reducible rfl))
  try simp only [List.getElem_toArray, List.getElem_cons_succ, List.getElem_cons_zero, Act.put, List.setIfInBounds_toArray, List.set_cons_zero, List.set_cons_succ]
  refine wpAnyH_take (i := 10) (v := ?_) rfl (by kernel_rfl) (by kernel_rfl) (by kernel_rfl) (fun _ _ _ h => h) (Or.inl ⟨by rfl, ?_⟩) (by assumption) ?_
  rotate_left
  · intro w hSw; (try dsimp only at hSw); go_simp; (try (with_reducible rfl))
  try simp only [List.getElem_toArray, List.getElem_cons_succ, List.getElem_cons_zero, Act.put, List.setIfInBounds_toArray, List.set_cons_zero, List.set_cons_succ]
  refine wpAnyH_ready (rs := [11]) (by kernel_rfl) (by simp) ?_
  refine AllReadyH.cons rfl (fun K hK => ?_) AllReadyH.nil
  go_simp
  refine hK.out _ _ ?_ (fun hHeld => ?_)
  · clear hK K; first | (with_reducible assumption) | exact HS1.out _ _ hHeld | exact HS0.out
  clear hK K
  try simp only [List.getElem_toArray, List.getElem_cons_succ, List.getElem_cons_zero, Act.put, List.setIfInBounds_toArray, List.set_cons_zero, List.set_cons_succ]
  refine wpAnyH_ready (rs := [12]) (by kernel_rfl) (by simp) ?_
  refine AllReadyH.cons rfl (fun K hK => ?_) AllReadyH.nil
  go_simp
  go_at_call 45; refine (areFrom_any _ _ _ [cx] _ _ _ (lit1 _ _ _ (by simp [go_sem])) (by omega)).mono ?_; rintro e w' ⟨rfl, rfl⟩; rw [HB.out]
  go_wp2_with fail
  refine hK.out _ _ ?_ (fun hHeld => ?_)
  · clear hK K; first | (with_reducible assumption) | exact HS1.out _ _ hHeld | exact HS0.out
  clear hK K
  try simp only [List.getElem_toArray, List.getElem_cons_succ, List.getElem_cons_zero, Act.put, List.setIfInBounds_toArray, List.set_cons_zero, List.set_cons_succ]
  refine wpAnyH_take (i := 13) (v := ?_) rfl (by kernel_rfl) (by kernel_rfl) (by kernel_rfl) (fun _ _ _ h => h) (Or.inl ⟨by rfl, ?_⟩) (by assumption) ?_
  rotate_left
  · intro w hSw; (try dsimp only at hSw); go_simp; (try (with_reducible rfl))
  try simp only [List.getElem_toArray, List.getElem_cons_succ, List.getElem_cons_zero, Act.put, List.setIfInBounds_toArray, List.set_cons_zero, List.set_cons_succ]
  refine wpAnyH_take (i := 14) (v := undef) rfl (by kernel_rfl) (by kernel_rfl) (by kernel_rfl) (fun _ _ _ h => h) (Or.inr ⟨by rfl, rfl⟩) (by assumption) ?_
  try simp only [List.getElem_toArray, List.getElem_cons_succ, List.getElem_cons_zero, Act.put, List.setIfInBounds_toArray, List.set_cons_zero, List.set_cons_succ]
  refine wpAnyH_take (i := 15) (v := undef) rfl (by kernel_rfl) (by kernel_rfl) (by kernel_rfl) (fun _ _ _ h => h) (Or.inr ⟨by rfl, rfl⟩) (by assumption) ?_
  try simp only [List.getElem_toArray, List.getElem_cons_succ, List.getElem_cons_zero, Act.put, List.setIfInBounds_toArray, List.set_cons_zero, List.set_cons_succ]
  refine wpAnyH_take (i := 16) (v := undef) rfl (by kernel_rfl) (by kernel_rfl) (by kernel_rfl) (fun _ _ _ h => h) (Or.inr ⟨by rfl, rfl⟩) (by assumption) ?_
  try simp only [List.getElem_toArray, List.getElem_cons_succ, List.getElem_cons_zero, Act.put, List.setIfInBounds_toArray, List.set_cons_zero, List.set_cons_succ]
  refine wpAnyH_take (i := 17) (v := undef) rfl (by kernel_rfl) (by kernel_rfl) (by kernel_rfl) (fun _ _ _ h => h) (Or.inr ⟨by rfl, rfl⟩) (by assumption) ?_
  try simp only [List.getElem_toArray, List.getElem_cons_succ, List.getElem_cons_zero, Act.put, List.setIfInBounds_toArray, List.set_cons_zero, List.set_cons_succ]
  refine wpAnyH_take (i := 18) (v := undef) rfl (by kernel_rfl) (by kernel_rfl) (by kernel_rfl) (fun _ _ _ h => h) (Or.inr ⟨by rfl, rfl⟩) (by assumption) ?_
  try simp only [List.getElem_toArray, List.getElem_cons_succ, List.getElem_cons_zero, Act.put, List.setIfInBounds_toArray, List.set_cons_zero, List.set_cons_succ]
  refine wpAnyH_take (i := 19) (v := undef) rfl (by kernel_rfl) (by kernel_rfl) (by kernel_rfl) (fun _ _ _ h => h) (Or.inr ⟨by rfl, rfl⟩) (by assumption) ?_
  try simp only [List.getElem_toArray, List.getElem_cons_succ, List.getElem_cons_zero, Act.put, List.setIfInBounds_toArray, List.set_cons_zero, List.set_cons_succ]
  refine wpAnyH_take (i := 20) (v := undef) rfl (by kernel_rfl) (by kernel_rfl) (by kernel_rfl) (fun _ _ _ h => h) (Or.inr ⟨by rfl, rfl⟩) (by assumption) ?_
  try simp only [List.getElem_toArray, List.getElem_cons_succ, List.getElem_cons_zero, Act.put, List.setIfInBounds_toArray, List.set_cons_zero, List.set_cons_succ]
  refine wpAnyH_take (i := 21) (v := undef) rfl (by kernel_rfl) (by kernel_rfl) (by kernel_rfl) (fun _ _ _ h => h) (Or.inr ⟨by rfl, rfl⟩) (by assumption) ?_
  try simp only [List.getElem_toArray, List.getElem_cons_succ, List.getElem_cons_zero, Act.put, List.setIfInBounds_toArray, List.set_cons_zero, List.set_cons_succ]
  refine wpAnyH_take (i := 22) (v := undef) rfl (by kernel_rfl) (by kernel_rfl) (by kernel_rfl) (fun _ _ _ h => h) (Or.inr ⟨by rfl, rfl⟩) (by assumption) ?_
  try simp only [List.getElem_toArray, List.getElem_cons_succ, List.getElem_cons_zero, Act.put, List.setIfInBounds_toArray, List.set_cons_zero, List.set_cons_succ]
  refine wpAnyH_take (i := 23) (v := undef) rfl (by kernel_rfl) (by kernel_rfl) (by kernel_rfl) (fun _ _ _ h => h) (Or.inr ⟨by rfl, rfl⟩) (by assumption) ?_
  try simp only [List.getElem_toArray, List.getElem_cons_succ, List.getElem_cons_zero, Act.put, List.setIfInBounds_toArray, List.set_cons_zero, List.set_cons_succ]
  refine wpAnyH_take (i := 24) (v := undef) rfl (by kernel_rfl) (by kernel_rfl) (by kernel_rfl) (fun _ _ _ h => h) (Or.inr ⟨by rfl, rfl⟩) (by assumption) ?_
  try simp only [List.getElem_toArray, List.getElem_cons_succ, List.getElem_cons_zero, Act.put, List.setIfInBounds_toArray, List.set_cons_zero, List.set_cons_succ]
  refine wpAnyH_take (i := 25) (v := ?_) rfl (by kernel_rfl) (by kernel_rfl) (by kernel_rfl) (fun _ _ _ h => h) (Or.inl ⟨by rfl, ?_⟩) (by assumption) ?_
  rotate_left
  · intro w hSw; (try dsimp only at hSw); go_simp; (try (with_reducible rfl))
  try simp only [List.getElem_toArray, List.getElem_cons_succ, List.getElem_cons_zero, Act.put, List.setIfInBounds_toArray, List.set_cons_zero, List.set_cons_succ]
  refine wpAnyH_take (i := 26) (v := ?_) rfl (by kernel_rfl) (by kernel_rfl) (by kernel_rfl) (fun _ _ _ h => h) (Or.inl ⟨by rfl, ?_⟩) (by assumption) ?_
  rotate_left
  · intro w hSw; (try dsimp only at hSw); go_simp; (try (with_reducible rfl))
  try simp only [List.getElem_toArray, List.getElem_cons_succ, List.getElem_cons_zero, Act.put, List.setIfInBounds_toArray, List.set_cons_zero, List.set_cons_succ]
  refine wpAnyH_done (by kernel_rfl) ?_ _
  go_wp2
  go_ret
  exact ⟨rfl, hHeld.2.2.2.2⟩

end Go.Proofs.YtjjflbnopphciaaGreatDoor

