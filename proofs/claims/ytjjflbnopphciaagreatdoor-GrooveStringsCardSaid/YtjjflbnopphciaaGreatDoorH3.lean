import Derived.Test.YtjjflbnopphciaaGreatDoorH2
import Derived.Test.YtjjflbnopphciaaGreatDoorR1
namespace Go.Proofs.YtjjflbnopphciaaGreatDoor
open Go.RowKit Go.Shelf
attribute [local go_sem] Oper.semAt_some

/-- The slice '.slice A n c' reads as the numbers xs. -/
def RdI (w : World) (A : Option Addr) (n : Nat) (xs : List Int) : Prop :=
  xs.length = n ∧ (0 < n → ∃ ad, A = some ad ∧ ad.block < w.heap.size ∧ ∀ j, j < n → w.cell? (ad.add j) = some (.int .i64 (xs.getD j 0)))
theorem addBlock (a : Addr) (n : Nat) : (a.add n).block = a.block := by unfold Addr.add; split <;> rfl
theorem RdI.below {w w' : World} {A : Option Addr} {n : Nat} {xs : List Int} (h : RdI w A n xs) (hb : Below w.heap.size w w') : RdI w' A n xs := by
  refine ⟨h.1, fun hn => ?_⟩
  obtain ⟨ad, e, hlt, hc⟩ := h.2 hn
  exact ⟨ad, e, Nat.lt_of_lt_of_le hlt hb.size, fun j hj => (hb.cell (by rw [addBlock]; exact hlt)).trans (hc j hj)⟩

theorem cellA {W : World} {a : Addr} {v : Value} (o : Obj) (h : W.cell? a = some v) : (W.alloc o).cell? a = some v := cell_kept h (World.grownBy_alloc W o none) (fun r e => by cases e)
theorem frozA {W : World} {a : Addr} {v : Value} (o : Obj) (h : W.cell? a = some v) (hf : W.frozen? a = false) : (W.alloc o).frozen? a = false := (frozen_kept h (World.grownBy_alloc W o none) (fun r e => by cases e)).trans hf

set_option maxRecDepth 100000 in
set_option maxHeartbeats 4000000 in
theorem cheapest_any (sv : Value) (b : Int) (cols c : Nat) (A : Option Addr) (cap : Nat) (costs : List Int) (w : World) (hcol : c < cols) (hcb : cols ≤ 1000000) (hr : RdI w A cols costs)
    (hb : 0 ≤ b ∧ b ≤ 1000000) (hcs : ∀ x ∈ costs, 0 ≤ x ∧ x ≤ 1000000000000000000) :
    Calls Tryz.prog 82 #[.agg #[sv, .int .i64 b, .int .i64 cols], .slice A cols cap, .int .i64 c] w fun e w' =>
      e = .returned (.tuple #[.int .i64 (chp costs b c cols).1, .int .i64 (chp costs b c cols).2]) ∧ Below w.heap.size w w' := by
  have HR := Lib.hid hr
  have HC := Lib.hid hcs
  have HB0 := Lib.hid hb
  clear hr hcs hb
  refine (callsIn_wide (n := 6)).1 ?_
  refine callsIn_of_wp_marks Tryz.func82 rfl trivial ?_ rfl
  simp only [Tryz.ntmps82, List.size_toArray, List.length_cons, List.length_nil, Nat.reduceAdd, Nat.reduceSub, Array.replicate_succ, Array.replicate_zero, List.push_toArray, List.append_toArray, List.nil_append, List.cons_append]
  gi_wp2_with (refine ⟨trivial, ?_⟩; gi_at_call 96; refine (neighbours_in Fence.wide _ trivial rfl _ _ _ _ _).mono ?_; rintro e w' ⟨rfl, rfl⟩)
  obtain ⟨W0, hW0⟩ : ∃ W0, (((((((w.alloc (.cells #[sv, .int .i64 b, .int .i64 cols] 104)).alloc (.cells #[.slice A cols cap] 22)).alloc (.cells #[.int .i64 c] 3)).alloc (.cells #[.int .i64 0] 3)).alloc (.cells #[.int .i64 9223372036854775807] 3)).alloc (.cells #[sv, .int .i64 b, .int .i64 cols] 104)).alloc (.cells #[.int .i64 c] 3)) = W0 := ⟨_, rfl⟩
  rw [hW0]
  have hsz : W0.heap.size = w.heap.size + 7 := by rw [← hW0]; (simp [go_sem]; done)
  have c00 : W0.cell? ⟨w.heap.size, 0, none⟩ = some sv := by rw [← hW0]; (simp [go_sem]; done)
  have c01 : W0.cell? ⟨w.heap.size, 1, none⟩ = some (.int .i64 b) := by rw [← hW0]; (simp [go_sem]; done)
  have c02 : W0.cell? ⟨w.heap.size, 2, none⟩ = some (.int .i64 cols) := by rw [← hW0]; (simp [go_sem]; done)
  have c1 : W0.cell? ⟨w.heap.size + 1, 0, none⟩ = some (.slice A cols cap) := by rw [← hW0]; (simp [go_sem]; done)
  have c2 : W0.cell? ⟨w.heap.size + 1 + 1, 0, none⟩ = some (.int .i64 c) := by rw [← hW0]; (simp [go_sem]; done)
  have c3 : W0.cell? ⟨w.heap.size + 1 + 1 + 1, 0, none⟩ = some (.int .i64 0) := by rw [← hW0]; (simp [go_sem]; done)
  have c4 : W0.cell? ⟨w.heap.size + 1 + 1 + 1 + 1, 0, none⟩ = some (.int .i64 9223372036854775807) := by rw [← hW0]; (simp [go_sem]; done)
  have f3 : W0.frozen? ⟨w.heap.size + 1 + 1 + 1, 0, none⟩ = false := by rw [← hW0]; (simp [go_sem]; done)
  have f4 : W0.frozen? ⟨w.heap.size + 1 + 1 + 1 + 1, 0, none⟩ = false := by rw [← hW0]; (simp [go_sem]; done)
  have c5 : W0.cell? ⟨w.heap.size + 1 + 1 + 1 + 1 + 1, 2, none⟩ = some (.int .i64 cols) := by rw [← hW0]; (simp [go_sem]; done)
  have c6 : W0.cell? ⟨w.heap.size + 1 + 1 + 1 + 1 + 1 + 1, 0, none⟩ = some (.int .i64 c) := by rw [← hW0]; (simp [go_sem]; done)
  have hbel : Below w.heap.size w W0 := by rw [← hW0]; exact (((((((Below.refl _ w).alloc (by simp) _).alloc (by simp) _).alloc (by simp; omega) _).alloc (by simp; omega) _).alloc (by simp; omega) _).alloc (by simp; omega) _).alloc (by simp; omega) _
  refine wpIn_rangeFunc_ownF rfl (by omega) (gf := 114) (lb := #[.pointer (some ⟨w.heap.size + 1 + 1 + 1 + 1 + 1 + 1, 0, none⟩), .pointer (some ⟨w.heap.size + 1 + 1 + 1 + 1 + 1, 0, none⟩)]) rfl trivial (enters_of Tryz.func114 (by kernel_rfl) rfl)
    (nbrs_stops Fence.wide _ trivial rfl (by omega) (w.heap.size + 1 + 1 + 1 + 1 + 1 + 1) (w.heap.size + 1 + 1 + 1 + 1 + 1) c cols hcol hcb W0 (by omega) (by omega) c6 c5) (fun h k => h.trans k) (fun W l o o' hl _ _ _ => Kp2.putObj W l o' (by omega) (by omega)) (Below.refl _ _) (fun _ => rfl)
    (fun pre W => (W.cell? ⟨w.heap.size, 0, none⟩ = some sv ∧ W.cell? ⟨w.heap.size, 1, none⟩ = some (.int .i64 b) ∧ W.cell? ⟨w.heap.size, 2, none⟩ = some (.int .i64 cols) ∧ W.cell? ⟨w.heap.size + 1, 0, none⟩ = some (.slice A cols cap) ∧ W.cell? ⟨w.heap.size + 1 + 1, 0, none⟩ = some (.int .i64 c) ∧ W.cell? ⟨w.heap.size + 1 + 1 + 1, 0, none⟩ = some (.int .i64 (chFrom costs b c (pre.map (·.1))).1) ∧ W.cell? ⟨w.heap.size + 1 + 1 + 1 + 1, 0, none⟩ = some (.int .i64 (chFrom costs b c (pre.map (·.1))).2) ∧ W.frozen? ⟨w.heap.size + 1 + 1 + 1, 0, none⟩ = false ∧ W.frozen? ⟨w.heap.size + 1 + 1 + 1 + 1, 0, none⟩ = false) ∧ (Below w.heap.size w W ∧ w.heap.size + 7 ≤ W.heap.size))
    (fun _ _ _ => False)
    (OwnFrom.and (Own.from (fun s X Y row hs hg hr => ⟨cell_kept hs.1 hg hr, cell_kept hs.2.1 hg hr, cell_kept hs.2.2.1 hg hr, cell_kept hs.2.2.2.1 hg hr, cell_kept hs.2.2.2.2.1 hg hr, cell_kept hs.2.2.2.2.2.1 hg hr, cell_kept hs.2.2.2.2.2.2.1 hg hr, (frozen_kept hs.2.2.2.2.2.1 hg hr).trans hs.2.2.2.2.2.2.2.1, (frozen_kept hs.2.2.2.2.2.2.1 hg hr).trans hs.2.2.2.2.2.2.2.2⟩) _) (OwnFrom.and (ownFrom_below (Nat.le_refl _) (by omega)) (fun s X Y row hs hg hr => Nat.le_trans hs hg.size)))
    (fun _ _ _ _ _ hs _ _ => hs)
    ⟨⟨c00, c01, c02, c1, c2, c3, c4, f3, f4⟩, hbel, by omega⟩
    (fun x => { tmps := #[.agg #[sv, .int .i64 b, .int .i64 cols], .slice A cols cap, .int .i64 c, .pointer (some ⟨w.heap.size, 0, none⟩), .pointer (some ⟨w.heap.size + 1, 0, none⟩), .pointer (some ⟨w.heap.size + 1 + 1, 0, none⟩), .pointer (some ⟨w.heap.size + 1 + 1 + 1, 0, none⟩), .pointer (some ⟨w.heap.size + 1 + 1 + 1 + 1, 0, none⟩), .int .i64 x.1, undef, .agg #[sv, .int .i64 b, .int .i64 cols], .int .i64 c, .func (.func 114) #[] #[.pointer (some ⟨w.heap.size + 1 + 1 + 1 + 1 + 1 + 1, 0, none⟩), .pointer (some ⟨w.heap.size + 1 + 1 + 1 + 1 + 1, 0, none⟩)], .int .i64 x.1, undef, undef, undef, undef, undef, undef, undef, undef, undef, undef, undef, undef, undef, undef, undef, undef], defers := [] }) ?assign ?body ?done ?stop
  case assign =>
    intro l x W K hK
    gi_wp2
    exact hK
  case body =>
    clear c00 c01 c02 c1 c2 c3 c4 f3 f4 c5 c6 hbel hW0 hsz
    rintro l pre ⟨x, hx0, hx1⟩ W ⟨⟨d00, d01, d02, d1, d2, d3, d4, e3, e4⟩, hBW, hWs⟩ _
    obtain ⟨k, rfl⟩ := Int.eq_ofNat_of_zero_le hx0
    obtain ⟨ad, rfl, _, hca⟩ := (HR.out.below hBW).2 (by omega)
    have hck := hca k (by omega)
    clear hca
    obtain ⟨cv, hcv⟩ : ∃ cv, costs.getD k 0 = cv := ⟨_, rfl⟩
    obtain ⟨s1, s2, hs⟩ : ∃ s1 s2, chFrom costs b c (pre.map (·.1)) = (s1, s2) := ⟨_, _, rfl⟩
    have hsn : Hid (chFrom costs b c ((pre ++ [(⟨(k : Int), hx0, hx1⟩ : Col cols)]).map (·.1)) = chStep costs b c (s1, s2) k) := by
      show _ = _
      rw [List.map_append, List.map_cons, List.map_nil, chFrom_snoc, hs]
    rw [hs] at d3 d4
    rw [hcv] at hck
    dsimp only at d3 d4
    obtain ⟨bv, hbv⟩ : ∃ bv, (if (c : Int) = (k : Int) then 0 else b) = bv := ⟨_, rfl⟩
    have hcvb : 0 ≤ cv ∧ cv ≤ 1000000000000000000 := by
      rw [← hcv, List.getD_eq_getElem?_getD, List.getElem?_eq_getElem (by have := HR.out.1; omega)]
      exact HC.out _ (List.getElem_mem _)
    have hbvb : 0 ≤ bv ∧ bv ≤ 1000000 := by have := HB0.out; rw [← hbv]; split <;> omega
    have HBend : Hid (∀ W' : World, (W'.cell? (ad.add k) = some (.int .i64 cv) ∧ W'.cell? ((⟨w.heap.size, 0, none⟩ : Addr)) = some (sv) ∧ W'.cell? (⟨w.heap.size, 1, none⟩) = some (.int .i64 b) ∧ W'.cell? (⟨w.heap.size, 2, none⟩) = some (.int .i64 cols) ∧ W'.cell? (⟨w.heap.size + 1, 0, none⟩) = some (.slice (some ad) cols cap) ∧ W'.cell? (⟨w.heap.size + 1 + 1, 0, none⟩) = some (.int .i64 c) ∧ W'.cell? (⟨w.heap.size + 1 + 1 + 1, 0, none⟩) = some (.int .i64 s1) ∧ W'.cell? (⟨w.heap.size + 1 + 1 + 1 + 1, 0, none⟩) = some (.int .i64 s2) ∧ W'.frozen? ⟨w.heap.size + 1 + 1 + 1, 0, none⟩ = false ∧ W'.frozen? ⟨w.heap.size + 1 + 1 + 1 + 1, 0, none⟩ = false ∧ w.heap.size + 7 ≤ W'.heap.size ∧ KeepsOthers W W' ∧ Kp2 (w.heap.size + 1 + 1 + 1 + 1 + 1 + 1) (w.heap.size + 1 + 1 + 1 + 1 + 1) W W' ∧ Below w.heap.size W W') → Calls Tryz.prog 97 #[.agg #[sv, .int .i64 b, .int .i64 cols], .int .i64 c, .int .i64 k] W' fun e w' => e = .returned (.int .i64 bv) ∧ (w'.cell? (ad.add k) = some (.int .i64 cv) ∧ w'.cell? ((⟨w.heap.size, 0, none⟩ : Addr)) = some (sv) ∧ w'.cell? (⟨w.heap.size, 1, none⟩) = some (.int .i64 b) ∧ w'.cell? (⟨w.heap.size, 2, none⟩) = some (.int .i64 cols) ∧ w'.cell? (⟨w.heap.size + 1, 0, none⟩) = some (.slice (some ad) cols cap) ∧ w'.cell? (⟨w.heap.size + 1 + 1, 0, none⟩) = some (.int .i64 c) ∧ w'.cell? (⟨w.heap.size + 1 + 1 + 1, 0, none⟩) = some (.int .i64 s1) ∧ w'.cell? (⟨w.heap.size + 1 + 1 + 1 + 1, 0, none⟩) = some (.int .i64 s2) ∧ w'.frozen? ⟨w.heap.size + 1 + 1 + 1, 0, none⟩ = false ∧ w'.frozen? ⟨w.heap.size + 1 + 1 + 1 + 1, 0, none⟩ = false ∧ w.heap.size + 7 ≤ w'.heap.size ∧ KeepsOthers W w' ∧ Kp2 (w.heap.size + 1 + 1 + 1 + 1 + 1 + 1) (w.heap.size + 1 + 1 + 1 + 1 + 1) W w' ∧ Below w.heap.size W w')) := by
      rintro W' ⟨g1, g2, g3, g4, g5, g6, g7, g8, g9, g10, g11, g12, g13, g14⟩
      refine (bend_any sv b cols c k W').mono ?_
      rintro e w' ⟨he, o, rfl⟩
      exact ⟨by rw [he, hbv], cellA o g1, cellA o g2, cellA o g3, cellA o g4, cellA o g5, cellA o g6, cellA o g7, cellA o g8, frozA o g7 g9, frozA o g8 g10, by simp; omega, g12.trans (KeepsOthers.alloc _ _), g13.trans (Kp2.alloc _ _ (by omega) (by omega)), g14.alloc (by omega) _⟩
    have HS : Hid (costs.getD k 0 = cv) := hcv
    have HV : Hid ((if (c : Int) = (k : Int) then 0 else b) = bv) := hbv
    clear hcv hbv hs
    have hwrp : IntKind.i64.wrap (cv + bv) = cv + bv := IntWalk.i64_in _ (by omega)
    have hmx : Tryz.prog.follows .mixedOrders = true := by kernel_rfl
    gi_wp2
    refine region_in_round (S := (fun w' : World => w'.cell? (ad.add k) = some (.int .i64 cv) ∧ w'.cell? ((⟨w.heap.size, 0, none⟩ : Addr)) = some (sv) ∧ w'.cell? (⟨w.heap.size, 1, none⟩) = some (.int .i64 b) ∧ w'.cell? (⟨w.heap.size, 2, none⟩) = some (.int .i64 cols) ∧ w'.cell? (⟨w.heap.size + 1, 0, none⟩) = some (.slice (some ad) cols cap) ∧ w'.cell? (⟨w.heap.size + 1 + 1, 0, none⟩) = some (.int .i64 c) ∧ w'.cell? (⟨w.heap.size + 1 + 1 + 1, 0, none⟩) = some (.int .i64 s1) ∧ w'.cell? (⟨w.heap.size + 1 + 1 + 1 + 1, 0, none⟩) = some (.int .i64 s2) ∧ w'.frozen? ⟨w.heap.size + 1 + 1 + 1, 0, none⟩ = false ∧ w'.frozen? ⟨w.heap.size + 1 + 1 + 1 + 1, 0, none⟩ = false ∧ w.heap.size + 7 ≤ w'.heap.size ∧ KeepsOthers W w' ∧ Kp2 (w.heap.size + 1 + 1 + 1 + 1 + 1 + 1) (w.heap.size + 1 + 1 + 1 + 1 + 1) W w' ∧ Below w.heap.size W w')) (R := (fun a' w' => (fun w' : World => w'.cell? (ad.add k) = some (.int .i64 cv) ∧ w'.cell? ((⟨w.heap.size, 0, none⟩ : Addr)) = some (sv) ∧ w'.cell? (⟨w.heap.size, 1, none⟩) = some (.int .i64 b) ∧ w'.cell? (⟨w.heap.size, 2, none⟩) = some (.int .i64 cols) ∧ w'.cell? (⟨w.heap.size + 1, 0, none⟩) = some (.slice (some ad) cols cap) ∧ w'.cell? (⟨w.heap.size + 1 + 1, 0, none⟩) = some (.int .i64 c) ∧ w'.cell? (⟨w.heap.size + 1 + 1 + 1, 0, none⟩) = some (.int .i64 s1) ∧ w'.cell? (⟨w.heap.size + 1 + 1 + 1 + 1, 0, none⟩) = some (.int .i64 s2) ∧ w'.frozen? ⟨w.heap.size + 1 + 1 + 1, 0, none⟩ = false ∧ w'.frozen? ⟨w.heap.size + 1 + 1 + 1 + 1, 0, none⟩ = false ∧ w.heap.size + 7 ≤ w'.heap.size ∧ KeepsOthers W w' ∧ Kp2 (w.heap.size + 1 + 1 + 1 + 1 + 1 + 1) (w.heap.size + 1 + 1 + 1 + 1 + 1) W w' ∧ Below w.heap.size W w') w' ∧ ∃ u14 u15 u16 u17 u18 u19 u20 u21 u22 : Value, a' = { tmps := #[.agg #[sv, .int .i64 b, .int .i64 cols], .slice (some ad) cols cap, .int .i64 c, .pointer (some ⟨w.heap.size, 0, none⟩), .pointer (some ⟨w.heap.size + 1, 0, none⟩), .pointer (some ⟨w.heap.size + 1 + 1, 0, none⟩), .pointer (some ⟨w.heap.size + 1 + 1 + 1, 0, none⟩), .pointer (some ⟨w.heap.size + 1 + 1 + 1 + 1, 0, none⟩), .int .i64 k, .int .i64 (cv + bv), .agg #[sv, .int .i64 b, .int .i64 cols], .int .i64 c, .func (.func 114) #[] #[.pointer (some ⟨w.heap.size + 1 + 1 + 1 + 1 + 1 + 1, 0, none⟩), .pointer (some ⟨w.heap.size + 1 + 1 + 1 + 1 + 1, 0, none⟩)], .int .i64 k, u14, u15, u16, u17, u18, u19, u20, u21, u22, undef, undef, undef, undef, undef, undef, undef], defers := [] })) hmx (by intro i o hi c; rcases i with _ | _ | _ | _ | _ | _ | _ | _ | _ | _ | i <;> first | (cases hi; simp; done) | (simp at hi)) ?_ ?_ ?_
    · first | (with_reducible assumption) | exact ⟨hck, d00, d01, d02, d1, d2, d3, d4, e3, e4, hWs, KeepsOthers.drew _, Kp2.drew _, (Below.refl _ _).drew⟩
    intro hHeld
    refine wpAnyH_take (i := 0) (v := ?_) rfl (by kernel_rfl) (by kernel_rfl) (by kernel_rfl) (fun _ _ _ h => h) (Or.inl ⟨by rfl, ?_⟩) (by assumption) ?_
    rotate_left
    · intro w hSw; (try dsimp only at hSw); go_simp; (try (with_reducible rfl))
    try simp only [List.getElem_toArray, List.getElem_cons_succ, List.getElem_cons_zero, Act.put, List.setIfInBounds_toArray, List.set_cons_zero, List.set_cons_succ]
    refine wpAnyH_take (i := 1) (v := ?_) rfl (by kernel_rfl) (by kernel_rfl) (by kernel_rfl) (fun _ _ _ h => h) (Or.inl ⟨by rfl, ?_⟩) (by assumption) ?_
    rotate_left
    · intro w hSw; (try dsimp only at hSw); go_simp; (try (with_reducible rfl))
    try simp only [List.getElem_toArray, List.getElem_cons_succ, List.getElem_cons_zero, Act.put, List.setIfInBounds_toArray, List.set_cons_zero, List.set_cons_succ]
    refine wpAnyH_take (i := 2) (v := ?_) rfl (by kernel_rfl) (by kernel_rfl) (by kernel_rfl) (fun _ _ _ h => h) (Or.inl ⟨by rfl, ?_⟩) (by assumption) ?_
    rotate_left
    · intro w hSw; (try dsimp only at hSw); go_simp; (try (with_reducible rfl))
    try simp only [List.getElem_toArray, List.getElem_cons_succ, List.getElem_cons_zero, Act.put, List.setIfInBounds_toArray, List.set_cons_zero, List.set_cons_succ]
    refine wpAnyH_take (i := 3) (v := ?_) rfl (by kernel_rfl) (by kernel_rfl) (by kernel_rfl) (fun _ _ _ h => h) (Or.inl ⟨by rfl, ?_⟩) (by assumption) ?_
    rotate_left
    · intro w hSw; (try dsimp only at hSw); go_simp; (try (with_reducible rfl))
    try simp only [List.getElem_toArray, List.getElem_cons_succ, List.getElem_cons_zero, Act.put, List.setIfInBounds_toArray, List.set_cons_zero, List.set_cons_succ]
    refine wpAnyH_take (i := 4) (v := ?_) rfl (by kernel_rfl) (by kernel_rfl) (by kernel_rfl) (fun _ _ _ h => h) (Or.inl ⟨by rfl, ?_⟩) (by assumption) ?_
    rotate_left
    · intro w hSw; (try dsimp only at hSw); go_simp; (try (with_reducible rfl))
    try simp only [List.getElem_toArray, List.getElem_cons_succ, List.getElem_cons_zero, Act.put, List.setIfInBounds_toArray, List.set_cons_zero, List.set_cons_succ]
    refine wpAnyH_take (i := 5) (v := ?_) rfl (by kernel_rfl) (by kernel_rfl) (by kernel_rfl) (fun _ _ _ h => h) (Or.inl ⟨by rfl, ?_⟩) (by assumption) ?_
    rotate_left
    · intro w hSw; (try dsimp only at hSw); go_simp; (try (with_reducible rfl))
    try simp only [List.getElem_toArray, List.getElem_cons_succ, List.getElem_cons_zero, Act.put, List.setIfInBounds_toArray, List.set_cons_zero, List.set_cons_succ]
    refine wpAnyH_take (i := 6) (v := ?_) rfl (by kernel_rfl) (by kernel_rfl) (by kernel_rfl) (fun _ _ _ h => h) (Or.inl ⟨by rfl, ?_⟩) (by assumption) ?_
    rotate_left
    · intro w hSw; (try dsimp only at hSw); go_simp; (try (with_reducible rfl))
    try simp only [List.getElem_toArray, List.getElem_cons_succ, List.getElem_cons_zero, Act.put, List.setIfInBounds_toArray, List.set_cons_zero, List.set_cons_succ]
    refine wpAnyH_ready (rs := [7]) (by kernel_rfl) (by simp) ?_
    refine AllReadyH.cons rfl (fun K hK => ?_) AllReadyH.nil
    go_simp
    go_at_call 97; refine (HBend.out _ hHeld).mono ?_; rintro e w' ⟨rfl, hs2⟩
    go_wp2_with fail
    refine hK.out _ _ ?_ (fun hHeld => ?_)
    · clear hK K; first | (with_reducible assumption) | exact ⟨hck, d00, d01, d02, d1, d2, d3, d4, e3, e4, hWs, KeepsOthers.drew _, Kp2.drew _, (Below.refl _ _).drew⟩
    clear hK K
    try simp only [List.getElem_toArray, List.getElem_cons_succ, List.getElem_cons_zero, Act.put, List.setIfInBounds_toArray, List.set_cons_zero, List.set_cons_succ]
    refine wpAnyH_take (i := 8) (v := ?_) rfl (by kernel_rfl) (by kernel_rfl) (by kernel_rfl) (fun _ _ _ h => h) (Or.inl ⟨by rfl, ?_⟩) (by assumption) ?_
    rotate_left
    · intro w hSw; (try dsimp only at hSw); go_simp; (try (with_reducible rfl))
    try simp only [List.getElem_toArray, List.getElem_cons_succ, List.getElem_cons_zero, Act.put, List.setIfInBounds_toArray, List.set_cons_zero, List.set_cons_succ]
    refine wpAnyH_take (i := 9) (v := ?_) rfl (by kernel_rfl) (by kernel_rfl) (by kernel_rfl) (fun _ _ _ h => h) (Or.inl ⟨by rfl, ?_⟩) (by assumption) ?_
    rotate_left
    · intro w hSw; (try dsimp only at hSw); go_simp; (try (with_reducible rfl))
    try simp only [List.getElem_toArray, List.getElem_cons_succ, List.getElem_cons_zero, Act.put, List.setIfInBounds_toArray, List.set_cons_zero, List.set_cons_succ]
    refine wpAnyH_done (by kernel_rfl) ?_ _
    · exact ⟨hHeld, _, _, _, _, _, _, _, _, _, rfl⟩
    intro a' w' g1 g2 g3 g4 g5 g6 g7 g8 g9 g10 g11 hKO hK2 hBl u14 u15 u16 u17 u18 u19 u20 u21 u22 ha'
    subst ha'
    clear d00 d01 d02 d1 d2 d3 d4 e3 e4 hck HBend hWs
    have hval : costs.getD (k : Int).toNat 0 + (if (k : Int) = (c : Int) then 0 else b) = cv + bv := by
      rw [Int.toNat_natCast, HS.out]
      congr 1
      rw [← HV.out]
      by_cases e : (c : Int) = (k : Int)
      · rw [if_pos e, if_pos e.symm]
      · rw [if_neg e, if_neg (fun e' => e e'.symm)]
    have HVal := Lib.hid hval
    clear hval
    by_cases hlt : cv + bv < s2
    · have hst : Hid (chFrom costs b c ((pre ++ [(⟨(k : Int), hx0, hx1⟩ : Col cols)]).map (·.1)) = ((k : Int), cv + bv)) := by
        show _ = _
        rw [hsn.out]; unfold chStep; rw [HVal.out]; exact if_pos hlt
      gi_wp2
      refine ⟨hKO.trans ((KeepsOthers.setCell _ _ _).trans (KeepsOthers.setCell _ _ _)), hK2.trans ((Kp2.setCell _ _ _ (by dsimp only; omega) (by dsimp only; omega)).trans (Kp2.setCell _ _ _ (by dsimp only; omega) (by dsimp only; omega))), ?_, (((hBW.trans hBl).setCell (p := ⟨w.heap.size + 1 + 1 + 1, 0, none⟩) (by dsimp only; omega) _).setCell (p := ⟨w.heap.size + 1 + 1 + 1 + 1, 0, none⟩) (by dsimp only; omega) _), by simp; omega⟩
      rw [hst.out]
      refine ⟨?_, ?_, ?_, ?_, ?_, ?_, ?_, ?_, ?_⟩
      · rw [World.cell?_setCell_far _ _ _ _ (by dsimp only; omega), World.cell?_setCell_far _ _ _ _ (by dsimp only; omega)]; exact g2
      · rw [World.cell?_setCell_far _ _ _ _ (by dsimp only; omega), World.cell?_setCell_far _ _ _ _ (by dsimp only; omega)]; exact g3
      · rw [World.cell?_setCell_far _ _ _ _ (by dsimp only; omega), World.cell?_setCell_far _ _ _ _ (by dsimp only; omega)]; exact g4
      · rw [World.cell?_setCell_far _ _ _ _ (by dsimp only; omega), World.cell?_setCell_far _ _ _ _ (by dsimp only; omega)]; exact g5
      · rw [World.cell?_setCell_far _ _ _ _ (by dsimp only; omega), World.cell?_setCell_far _ _ _ _ (by dsimp only; omega)]; exact g6
      · rw [World.cell?_setCell_far _ _ _ _ (by dsimp only; omega)]; exact World.cell?_setCell_same' _ _ _ (by rw [g7]; rfl)
      · exact World.cell?_setCell_same' _ _ _ (by rw [World.cell?_setCell_far _ _ _ _ (by dsimp only; omega), g8]; rfl)
      · rw [World.frozen?_setCell, World.frozen?_setCell]; exact g9
      · rw [World.frozen?_setCell, World.frozen?_setCell]; exact g10
    · have hst : Hid (chFrom costs b c ((pre ++ [(⟨(k : Int), hx0, hx1⟩ : Col cols)]).map (·.1)) = (s1, s2)) := by
        show _ = _
        rw [hsn.out]; unfold chStep; rw [HVal.out]; exact if_neg hlt
      gi_wp2
      refine ⟨hKO, hK2, ?_, hBW.trans hBl, g11⟩
      have h1 : w'.cell? ⟨w.heap.size + 1 + 1 + 1, 0, none⟩ = some (.int .i64 (chFrom costs b c ((pre ++ [(⟨(k : Int), hx0, hx1⟩ : Col cols)]).map (·.1))).1) := by rw [hst.out]; exact g7
      have h2 : w'.cell? ⟨w.heap.size + 1 + 1 + 1 + 1, 0, none⟩ = some (.int .i64 (chFrom costs b c ((pre ++ [(⟨(k : Int), hx0, hx1⟩ : Col cols)]).map (·.1))).2) := by rw [hst.out]; exact g8
      exact ⟨g2, g3, g4, g5, g6, h1, h2, g9, g10⟩
  case done =>
    clear c00 c01 c02 c1 c2 c3 c4 f3 f4 c5 c6 hbel hW0
    rintro D ys W hD hys ⟨⟨d00, d01, d02, d1, d2, d3, d4, e3, e4⟩, hB, hWs⟩ hK
    rw [hys] at d3 d4
    change _ = some (Value.int .i64 (chp costs b c cols).1) at d3
    change _ = some (Value.int .i64 (chp costs b c cols).2) at d4
    obtain ⟨r1, hr1⟩ : ∃ r, (chp costs b c cols).1 = r := ⟨_, rfl⟩
    obtain ⟨r2, hr2⟩ : ∃ r, (chp costs b c cols).2 = r := ⟨_, rfl⟩
    rw [hr1] at d3
    rw [hr2] at d4
    have HR1 := Lib.hid hr1
    have HR2 := Lib.hid hr2
    have HK := Lib.hid hK
    clear hr1 hr2 hK hys d00 d01 d02 d1 d2
    have hmx : Tryz.prog.follows .mixedOrders = true := by kernel_rfl
    gi_wp2
    gi_region
    all_goals gi_wp2
    all_goals (try go_bits)
    all_goals
      have hK' : (((W.setCell ⟨w.heap.size + 1 + 1 + 1, 0, none⟩ (.int .i64 r1)).setCell ⟨w.heap.size + 1 + 1 + 1 + 1, 0, none⟩ (.int .i64 r2)).drew).heap[D]? = some (.deferred (some [])) := (((KeepsOthers.setCell W ⟨w.heap.size + 1 + 1 + 1, 0, none⟩ (.int .i64 r1)).trans (KeepsOthers.setCell _ ⟨w.heap.size + 1 + 1 + 1 + 1, 0, none⟩ (.int .i64 r2))).trans (KeepsOthers.drew _)).same D _ HK.out rfl
      refine ⟨by simp, .inl ⟨_, _, rfl, run_takeDeferred hK', ?_⟩⟩
      have hx1 := cell_kept (W := ((W.setCell ⟨w.heap.size + 1 + 1 + 1, 0, none⟩ (.int .i64 r1)).setCell ⟨w.heap.size + 1 + 1 + 1 + 1, 0, none⟩ (.int .i64 r2)).drew) (a := ⟨w.heap.size + 1 + 1 + 1, 0, none⟩) (v := .int .i64 r1) (by show World.cell? ((W.setCell _ _).setCell _ _) _ = _; rw [World.cell?_setCell_far _ _ _ _ (by dsimp only; omega)]; exact World.cell?_setCell_same' _ _ _ (by rw [d3]; rfl)) (grownBy_putObj' _ D (.deferred none)) (fun r e => by cases e; exact ⟨_, hK', rfl⟩)
      have hx2 := cell_kept (W := ((W.setCell ⟨w.heap.size + 1 + 1 + 1, 0, none⟩ (.int .i64 r1)).setCell ⟨w.heap.size + 1 + 1 + 1 + 1, 0, none⟩ (.int .i64 r2)).drew) (a := ⟨w.heap.size + 1 + 1 + 1 + 1, 0, none⟩) (v := .int .i64 r2) (World.cell?_setCell_same' _ _ _ (by rw [World.cell?_setCell_far _ _ _ _ (by dsimp only; omega), d4]; rfl)) (grownBy_putObj' _ D (.deferred none)) (fun r e => by cases e; exact ⟨_, hK', rfl⟩)
      refine ⟨.tuple #[.int .i64 r1, .int .i64 r2], ?_, by rw [HR1.out, HR2.out], ?_⟩
      · simp [results, Tryz.f82, go_sem, hx1, hx2]
      · exact (((hB.setCell (p := ⟨w.heap.size + 1 + 1 + 1, 0, none⟩) (by dsimp only; omega) _).setCell (p := ⟨w.heap.size + 1 + 1 + 1 + 1, 0, none⟩) (by dsimp only; omega) _).drew).trans (belowK_b (w := w) (Nat.le_refl _) _ D _ _ (by omega) hK' rfl rfl)
  case stop =>
    rintro D c pre W _ _ h _
    exact h.elim

end Go.Proofs.YtjjflbnopphciaaGreatDoor
