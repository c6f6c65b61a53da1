import Derived.Test.YtofdjapbofagiaaDoorGX
import Derived.Test.YtofdjapbofagiaaDoorH3
import Derived.Test.YtofdjapbofagiaaDoorGD
namespace Go.Proofs.YtofdjapbofagiaaDoor
open Go.RowKit Go.Shelf
attribute [local go_sem] Oper.semAt_some

set_option maxRecDepth 100000 in
set_option maxHeartbeats 4000000 in
theorem cheapest_neg (sv : Value) (b : Int) (cols c : Nat) (A : Option Addr) (cap : Nat) (costs : List Int) (w : World) (hcol : c < cols) (hcb : cols ≤ 1000000) (hr : RdI w A cols costs)
    (hb : 0 ≤ b ∧ b ≤ 1000000) (hcs : ∀ x ∈ costs, -1000000000000000000 ≤ x ∧ x ≤ 1000000000000000000) :
    Calls Tryd.prog 80 #[.agg #[sv, .int .i64 b, .int .i64 cols], .slice A cols cap, .int .i64 c] w fun e w' =>
      e = .returned (.tuple #[.int .i64 (chp costs b c cols).1, .int .i64 (chp costs b c cols).2]) ∧ Below w.heap.size w w' := by
  have HR := Lib.hid hr
  have HC := Lib.hid hcs
  have HB0 := Lib.hid hb
  clear hr hcs hb
  refine (callsIn_wide (n := 6)).1 ?_
  refine callsIn_of_wp_marks Tryd.func80 rfl trivial ?_ rfl
  simp only [Tryd.ntmps80, List.size_toArray, List.length_cons, List.length_nil, Nat.reduceAdd, Nat.reduceSub, Array.replicate_succ, Array.replicate_zero, List.push_toArray, List.append_toArray, List.nil_append, List.cons_append]
  gi_wp2_with (refine ⟨trivial, ?_⟩; gi_at_call 85; refine (neighbours_in Fence.wide _ trivial rfl _ _ _ _ _).mono ?_; rintro e w' ⟨rfl, rfl⟩)
  obtain ⟨W0, hW0⟩ : ∃ W0, (((((((w.alloc (.cells #[sv, .int .i64 b, .int .i64 cols] 105)).alloc (.cells #[.slice A cols cap] 38)).alloc (.cells #[.int .i64 c] 3)).alloc (.cells #[.int .i64 0] 3)).alloc (.cells #[.int .i64 9223372036854775807] 3)).alloc (.cells #[sv, .int .i64 b, .int .i64 cols] 105)).alloc (.cells #[.int .i64 c] 3)) = W0 := ⟨_, rfl⟩
  rw [hW0]
  have hsz : W0.heap.size = w.heap.size + 7 := by rw [← hW0]; (simp [go_sem]; done)
  have c00 : W0.cell? ⟨w.heap.size, 0, none⟩ = some sv := by rw [← hW0]; (simp [go_sem]; done)
  have c01 : W0.cell? ⟨w.heap.size, 1, none⟩ = some (.int .i64 b) := by rw [← hW0]; (simp [go_sem]; done)
  have c02 : W0.cell? ⟨w.heap.size, 2, none⟩ = some (.int .i64 cols) := by rw [← hW0]; (simp [go_sem]; done)
  have c1 : W0.cell? ⟨w.heap.size + 1, 0, none⟩ = some (.slice A cols cap) := by rw [← hW0]; (simp [go_sem]; done)
  have c2 : W0.cell? ⟨w.heap.size + 1 + 1, 0, none⟩ = some (.int .i64 c) := by rw [← hW0]; (simp [go_sem]; done)
  have c3 : W0.cell? ⟨w.heap.size + 1 + 1 + 1, 0, none⟩ = some (.int .i64 0) := by rw [← hW0]; (simp [go_sem]; done)
  have c4 : W0.cell? ⟨w.heap.size + 1 + 1 + 1 + 1, 0, none⟩ = some (.int .i64 9223372036854775807) := by rw [← hW0]; (simp [go_sem]; done)
  have f3 : W0.frozen? ⟨w.heap.size + 1 + 1 + 1, 0, none⟩ = false := by rw [← hW0]; (simp [go_sem]; done)
  have f4 : W0.frozen? ⟨w.heap.size + 1 + 1 + 1 + 1, 0, none⟩ = false := by rw [← hW0]; (simp [go_sem]; done)
  have c5 : W0.cell? ⟨w.heap.size + 1 + 1 + 1 + 1 + 1, 2, none⟩ = some (.int .i64 cols) := by rw [← hW0]; (simp [go_sem]; done)
  have c6 : W0.cell? ⟨w.heap.size + 1 + 1 + 1 + 1 + 1 + 1, 0, none⟩ = some (.int .i64 c) := by rw [← hW0]; (simp [go_sem]; done)
  have hbel : Below w.heap.size w W0 := by rw [← hW0]; exact (((((((Below.refl _ w).alloc (by simp) _).alloc (by simp) _).alloc (by simp; omega) _).alloc (by simp; omega) _).alloc (by simp; omega) _).alloc (by simp; omega) _).alloc (by simp; omega) _
  refine wpIn_rangeFunc_ownF rfl (by omega) (gf := 87) (lb := #[.pointer (some ⟨w.heap.size + 1 + 1 + 1 + 1 + 1 + 1, 0, none⟩), .pointer (some ⟨w.heap.size + 1 + 1 + 1 + 1 + 1, 0, none⟩)]) rfl trivial (enters_of Tryd.func87 (by kernel_rfl) rfl)
    (nbrs_stops Fence.wide _ trivial rfl (by omega) (w.heap.size + 1 + 1 + 1 + 1 + 1 + 1) (w.heap.size + 1 + 1 + 1 + 1 + 1) c cols hcol hcb W0 (by omega) (by omega) c6 c5) (fun h k => h.trans k) (fun W l o o' hl _ _ _ => Kp2.putObj W l o' (by omega) (by omega)) (Below.refl _ _) (fun _ => rfl)
    (fun pre W => (W.cell? ⟨w.heap.size, 0, none⟩ = some sv ∧ W.cell? ⟨w.heap.size, 1, none⟩ = some (.int .i64 b) ∧ W.cell? ⟨w.heap.size, 2, none⟩ = some (.int .i64 cols) ∧ W.cell? ⟨w.heap.size + 1, 0, none⟩ = some (.slice A cols cap) ∧ W.cell? ⟨w.heap.size + 1 + 1, 0, none⟩ = some (.int .i64 c) ∧ W.cell? ⟨w.heap.size + 1 + 1 + 1, 0, none⟩ = some (.int .i64 (chFrom costs b c (pre.map (·.1))).1) ∧ W.cell? ⟨w.heap.size + 1 + 1 + 1 + 1, 0, none⟩ = some (.int .i64 (chFrom costs b c (pre.map (·.1))).2) ∧ W.frozen? ⟨w.heap.size + 1 + 1 + 1, 0, none⟩ = false ∧ W.frozen? ⟨w.heap.size + 1 + 1 + 1 + 1, 0, none⟩ = false) ∧ (Below w.heap.size w W ∧ w.heap.size + 7 ≤ W.heap.size))
    (fun _ _ _ => False)
    (OwnFrom.and (Own.from (fun s X Y row hs hg hr => ⟨cell_kept hs.1 hg hr, cell_kept hs.2.1 hg hr, cell_kept hs.2.2.1 hg hr, cell_kept hs.2.2.2.1 hg hr, cell_kept hs.2.2.2.2.1 hg hr, cell_kept hs.2.2.2.2.2.1 hg hr, cell_kept hs.2.2.2.2.2.2.1 hg hr, (frozen_kept hs.2.2.2.2.2.1 hg hr).trans hs.2.2.2.2.2.2.2.1, (frozen_kept hs.2.2.2.2.2.2.1 hg hr).trans hs.2.2.2.2.2.2.2.2⟩) _) (OwnFrom.and (ownFrom_below (Nat.le_refl _) (by omega)) (fun s X Y row hs hg hr => Nat.le_trans hs hg.size)))
    (fun _ _ _ _ _ hs _ _ => hs)
    ⟨⟨c00, c01, c02, c1, c2, c3, c4, f3, f4⟩, hbel, by omega⟩
    (fun x => { tmps := #[.agg #[sv, .int .i64 b, .int .i64 cols], .slice A cols cap, .int .i64 c, .pointer (some ⟨w.heap.size, 0, none⟩), .pointer (some ⟨w.heap.size + 1, 0, none⟩), .pointer (some ⟨w.heap.size + 1 + 1, 0, none⟩), .pointer (some ⟨w.heap.size + 1 + 1 + 1, 0, none⟩), .pointer (some ⟨w.heap.size + 1 + 1 + 1 + 1, 0, none⟩), .int .i64 x.1, undef, .agg #[sv, .int .i64 b, .int .i64 cols], .int .i64 c, .func (.func 87) #[] #[.pointer (some ⟨w.heap.size + 1 + 1 + 1 + 1 + 1 + 1, 0, none⟩), .pointer (some ⟨w.heap.size + 1 + 1 + 1 + 1 + 1, 0, none⟩)], .int .i64 x.1, undef, undef, undef, undef, undef, undef, undef, undef, undef, undef, undef, undef, undef, undef, undef, undef], defers := [] }) ?assign ?body ?done ?stop
  case assign =>
    intro l x W K hK
    gi_wp2
    exact hK
  case body =>
    clear c00 c01 c02 c1 c2 c3 c4 f3 f4 c5 c6 hbel hW0 hsz
    rintro l pre ⟨x, hx0, hx1⟩ W ⟨⟨d00, d01, d02, d1, d2, d3, d4, e3, e4⟩, hBW, hWs⟩ _
    obtain ⟨k, rfl⟩ := Int.eq_ofNat_of_zero_le hx0
    obtain ⟨ad, rfl, _, hca⟩ := (HR.out.below hBW).2 (by omega)
    have hck := hca k (by omega)
    clear hca
    obtain ⟨cv, hcv⟩ : ∃ cv, costs.getD k 0 = cv := ⟨_, rfl⟩
    obtain ⟨s1, s2, hs⟩ : ∃ s1 s2, chFrom costs b c (pre.map (·.1)) = (s1, s2) := ⟨_, _, rfl⟩
    have hsn : Hid (chFrom costs b c ((pre ++ [(⟨(k : Int), hx0, hx1⟩ : Col cols)]).map (·.1)) = chStep costs b c (s1, s2) k) := by
      show _ = _
      rw [List.map_append, List.map_cons, List.map_nil, chFrom_snoc, hs]
    rw [hs] at d3 d4
    rw [hcv] at hck
    dsimp only at d3 d4
    obtain ⟨bv, hbv⟩ : ∃ bv, (if (c : Int) = (k : Int) then 0 else b) = bv := ⟨_, rfl⟩
    have hcvb : -1000000000000000000 ≤ cv ∧ cv ≤ 1000000000000000000 := by
      rw [← hcv, List.getD_eq_getElem?_getD, List.getElem?_eq_getElem (by have := HR.out.1; omega)]
      exact HC.out _ (List.getElem_mem _)
    have hbvb : 0 ≤ bv ∧ bv ≤ 1000000 := by have := HB0.out; rw [← hbv]; split <;> omega
    have HBend : Hid (∀ W' : World, (W'.cell? (ad.add k) = some (.int .i64 cv) ∧ W'.cell? ((⟨w.heap.size, 0, none⟩ : Addr)) = some (sv) ∧ W'.cell? (⟨w.heap.size, 1, none⟩) = some (.int .i64 b) ∧ W'.cell? (⟨w.heap.size, 2, none⟩) = some (.int .i64 cols) ∧ W'.cell? (⟨w.heap.size + 1, 0, none⟩) = some (.slice (some ad) cols cap) ∧ W'.cell? (⟨w.heap.size + 1 + 1, 0, none⟩) = some (.int .i64 c) ∧ W'.cell? (⟨w.heap.size + 1 + 1 + 1, 0, none⟩) = some (.int .i64 s1) ∧ W'.cell? (⟨w.heap.size + 1 + 1 + 1 + 1, 0, none⟩) = some (.int .i64 s2) ∧ W'.frozen? ⟨w.heap.size + 1 + 1 + 1, 0, none⟩ = false ∧ W'.frozen? ⟨w.heap.size + 1 + 1 + 1 + 1, 0, none⟩ = false ∧ w.heap.size + 7 ≤ W'.heap.size ∧ KeepsOthers W W' ∧ Kp2 (w.heap.size + 1 + 1 + 1 + 1 + 1 + 1) (w.heap.size + 1 + 1 + 1 + 1 + 1) W W' ∧ Below w.heap.size W W') → Calls Tryd.prog 54 #[.agg #[sv, .int .i64 b, .int .i64 cols], .int .i64 c, .int .i64 k] W' fun e w' => e = .returned (.int .i64 bv) ∧ (w'.cell? (ad.add k) = some (.int .i64 cv) ∧ w'.cell? ((⟨w.heap.size, 0, none⟩ : Addr)) = some (sv) ∧ w'.cell? (⟨w.heap.size, 1, none⟩) = some (.int .i64 b) ∧ w'.cell? (⟨w.heap.size, 2, none⟩) = some (.int .i64 cols) ∧ w'.cell? (⟨w.heap.size + 1, 0, none⟩) = some (.slice (some ad) cols cap) ∧ w'.cell? (⟨w.heap.size + 1 + 1, 0, none⟩) = some (.int .i64 c) ∧ w'.cell? (⟨w.heap.size + 1 + 1 + 1, 0, none⟩) = some (.int .i64 s1) ∧ w'.cell? (⟨w.heap.size + 1 + 1 + 1 + 1, 0, none⟩) = some (.int .i64 s2) ∧ w'.frozen? ⟨w.heap.size + 1 + 1 + 1, 0, none⟩ = false ∧ w'.frozen? ⟨w.heap.size + 1 + 1 + 1 + 1, 0, none⟩ = false ∧ w.heap.size + 7 ≤ w'.heap.size ∧ KeepsOthers W w' ∧ Kp2 (w.heap.size + 1 + 1 + 1 + 1 + 1 + 1) (w.heap.size + 1 + 1 + 1 + 1 + 1) W w' ∧ Below w.heap.size W w')) := by
      rintro W' ⟨g1, g2, g3, g4, g5, g6, g7, g8, g9, g10, g11, g12, g13, g14⟩
      refine (bend_any sv b cols c k W').mono ?_
      rintro e w' ⟨he, o, rfl⟩
      exact ⟨by rw [he, hbv], cellA o g1, cellA o g2, cellA o g3, cellA o g4, cellA o g5, cellA o g6, cellA o g7, cellA o g8, frozA o g7 g9, frozA o g8 g10, by simp; omega, g12.trans (KeepsOthers.alloc _ _), g13.trans (Kp2.alloc _ _ (by omega) (by omega)), g14.alloc (by omega) _⟩
    have HS : Hid (costs.getD k 0 = cv) := hcv
    have HV : Hid ((if (c : Int) = (k : Int) then 0 else b) = bv) := hbv
    clear hcv hbv hs
    have hwrp : IntKind.i64.wrap (cv + bv) = cv + bv := IntWalk.i64_in _ (by omega)
    have hmx : Tryd.prog.follows .mixedOrders = true := by kernel_rfl
    gi_wp2
    refine region_in_round (S := (fun w' : World => w'.cell? (ad.add k) = some (.int .i64 cv) ∧ w'.cell? ((⟨w.heap.size, 0, none⟩ : Addr)) = some (sv) ∧ w'.cell? (⟨w.heap.size, 1, none⟩) = some (.int .i64 b) ∧ w'.cell? (⟨w.heap.size, 2, none⟩) = some (.int .i64 cols) ∧ w'.cell? (⟨w.heap.size + 1, 0, none⟩) = some (.slice (some ad) cols cap) ∧ w'.cell? (⟨w.heap.size + 1 + 1, 0, none⟩) = some (.int .i64 c) ∧ w'.cell? (⟨w.heap.size + 1 + 1 + 1, 0, none⟩) = some (.int .i64 s1) ∧ w'.cell? (⟨w.heap.size + 1 + 1 + 1 + 1, 0, none⟩) = some (.int .i64 s2) ∧ w'.frozen? ⟨w.heap.size + 1 + 1 + 1, 0, none⟩ = false ∧ w'.frozen? ⟨w.heap.size + 1 + 1 + 1 + 1, 0, none⟩ = false ∧ w.heap.size + 7 ≤ w'.heap.size ∧ KeepsOthers W w' ∧ Kp2 (w.heap.size + 1 + 1 + 1 + 1 + 1 + 1) (w.heap.size + 1 + 1 + 1 + 1 + 1) W w' ∧ Below w.heap.size W w')) (R := (fun a' w' => (fun w' : World => w'.cell? (ad.add k) = some (.int .i64 cv) ∧ w'.cell? ((⟨w.heap.size, 0, none⟩ : Addr)) = some (sv) ∧ w'.cell? (⟨w.heap.size, 1, none⟩) = some (.int .i64 b) ∧ w'.cell? (⟨w.heap.size, 2, none⟩) = some (.int .i64 cols) ∧ w'.cell? (⟨w.heap.size + 1, 0, none⟩) = some (.slice (some ad) cols cap) ∧ w'.cell? (⟨w.heap.size + 1 + 1, 0, none⟩) = some (.int .i64 c) ∧ w'.cell? (⟨w.heap.size + 1 + 1 + 1, 0, none⟩) = some (.int .i64 s1) ∧ w'.cell? (⟨w.heap.size + 1 + 1 + 1 + 1, 0, none⟩) = some (.int .i64 s2) ∧ w'.frozen? ⟨w.heap.size + 1 + 1 + 1, 0, none⟩ = false ∧ w'.frozen? ⟨w.heap.size + 1 + 1 + 1 + 1, 0, none⟩ = false ∧ w.heap.size + 7 ≤ w'.heap.size ∧ KeepsOthers W w' ∧ Kp2 (w.heap.size + 1 + 1 + 1 + 1 + 1 + 1) (w.heap.size + 1 + 1 + 1 + 1 + 1) W w' ∧ Below w.heap.size W w') w' ∧ ∃ u14 u15 u16 u17 u18 u19 u20 u21 u22 : Value, a' = { tmps := #[.agg #[sv, .int .i64 b, .int .i64 cols], .slice (some ad) cols cap, .int .i64 c, .pointer (some ⟨w.heap.size, 0, none⟩), .pointer (some ⟨w.heap.size + 1, 0, none⟩), .pointer (some ⟨w.heap.size + 1 + 1, 0, none⟩), .pointer (some ⟨w.heap.size + 1 + 1 + 1, 0, none⟩), .pointer (some ⟨w.heap.size + 1 + 1 + 1 + 1, 0, none⟩), .int .i64 k, .int .i64 (cv + bv), .agg #[sv, .int .i64 b, .int .i64 cols], .int .i64 c, .func (.func 87) #[] #[.pointer (some ⟨w.heap.size + 1 + 1 + 1 + 1 + 1 + 1, 0, none⟩), .pointer (some ⟨w.heap.size + 1 + 1 + 1 + 1 + 1, 0, none⟩)], .int .i64 k, u14, u15, u16, u17, u18, u19, u20, u21, u22, undef, undef, undef, undef, undef, undef, undef], defers := [] })) hmx (by intro i o hi c; rcases i with _ | _ | _ | _ | _ | _ | _ | _ | _ | _ | i <;> first | (cases hi; simp; done) | (simp at hi)) ?_ ?_ ?_
    · first | (with_reducible assumption) | exact ⟨hck, d00, d01, d02, d1, d2, d3, d4, e3, e4, hWs, KeepsOthers.drew _, Kp2.drew _, (Below.refl _ _).drew⟩
    intro hHeld
    refine wpAnyH_take (i := 0) (v := ?_) rfl (by kernel_rfl) (by kernel_rfl) (by kernel_rfl) (fun _ _ _ h => h) (Or.inl ⟨by rfl, ?_⟩) (by assumption) ?_
    rotate_left
    · intro w hSw; (try dsimp only at hSw); go_simp; (try (with_reducible rfl))
    try simp only [List.getElem_toArray, List.getElem_cons_succ, List.getElem_cons_zero, Act.put, List.setIfInBounds_toArray, List.set_cons_zero, List.set_cons_succ]
    refine wpAnyH_take (i := 1) (v := ?_) rfl (by kernel_rfl) (by kernel_rfl) (by kernel_rfl) (fun _ _ _ h => h) (Or.inl ⟨by rfl, ?_⟩) (by assumption) ?_
    rotate_left
    · intro w hSw; (try dsimp only at hSw); go_simp; (try (with_reducible rfl))
    try simp only [List.getElem_toArray, List.getElem_cons_succ, List.getElem_cons_zero, Act.put, List.setIfInBounds_toArray, List.set_cons_zero, List.set_cons_succ]
    refine wpAnyH_take (i := 2) (v := ?_) rfl (by kernel_rfl) (by kernel_rfl) (by kernel_rfl) (fun _ _ _ h => h) (Or.inl ⟨by rfl, ?_⟩) (by assumption) ?_
    rotate_left
    · intro w hSw; (try dsimp only at hSw); go_simp; (try (with_reducible rfl))
    try simp only [List.getElem_toArray, List.getElem_cons_succ, List.getElem_cons_zero, Act.put, List.setIfInBounds_toArray, List.set_cons_zero, List.set_cons_succ]
    refine wpAnyH_take (i := 3) (v := ?_) rfl (by kernel_rfl) (by kernel_rfl) (by kernel_rfl) (fun _ _ _ h => h) (Or.inl ⟨by rfl, ?_⟩) (by assumption) ?_
    rotate_left
    · intro w hSw; (try dsimp only at hSw); go_simp; (try (with_reducible rfl))
    try simp only [List.getElem_toArray, List.getElem_cons_succ, List.getElem_cons_zero, Act.put, List.setIfInBounds_toArray, List.set_cons_zero, List.set_cons_succ]
    refine wpAnyH_take (i := 4) (v := ?_) rfl (by kernel_rfl) (by kernel_rfl) (by kernel_rfl) (fun _ _ _ h => h) (Or.inl ⟨by rfl, ?_⟩) (by assumption) ?_
    rotate_left
    · intro w hSw; (try dsimp only at hSw); go_simp; (try (with_reducible rfl))
    try simp only [List.getElem_toArray, List.getElem_cons_succ, List.getElem_cons_zero, Act.put, List.setIfInBounds_toArray, List.set_cons_zero, List.set_cons_succ]
    refine wpAnyH_take (i := 5) (v := ?_) rfl (by kernel_rfl) (by kernel_rfl) (by kernel_rfl) (fun _ _ _ h => h) (Or.inl ⟨by rfl, ?_⟩) (by assumption) ?_
    rotate_left
    · intro w hSw; (try dsimp only at hSw); go_simp; (try (with_reducible rfl))
    try simp only [List.getElem_toArray, List.getElem_cons_succ, List.getElem_cons_zero, Act.put, List.setIfInBounds_toArray, List.set_cons_zero, List.set_cons_succ]
    refine wpAnyH_take (i := 6) (v := ?_) rfl (by kernel_rfl) (by kernel_rfl) (by kernel_rfl) (fun _ _ _ h => h) (Or.inl ⟨by rfl, ?_⟩) (by assumption) ?_
    rotate_left
    · intro w hSw; (try dsimp only at hSw); go_simp; (try (with_reducible rfl))
    try simp only [List.getElem_toArray, List.getElem_cons_succ, List.getElem_cons_zero, Act.put, List.setIfInBounds_toArray, List.set_cons_zero, List.set_cons_succ]
    refine wpAnyH_ready (rs := [7]) (by kernel_rfl) (by simp) ?_
    refine AllReadyH.cons rfl (fun K hK => ?_) AllReadyH.nil
    go_simp
    go_at_call 54; refine (HBend.out _ hHeld).mono ?_; rintro e w' ⟨rfl, hs2⟩
    go_wp2_with fail
    refine hK.out _ _ ?_ (fun hHeld => ?_)
    · clear hK K; first | (with_reducible assumption) | exact ⟨hck, d00, d01, d02, d1, d2, d3, d4, e3, e4, hWs, KeepsOthers.drew _, Kp2.drew _, (Below.refl _ _).drew⟩
    clear hK K
    try simp only [List.getElem_toArray, List.getElem_cons_succ, List.getElem_cons_zero, Act.put, List.setIfInBounds_toArray, List.set_cons_zero, List.set_cons_succ]
    refine wpAnyH_take (i := 8) (v := ?_) rfl (by kernel_rfl) (by kernel_rfl) (by kernel_rfl) (fun _ _ _ h => h) (Or.inl ⟨by rfl, ?_⟩) (by assumption) ?_
    rotate_left
    · intro w hSw; (try dsimp only at hSw); go_simp; (try (with_reducible rfl))
    try simp only [List.getElem_toArray, List.getElem_cons_succ, List.getElem_cons_zero, Act.put, List.setIfInBounds_toArray, List.set_cons_zero, List.set_cons_succ]
    refine wpAnyH_take (i := 9) (v := ?_) rfl (by kernel_rfl) (by kernel_rfl) (by kernel_rfl) (fun _ _ _ h => h) (Or.inl ⟨by rfl, ?_⟩) (by assumption) ?_
    rotate_left
    · intro w hSw; (try dsimp only at hSw); go_simp; (try (with_reducible rfl))
    try simp only [List.getElem_toArray, List.getElem_cons_succ, List.getElem_cons_zero, Act.put, List.setIfInBounds_toArray, List.set_cons_zero, List.set_cons_succ]
    refine wpAnyH_done (by kernel_rfl) ?_ _
    · exact ⟨hHeld, _, _, _, _, _, _, _, _, _, rfl⟩
    intro a' w' g1 g2 g3 g4 g5 g6 g7 g8 g9 g10 g11 hKO hK2 hBl u14 u15 u16 u17 u18 u19 u20 u21 u22 ha'
    subst ha'
    clear d00 d01 d02 d1 d2 d3 d4 e3 e4 hck HBend hWs
    have hval : costs.getD (k : Int).toNat 0 + (if (k : Int) = (c : Int) then 0 else b) = cv + bv := by
      rw [Int.toNat_natCast, HS.out]
      congr 1
      rw [← HV.out]
      by_cases e : (c : Int) = (k : Int)
      · rw [if_pos e, if_pos e.symm]
      · rw [if_neg e, if_neg (fun e' => e e'.symm)]
    have HVal := Lib.hid hval
    clear hval
    by_cases hlt : cv + bv < s2
    · have hst : Hid (chFrom costs b c ((pre ++ [(⟨(k : Int), hx0, hx1⟩ : Col cols)]).map (·.1)) = ((k : Int), cv + bv)) := by
        show _ = _
        rw [hsn.out]; unfold chStep; rw [HVal.out]; exact if_pos hlt
      gi_wp2
      refine ⟨hKO.trans ((KeepsOthers.setCell _ _ _).trans (KeepsOthers.setCell _ _ _)), hK2.trans ((Kp2.setCell _ _ _ (by dsimp only; omega) (by dsimp only; omega)).trans (Kp2.setCell _ _ _ (by dsimp only; omega) (by dsimp only; omega))), ?_, (((hBW.trans hBl).setCell (p := ⟨w.heap.size + 1 + 1 + 1, 0, none⟩) (by dsimp only; omega) _).setCell (p := ⟨w.heap.size + 1 + 1 + 1 + 1, 0, none⟩) (by dsimp only; omega) _), by simp; omega⟩
      rw [hst.out]
      refine ⟨?_, ?_, ?_, ?_, ?_, ?_, ?_, ?_, ?_⟩
      · rw [World.cell?_setCell_far _ _ _ _ (by dsimp only; omega), World.cell?_setCell_far _ _ _ _ (by dsimp only; omega)]; exact g2
      · rw [World.cell?_setCell_far _ _ _ _ (by dsimp only; omega), World.cell?_setCell_far _ _ _ _ (by dsimp only; omega)]; exact g3
      · rw [World.cell?_setCell_far _ _ _ _ (by dsimp only; omega), World.cell?_setCell_far _ _ _ _ (by dsimp only; omega)]; exact g4
      · rw [World.cell?_setCell_far _ _ _ _ (by dsimp only; omega), World.cell?_setCell_far _ _ _ _ (by dsimp only; omega)]; exact g5
      · rw [World.cell?_setCell_far _ _ _ _ (by dsimp only; omega), World.cell?_setCell_far _ _ _ _ (by dsimp only; omega)]; exact g6
      · rw [World.cell?_setCell_far _ _ _ _ (by dsimp only; omega)]; exact World.cell?_setCell_same' _ _ _ (by rw [g7]; rfl)
      · exact World.cell?_setCell_same' _ _ _ (by rw [World.cell?_setCell_far _ _ _ _ (by dsimp only; omega), g8]; rfl)
      · rw [World.frozen?_setCell, World.frozen?_setCell]; exact g9
      · rw [World.frozen?_setCell, World.frozen?_setCell]; exact g10
    · have hst : Hid (chFrom costs b c ((pre ++ [(⟨(k : Int), hx0, hx1⟩ : Col cols)]).map (·.1)) = (s1, s2)) := by
        show _ = _
        rw [hsn.out]; unfold chStep; rw [HVal.out]; exact if_neg hlt
      gi_wp2
      refine ⟨hKO, hK2, ?_, hBW.trans hBl, g11⟩
      have h1 : w'.cell? ⟨w.heap.size + 1 + 1 + 1, 0, none⟩ = some (.int .i64 (chFrom costs b c ((pre ++ [(⟨(k : Int), hx0, hx1⟩ : Col cols)]).map (·.1))).1) := by rw [hst.out]; exact g7
      have h2 : w'.cell? ⟨w.heap.size + 1 + 1 + 1 + 1, 0, none⟩ = some (.int .i64 (chFrom costs b c ((pre ++ [(⟨(k : Int), hx0, hx1⟩ : Col cols)]).map (·.1))).2) := by rw [hst.out]; exact g8
      exact ⟨g2, g3, g4, g5, g6, h1, h2, g9, g10⟩
  case done =>
    clear c00 c01 c02 c1 c2 c3 c4 f3 f4 c5 c6 hbel hW0
    rintro D ys W hD hys ⟨⟨d00, d01, d02, d1, d2, d3, d4, e3, e4⟩, hB, hWs⟩ hK
    rw [hys] at d3 d4
    change _ = some (Value.int .i64 (chp costs b c cols).1) at d3
    change _ = some (Value.int .i64 (chp costs b c cols).2) at d4
    obtain ⟨r1, hr1⟩ : ∃ r, (chp costs b c cols).1 = r := ⟨_, rfl⟩
    obtain ⟨r2, hr2⟩ : ∃ r, (chp costs b c cols).2 = r := ⟨_, rfl⟩
    rw [hr1] at d3
    rw [hr2] at d4
    have HR1 := Lib.hid hr1
    have HR2 := Lib.hid hr2
    have HK := Lib.hid hK
    clear hr1 hr2 hK hys d00 d01 d02 d1 d2
    have hmx : Tryd.prog.follows .mixedOrders = true := by kernel_rfl
    gi_wp2
    gi_region
    all_goals gi_wp2
    all_goals (try go_bits)
    all_goals
      have hK' : (((W.setCell ⟨w.heap.size + 1 + 1 + 1, 0, none⟩ (.int .i64 r1)).setCell ⟨w.heap.size + 1 + 1 + 1 + 1, 0, none⟩ (.int .i64 r2)).drew).heap[D]? = some (.deferred (some [])) := (((KeepsOthers.setCell W ⟨w.heap.size + 1 + 1 + 1, 0, none⟩ (.int .i64 r1)).trans (KeepsOthers.setCell _ ⟨w.heap.size + 1 + 1 + 1 + 1, 0, none⟩ (.int .i64 r2))).trans (KeepsOthers.drew _)).same D _ HK.out rfl
      refine ⟨by simp, .inl ⟨_, _, rfl, run_takeDeferred hK', ?_⟩⟩
      have hx1 := cell_kept (W := ((W.setCell ⟨w.heap.size + 1 + 1 + 1, 0, none⟩ (.int .i64 r1)).setCell ⟨w.heap.size + 1 + 1 + 1 + 1, 0, none⟩ (.int .i64 r2)).drew) (a := ⟨w.heap.size + 1 + 1 + 1, 0, none⟩) (v := .int .i64 r1) (by show World.cell? ((W.setCell _ _).setCell _ _) _ = _; rw [World.cell?_setCell_far _ _ _ _ (by dsimp only; omega)]; exact World.cell?_setCell_same' _ _ _ (by rw [d3]; rfl)) (grownBy_putObj' _ D (.deferred none)) (fun r e => by cases e; exact ⟨_, hK', rfl⟩)
      have hx2 := cell_kept (W := ((W.setCell ⟨w.heap.size + 1 + 1 + 1, 0, none⟩ (.int .i64 r1)).setCell ⟨w.heap.size + 1 + 1 + 1 + 1, 0, none⟩ (.int .i64 r2)).drew) (a := ⟨w.heap.size + 1 + 1 + 1 + 1, 0, none⟩) (v := .int .i64 r2) (World.cell?_setCell_same' _ _ _ (by rw [World.cell?_setCell_far _ _ _ _ (by dsimp only; omega), d4]; rfl)) (grownBy_putObj' _ D (.deferred none)) (fun r e => by cases e; exact ⟨_, hK', rfl⟩)
      refine ⟨.tuple #[.int .i64 r1, .int .i64 r2], ?_, by rw [HR1.out, HR2.out], ?_⟩
      · simp [results, Tryd.f80, go_sem, hx1, hx2]
      · exact (((hB.setCell (p := ⟨w.heap.size + 1 + 1 + 1, 0, none⟩) (by dsimp only; omega) _).setCell (p := ⟨w.heap.size + 1 + 1 + 1 + 1, 0, none⟩) (by dsimp only; omega) _).drew).trans (belowK_b (w := w) (Nat.le_refl _) _ D _ _ (by omega) hK' rfl rfl)
  case stop =>
    rintro D c pre W _ _ h _
    exact h.elim


theorem mem_nbrs {c cols : Nat} {x : Int} (h0 : 0 ≤ x) (h1 : x < cols) (h2 : (c : Int) - 1 ≤ x) (h3 : x ≤ c + 1) : x ∈ nbrs c cols := by
  simp only [nbrs, List.mem_map, List.mem_range, nbrCount]
  refine ⟨x.toNat - (c - 1), ?_, ?_⟩ <;> omega
/-- The cheapest neighbour, also of numbers below 0. -/
theorem chp_least (costs : List Int) (b M : Int) (c cols : Nat) (hc : c < cols) (hl : costs.length = cols) (hb : 0 ≤ b) (hM : M + b < 9223372036854775807) (hcs : ∀ x ∈ costs, -M ≤ x ∧ x ≤ M) :
    (∃ x ∈ nbrs c cols, (chp costs b c cols).2 = chSum costs b c x) ∧ -M ≤ (chp costs b c cols).2 ∧ (chp costs b c cols).2 ≤ M + b ∧ ∀ x ∈ nbrs c cols, (chp costs b c cols).2 ≤ chSum costs b c x := by
  have hsum : ∀ x ∈ nbrs c cols, -M ≤ chSum costs b c x ∧ chSum costs b c x ≤ M + b := by
    intro x hx
    have h1 := nbrs_near hc hx
    have h2 : -M ≤ costs.getD x.toNat 0 ∧ costs.getD x.toNat 0 ≤ M := hcs _ (getD_in costs x.toNat 0 (by omega))
    unfold chSum
    split <;> omega
  obtain ⟨h1, h2, h3⟩ := chFold costs b c (nbrs c cols) (0, 9223372036854775807)
  change (chp costs b c cols).2 ≤ _ at h1
  have h4 := hsum _ (nbrs_ne c cols hc)
  have h5 := h2 _ (nbrs_ne c cols hc)
  change (chp costs b c cols).2 ≤ _ at h5
  rcases h3 with e | ⟨x, hx, e⟩
  · change chp costs b c cols = _ at e
    rw [e] at h5
    dsimp only at h5
    omega
  · change chp costs b c cols = _ at e
    have h6 := hsum x hx
    have h7 : (chp costs b c cols).2 = chSum costs b c x := by rw [e]
    exact ⟨⟨x, hx, h7⟩, by omega, by omega, h2⟩
/-- The greatest that a price may be. -/
def cellV (rows : List (List Int)) (r c : Nat) : Int := (rows.getD r []).getD c 0
def mpF (rows : List (List Int)) (b : Int) (m : Nat) (p : List (List Int)) (r c : Nat) : Int := cellV rows r c + (if r = 0 then 0 else (chp (p.getD (r - 1) []) b c m).2)
def cellF (rows : List (List Int)) (b : Int) (m : Nat) (p : List (List Int)) (r c : Nat) : Int := if mpF rows b m p r c < cellV p r c then 19 else 0
def rowF (rows : List (List Int)) (b : Int) (m : Nat) (p : List (List Int)) (r : Nat) : Int := firstF (cellF rows b m p r) m
def pricesE (rows : List (List Int)) (b : Int) (n m : Nat) (p : List (List Int)) : Int :=
  if p.length = n then (if rowsE m (-1000000) 1000000 p = 0 then firstF (rowF rows b m p) n else rowsE m (-1000000) 1000000 p) else 10
def minK (xs : List Int) : Nat → Int
  | 0 => xs.getD 0 0
  | k + 1 => min (minK xs k) (xs.getD k 0)
def boundF (p : List (List Int)) : Int := minK (p.getD (p.length - 1) []) (p.getD (p.length - 1) []).length
theorem minK_le (xs : List Int) : ∀ k j, j < k → minK xs k ≤ xs.getD j 0
  | 0, j, h => absurd h (by omega)
  | k + 1, j, h => by
    show min (minK xs k) (xs.getD k 0) ≤ _
    by_cases e : j = k
    · subst e; exact Int.min_le_right _ _
    · exact Int.le_trans (Int.min_le_left _ _) (minK_le xs k j (by omega))
theorem minK_one (xs : List Int) : minK xs 1 = xs.getD 0 0 := by
  show min (xs.getD 0 0) (xs.getD 0 0) = _
  omega
theorem fromB_all {lo hi : Int} {xs : List Int} (h : fromB lo hi xs = true) : ∀ x ∈ xs, lo ≤ x ∧ x ≤ hi := fun x hx => by
  unfold fromB at h
  rw [List.all_eq_true] at h
  simpa using h x hx
theorem prices_parts {rows : List (List Int)} {b : Int} {n m : Nat} {p : List (List Int)} (h : pricesE rows b n m p = 0) : p.length = n ∧ (∀ r ∈ p, r.length = m ∧ ∀ x ∈ r, -1000000 ≤ x ∧ x ≤ 1000000) ∧ ∀ r, r < n → ∀ c, c < m → cellV p r c ≤ mpF rows b m p r c := by
  unfold pricesE at h
  by_cases h0 : p.length = n
  · rw [if_pos h0] at h
    by_cases h1 : rowsE m (-1000000) 1000000 p = 0
    · rw [if_pos h1] at h
      refine ⟨h0, fun r hr => ⟨(rowsE_zero h1 r hr).1, fromB_all (rowsE_zero h1 r hr).2⟩, fun r hr c hc => ?_⟩
      have h2 := firstF_ok (firstF_ok h r hr) c hc
      unfold cellF at h2
      by_cases e : mpF rows b m p r c < cellV p r c
      · rw [if_pos e] at h2; omega
      · omega
    · rw [if_neg h1] at h; exact absurd h h1
  · rw [if_neg h0] at h; omega
/-- No path costs less than the bound of prices. -/
theorem bound_le {rows : List (List Int)} {b : Int} {n m : Nat} {p : List (List Int)} {path : List Int} (hn : 0 < n) (hb : 0 ≤ b ∧ b ≤ 1000) (h : pricesE rows b n m p = 0) (hp : pathE n m path = 0) : boundF p ≤ costF rows b path n := by
  obtain ⟨h0, h1, h2⟩ := prices_parts h
  have hpl := path_in hp
  have hpa : firstF (pAt m path) n = 0 := by unfold pathE at hp; rw [if_pos hpl.1] at hp; exact hp
  have key : ∀ k, k < n → cellV p k (path.getD k 0).toNat ≤ costF rows b path (k + 1) := by
    intro k
    induction k with
    | zero =>
      intro hk
      have hx := hpl.2 0 hk
      have h3 := h2 0 hk (path.getD 0 0).toNat (by omega)
      unfold mpF at h3
      rw [if_pos rfl] at h3
      have e : costF rows b path (0 + 1) = 0 + valAt rows path 0 + bendAt b path 0 := rfl
      rw [e, bendAt_zero]
      unfold valAt
      unfold cellV at h3 ⊢
      omega
    | succ k ih =>
      intro hk
      have ih' := ih (by omega)
      have hx := hpl.2 (k + 1) hk
      have hy := hpl.2 k (by omega)
      have h3 := h2 (k + 1) hk (path.getD (k + 1) 0).toNat (by omega)
      have hst := firstF_ok hpa (k + 1) hk
      have hrl := h1 _ (getD_in p k [] (by omega))
      have hl := chp_least (p.getD k []) b 1000000 (path.getD (k + 1) 0).toNat m (by omega) hrl.1 hb.1 (by omega) hrl.2
      have hnb : path.getD k 0 ∈ nbrs (path.getD (k + 1) 0).toNat m := by
        unfold pAt at hst
        rw [if_pos hx] at hst
        by_cases e : (k + 1 = 0 ∨ (-1 ≤ path.getD (k + 1) 0 - path.getD (k + 1 - 1) 0 ∧ path.getD (k + 1) 0 - path.getD (k + 1 - 1) 0 ≤ 1))
        · have e' := e.resolve_left (by omega)
          rw [Nat.add_sub_cancel] at e'
          exact mem_nbrs hy.1 (by omega) (by omega) (by omega)
        · rw [if_neg e] at hst; omega
      have h4 := hl.2.2.2 _ hnb
      unfold mpF at h3
      rw [if_neg (by omega), Nat.add_sub_cancel] at h3
      have e : costF rows b path (k + 1 + 1) = costF rows b path (k + 1) + valAt rows path (k + 1) + bendAt b path (k + 1) := rfl
      rw [e, bendAt_succ]
      unfold chSum at h4
      have e2 : (if path.getD k 0 = ((path.getD (k + 1) 0).toNat : Int) then (0 : Int) else b) = if path.getD k 0 = path.getD (k + 1) 0 then 0 else b := by
        rw [show ((path.getD (k + 1) 0).toNat : Int) = path.getD (k + 1) 0 by omega]
      rw [e2] at h4
      have e3 : valAt rows path (k + 1) = cellV rows (k + 1) (path.getD (k + 1) 0).toNat := rfl
      have e4 : cellV p k (path.getD k 0).toNat = (p.getD k []).getD (path.getD k 0).toNat 0 := rfl
      rw [e3]
      rw [e4] at ih'
      omega
  have hk := key (n - 1) (by omega)
  have hx := hpl.2 (n - 1) (by omega)
  rw [show n - 1 + 1 = n by omega] at hk
  refine Int.le_trans ?_ hk
  unfold boundF
  rw [h0]
  have hrl := (h1 _ (getD_in p (n - 1) [] (by omega))).1
  exact minK_le _ _ _ (by rw [hrl]; omega)

end Go.Proofs.YtofdjapbofagiaaDoor

namespace Go.Proofs.YtofdjapbofagiaaDoor
open Go.RowKit

set_option maxRecDepth 100000 in
set_option maxHeartbeats 4000000 in
theorem maxPrice_any (ad : Addr) (n c m : Nat) (rows : List (List Int)) (b : Int) (PA : Option Addr) (cp : Nat) (p : List (List Int)) (r k : Nat) (w : World) (hr : RdG w (some ad) n rows) (hp : RdG w PA n p) (hn : n ≤ 1000000) (hm : m ≤ 1000000) (hrn : r < n) (hkm : k < m) (hbb : 0 ≤ b ∧ b ≤ 1000)
    (hg : ∀ r ∈ rows, r.length = m ∧ ∀ x ∈ r, 0 ≤ x ∧ x ≤ 255) (hpg : ∀ r ∈ p, r.length = m ∧ ∀ x ∈ r, -1000000 ≤ x ∧ x ≤ 1000000) :
    Calls Tryd.prog 63 #[.agg #[.slice (some ad) n c, .int .i64 b, .int .i64 m], .slice PA n cp, .int .i64 (r : Int), .int .i64 (k : Int)] w fun e w' => e = .returned (.int .i64 (mpF rows b m p r k)) ∧ Below w.heap.size w w' := by
  have hb0 : Below w.heap.size w (w.alloc (.cells #[.slice (some ad) n c, .int .i64 b, .int .i64 m] 105)) := (Below.refl _ _).alloc (Nat.le_refl _) _
  have HR1 := Lib.hid (hr.below hb0)
  have HP1 := Lib.hid (hp.below hb0)
  have HB0 := Lib.hid hb0
  have HN := Lib.hid (Bk.new w 105 #[.slice (some ad) n c, .int .i64 b, .int .i64 m])
  have HPG := Lib.hid hpg
  have hrI : (r : Int) < (n : Int) := by omega
  have hr0 : (0 : Int) ≤ (r : Int) := by omega
  have hkI : (k : Int) < (m : Int) := by omega
  have hk0 : (0 : Int) ≤ (k : Int) := by omega
  obtain ⟨W1, hW1⟩ : ∃ W, w.alloc (.cells #[.slice (some ad) n c, .int .i64 b, .int .i64 m] 105) = W := ⟨_, rfl⟩
  obtain ⟨g, hgw⟩ : ∃ g, w.heap.size = g := ⟨_, rfl⟩
  rw [hW1] at HR1 HP1 HB0 HN
  rw [hgw] at HN
  have n0 : W1.cell? ⟨g, 0, none⟩ = some (.slice (some ad) n c) := by rw [HN.out.cell]; rfl
  have n1 : W1.cell? ⟨g, 1, none⟩ = some (.int .i64 b) := by rw [HN.out.cell]; rfl
  have n2 : W1.cell? ⟨g, 2, none⟩ = some (.int .i64 m) := by rw [HN.out.cell]; rfl
  obtain ⟨bd, cb, r1, r2, hv0, hv1, _, _⟩ := grid_at HR1.out hg r k hrn hkm
  obtain ⟨v, hve⟩ : ∃ v, (rows.getD r []).getD k 0 = v := ⟨_, rfl⟩
  have HV : Hid (cellV rows r k = v) := hve
  rw [hve] at r2 hv0 hv1
  have HGW := Lib.hid hgw
  clear hr hp hb0 hg hpg hve
  by_cases h0 : r = 0
  · have HM : Hid (mpF rows b m p r k = v) := by show _ = _; unfold mpF; rw [if_pos h0, HV.out]; omega
    have hq : ((r : Int) == 0) = true := by rw [h0]; rfl
    have hq2 : (r == 0) = true := by rw [h0]; rfl
    rw [HM.out]
    have hr00 : r = 0 := h0
    subst hr00
    rw [addZ] at r1
    go_enter Tryd.func63, Tryd.ntmps63
    try simp only [hgw]
    go_wp2
    go_ret
    first | exact ⟨rfl, HB0.out⟩ | (rw [← HGW.out]; exact ⟨rfl, HB0.out⟩)
  · obtain ⟨q, hq⟩ : ∃ q, r = q + 1 := ⟨r - 1, by omega⟩
    obtain ⟨pd, hPA, hpdb, hc⟩ := HP1.out.2 (by omega)
    subst hPA
    obtain ⟨Bq, mq, cq, hck, hrow, _⟩ := hc q (by omega)
    have hpq := HPG.out _ (getD_in p q [] (by rw [HP1.out.1]; omega))
    obtain rfl : mq = m := by rw [← hrow.1, hpq.1]
    have hl := chp_least (p.getD q []) b 1000000 k mq hkm hpq.1 hbb.1 (by omega) hpq.2
    obtain ⟨z1, z2, hz⟩ : ∃ z1 z2, chp (p.getD q []) b k mq = (z1, z2) := ⟨_, _, rfl⟩
    have HM : Hid (mpF rows b mq p r k = v + z2) := by
      show _ = _
      unfold mpF
      rw [if_neg h0, HV.out, show r - 1 = q by omega, hz]
    rw [hz] at hl
    have hzb : -1000000 ≤ z2 ∧ z2 ≤ 1001000 := by have := hl.2; dsimp only at this; omega
    have CC : Hid (∀ W', (fun w' : World => w'.cell? ⟨g, 0, none⟩ = some (.slice (some ad) n c) ∧ w'.cell? ⟨g, 1, none⟩ = some (.int .i64 b) ∧ w'.cell? ⟨g, 2, none⟩ = some (.int .i64 mq) ∧ w'.cell? (pd.add q) = some (.slice Bq mq cq) ∧ Below W1.heap.size W1 w') W' → Calls Tryd.prog 80 #[.agg #[.slice (some ad) n c, .int .i64 b, .int .i64 mq], .slice Bq mq cq, .int .i64 (k : Int)] W' fun e w' => e = .returned (.tuple #[.int .i64 z1, .int .i64 z2]) ∧ (fun w' : World => w'.cell? ⟨g, 0, none⟩ = some (.slice (some ad) n c) ∧ w'.cell? ⟨g, 1, none⟩ = some (.int .i64 b) ∧ w'.cell? ⟨g, 2, none⟩ = some (.int .i64 mq) ∧ w'.cell? (pd.add q) = some (.slice Bq mq cq) ∧ Below W1.heap.size W1 w') w') := by
      rintro W' ⟨g1, g2, g3, g4, g5⟩
      have h := cheapest_neg (.slice (some ad) n c) b mq k Bq cq (p.getD q []) W' hkm hm (hrow.below g5) ⟨hbb.1, by omega⟩ (fun x hx => by have := hpq.2 x hx; omega)
      rw [hz] at h
      refine h.mono ?_
      rintro e w' ⟨he, hb⟩
      exact ⟨he, (hb.cell (World.block_lt_of_cell? _ _ g1)).trans g1, (hb.cell (World.block_lt_of_cell? _ _ g2)).trans g2, (hb.cell (World.block_lt_of_cell? _ _ g3)).trans g3, (hb.cell (World.block_lt_of_cell? _ _ g4)).trans g4, g5.trans (hb.mono g5.size)⟩
    have HS0 : Hid ((fun w' : World => w'.cell? ⟨g, 0, none⟩ = some (.slice (some ad) n c) ∧ w'.cell? ⟨g, 1, none⟩ = some (.int .i64 b) ∧ w'.cell? ⟨g, 2, none⟩ = some (.int .i64 mq) ∧ w'.cell? (pd.add q) = some (.slice Bq mq cq) ∧ Below W1.heap.size W1 w') W1.drew) := ⟨n0, n1, n2, hck, (Below.refl _ _).drew⟩
    have hz1 : IntKind.i64.wrap ((r : Int) - 1) = (q : Int) := by rw [show (r : Int) - 1 = (q : Int) by omega]; exact IntWalk.i64_in _ (by omega)
    have hz3 : (0 : Int) ≤ (q : Int) := by omega
    have hz4 : (q : Int) < (n : Int) := by omega
    have hrq : ((r : Int) == 0) = false := by rw [beq_eq_false_iff_ne]; omega
    rw [HM.out]
    clear hq hc hrow hpq hl hz hck h0
    go_enter Tryd.func63, Tryd.ntmps63
    try simp only [hgw]
    go_wp2
    clear hW1
    refine wp_region_held_drew (S := (fun w' : World => w'.cell? ⟨g, 0, none⟩ = some (.slice (some ad) n c) ∧ w'.cell? ⟨g, 1, none⟩ = some (.int .i64 b) ∧ w'.cell? ⟨g, 2, none⟩ = some (.int .i64 mq) ∧ w'.cell? (pd.add q) = some (.slice Bq mq cq) ∧ Below W1.heap.size W1 w')) (by kernel_rfl) ?_ ?_
    · first | exact hs2 | exact HS0.out
    intro hHeld
    refine wpAnyH_take (i := 0) (v := ?_) rfl (by kernel_rfl) (by kernel_rfl) (by kernel_rfl) (fun _ _ _ h => h) (Or.inl ⟨by rfl, ?_⟩) (by assumption) ?_
    rotate_left
    · intro w hSw; (try dsimp only at hSw); go_simp; (try (with_reducible rfl))
    try simp only [List.getElem_toArray, List.getElem_cons_succ, List.getElem_cons_zero, Act.put, List.setIfInBounds_toArray, List.set_cons_zero, List.set_cons_succ]
    refine wpAnyH_take (i := 1) (v := ?_) rfl (by kernel_rfl) (by kernel_rfl) (by kernel_rfl) (fun _ _ _ h => h) (Or.inl ⟨by rfl, ?_⟩) (by assumption) ?_
    rotate_left
    · intro w hSw; (try dsimp only at hSw); go_simp; (try (with_reducible rfl))
    try simp only [List.getElem_toArray, List.getElem_cons_succ, List.getElem_cons_zero, Act.put, List.setIfInBounds_toArray, List.set_cons_zero, List.set_cons_succ]
    refine wpAnyH_take (i := 2) (v := ?_) rfl (by kernel_rfl) (by kernel_rfl) (by kernel_rfl) (fun _ _ _ h => h) (Or.inl ⟨by rfl, ?_⟩) (by assumption) ?_
    rotate_left
    · intro w hSw; (try dsimp only at hSw); go_simp; (try (with_reducible rfl))
    try simp only [List.getElem_toArray, List.getElem_cons_succ, List.getElem_cons_zero, Act.put, List.setIfInBounds_toArray, List.set_cons_zero, List.set_cons_succ]
    refine wpAnyH_take (i := 3) (v := ?_) rfl (by kernel_rfl) (by kernel_rfl) (by kernel_rfl) (fun _ _ _ h => h) (Or.inl ⟨by rfl, ?_⟩) (by assumption) ?_
    rotate_left
    · intro w hSw; (try dsimp only at hSw); go_simp; (try (with_reducible rfl))
    try simp only [List.getElem_toArray, List.getElem_cons_succ, List.getElem_cons_zero, Act.put, List.setIfInBounds_toArray, List.set_cons_zero, List.set_cons_succ]
    refine wpAnyH_take (i := 4) (v := ?_) rfl (by kernel_rfl) (by kernel_rfl) (by kernel_rfl) (fun _ _ _ h => h) (Or.inl ⟨by rfl, ?_⟩) (by assumption) ?_
    rotate_left
    · intro w hSw; (try dsimp only at hSw); go_simp; (try (with_reducible rfl))
    try simp only [List.getElem_toArray, List.getElem_cons_succ, List.getElem_cons_zero, Act.put, List.setIfInBounds_toArray, List.set_cons_zero, List.set_cons_succ]
    refine wpAnyH_take (i := 5) (v := ?_) rfl (by kernel_rfl) (by kernel_rfl) (by kernel_rfl) (fun _ _ _ h => h) (Or.inl ⟨by rfl, ?_⟩) (by assumption) ?_
    rotate_left
    · intro w hSw; (try dsimp only at hSw); go_simp; (try (with_reducible rfl))
    try simp only [List.getElem_toArray, List.getElem_cons_succ, List.getElem_cons_zero, Act.put, List.setIfInBounds_toArray, List.set_cons_zero, List.set_cons_succ]
    refine wpAnyH_take (i := 6) (v := ?_) rfl (by kernel_rfl) (by kernel_rfl) (by kernel_rfl) (fun _ _ _ h => h) (Or.inl ⟨by rfl, ?_⟩) (by assumption) ?_
    rotate_left
    · intro w hSw; (try dsimp only at hSw); go_simp; (try (with_reducible rfl))
    try simp only [List.getElem_toArray, List.getElem_cons_succ, List.getElem_cons_zero, Act.put, List.setIfInBounds_toArray, List.set_cons_zero, List.set_cons_succ]
    refine wpAnyH_ready (rs := [7]) (by kernel_rfl) (by simp) ?_
    refine AllReadyH.cons rfl (fun K hK => ?_) AllReadyH.nil
    go_simp
    go_at_call 80; refine (CC.out _ hHeld).mono ?_; rintro e w2 ⟨rfl, hs2⟩
    go_wp2_with fail
    refine hK.out _ _ ?_ (fun hHeld => ?_)
    · clear hK K; first | exact hs2 | exact HS0.out
    clear hK K
    try simp only [List.getElem_toArray, List.getElem_cons_succ, List.getElem_cons_zero, Act.put, List.setIfInBounds_toArray, List.set_cons_zero, List.set_cons_succ]
    refine wpAnyH_take (i := 8) (v := ?_) rfl (by kernel_rfl) (by kernel_rfl) (by kernel_rfl) (fun _ _ _ h => h) (Or.inl ⟨by rfl, ?_⟩) (by assumption) ?_
    rotate_left
    · intro w hSw; (try dsimp only at hSw); go_simp; (try (with_reducible rfl))
    try simp only [List.getElem_toArray, List.getElem_cons_succ, List.getElem_cons_zero, Act.put, List.setIfInBounds_toArray, List.set_cons_zero, List.set_cons_succ]
    refine wpAnyH_take (i := 9) (v := ?_) rfl (by kernel_rfl) (by kernel_rfl) (by kernel_rfl) (fun _ _ _ h => h) (Or.inl ⟨by rfl, ?_⟩) (by assumption) ?_
    rotate_left
    · intro w hSw; (try dsimp only at hSw); go_simp; (try (with_reducible rfl))
    try simp only [List.getElem_toArray, List.getElem_cons_succ, List.getElem_cons_zero, Act.put, List.setIfInBounds_toArray, List.set_cons_zero, List.set_cons_succ]
    refine wpAnyH_take (i := 10) (v := ?_) rfl (by kernel_rfl) (by kernel_rfl) (by kernel_rfl) (fun _ _ _ h => h) (Or.inl ⟨by rfl, ?_⟩) (by assumption) ?_
    rotate_left
    · intro w hSw; (try dsimp only at hSw); go_simp; (try (with_reducible rfl))
    try simp only [List.getElem_toArray, List.getElem_cons_succ, List.getElem_cons_zero, Act.put, List.setIfInBounds_toArray, List.set_cons_zero, List.set_cons_succ]
    refine wpAnyH_take (i := 11) (v := ?_) rfl (by kernel_rfl) (by kernel_rfl) (by kernel_rfl) (fun _ _ _ h => h) (Or.inl ⟨by rfl, ?_⟩) (by assumption) ?_
    rotate_left
    · intro w hSw; (try dsimp only at hSw); go_simp; (try (with_reducible rfl))
    try simp only [List.getElem_toArray, List.getElem_cons_succ, List.getElem_cons_zero, Act.put, List.setIfInBounds_toArray, List.set_cons_zero, List.set_cons_succ]
    refine wpAnyH_take (i := 12) (v := ?_) rfl (by kernel_rfl) (by kernel_rfl) (by kernel_rfl) (fun _ _ _ h => h) (Or.inl ⟨by rfl, ?_⟩) (by assumption) ?_
    rotate_left
    · intro w hSw; (try dsimp only at hSw); go_simp; (try (with_reducible rfl))
    try simp only [List.getElem_toArray, List.getElem_cons_succ, List.getElem_cons_zero, Act.put, List.setIfInBounds_toArray, List.set_cons_zero, List.set_cons_succ]
    refine wpAnyH_done (by kernel_rfl) ?_ _
    obtain ⟨_, _, _, _, hbl⟩ := hHeld
    have HBL := Lib.hid hbl
    clear hbl HS0 CC hz1 hs2 n0 n1 n2 r1 r2
    go_wp2
    go_ret
    rw [← HGW.out]
    exact ⟨rfl, HB0.out.trans (HBL.out.mono HB0.out.size)⟩

end Go.Proofs.YtofdjapbofagiaaDoor

namespace Go.Proofs.YtofdjapbofagiaaDoor
open Go.RowKit

set_option maxRecDepth 100000 in
set_option maxHeartbeats 1000000 in
theorem sliceMin_any (A : Option Addr) (n c : Nat) (xs : List Int) (w : World) (hr : RdI w A n xs) (hn : 0 < n ∧ n ≤ 1000000) :
    Calls Tryd.prog 65 #[.slice A n c] w fun e w' => e = .returned (.int .i64 (minK xs n)) ∧ w = w' := by
  obtain ⟨ad, rfl, _, hc⟩ := hr.2 hn.1
  have c0 := hc 0 hn.1
  rw [addZ] at c0
  have HC := Lib.hid hc
  have h1 : ¬ (n : Int) < 1 := by omega
  have hnI : (0 : Int) < (n : Int) := by omega
  have HM1 := Lib.hid (minK_one xs)
  obtain ⟨x0, hx0⟩ : ∃ x, xs.getD 0 0 = x := ⟨_, rfl⟩
  rw [hx0] at c0 HM1
  have hn0 : 0 < n := hn.1
  have hnb : n ≤ 1000000 := hn.2
  clear hr hc hn hx0
  go_enter Tryd.func65, Tryd.ntmps65
  go_wp2
  go_loop [3, 4] (fun v i => ∃ k : Nat, 1 ≤ k ∧ k ≤ n ∧ i = .int .i64 (k : Int) ∧ v = .int .i64 (minK xs k)) (fun _ i => n - (intOf i).toNat)
  case atStart => exact ⟨1, by omega, by omega, rfl, by rw [HM1.out]⟩
  case round =>
    obtain ⟨k, hk1, hk, rfl, rfl⟩ := hrel
    by_cases hlt : k < n
    · have hkI : (k : Int) < (n : Int) := by omega
      have hk0 : (0 : Int) ≤ (k : Int) := by omega
      have ck := HC.out k hlt
      have HS : Hid (minK xs (k + 1) = min (minK xs k) (xs.getD k 0)) := rfl
      obtain ⟨x, hx⟩ : ∃ x, xs.getD k 0 = x := ⟨_, rfl⟩
      obtain ⟨M, hM⟩ : ∃ M, minK xs k = M := ⟨_, rfl⟩
      rw [hx] at ck HS
      rw [hM] at HS ⊢
      clear hx hM
      by_cases hl : x < M
      · have HS2 : Hid (minK xs (k + 1) = x) := by show _ = _; rw [HS.out]; omega
        go_wp2
        go_round
        case rel => exact ⟨k + 1, by omega, by omega, by go_num, by rw [HS2.out]⟩
        case measure => simp [intOf]; omega
      · have HS2 : Hid (minK xs (k + 1) = M) := by show _ = _; rw [HS.out]; omega
        go_wp2
        go_round
        case rel => exact ⟨k + 1, by omega, by omega, by go_num, by rw [HS2.out]⟩
        case measure => simp [intOf]; omega
    · obtain rfl : n = k := by omega
      go_wp2
      go_ret
      exact ⟨rfl, rfl⟩

set_option maxRecDepth 100000 in
set_option maxHeartbeats 1000000 in
theorem refBound_any (A : Option Addr) (n c m : Nat) (p : List (List Int)) (w : World) (hr : RdG w A n p) (hn : 0 < n ∧ n ≤ 1000000) (hm : 0 < m ∧ m ≤ 1000000) (hg : ∀ r ∈ p, r.length = m) :
    Calls Tryd.prog 39 #[.slice A n c] w fun e w' => e = .returned (.int .i64 (boundF p)) ∧ w = w' := by
  obtain ⟨q, hq⟩ : ∃ q, n = q + 1 := ⟨n - 1, by omega⟩
  obtain ⟨ad, rfl, _, hc⟩ := hr.2 hn.1
  obtain ⟨B, m', c', hck, hrow, _⟩ := hc q (by omega)
  have hml := hg _ (getD_in p q [] (by rw [hr.1]; omega))
  obtain rfl : m' = m := by rw [← hrow.1, hml]
  have HE : Hid (boundF p = minK (p.getD q []) m') := by show _ = _; unfold boundF; rw [hr.1, show n - 1 = q by omega, hml]
  obtain ⟨bd, rfl, _, hcb⟩ := hrow.2 hm.1
  have c0 := hcb 0 hm.1
  rw [addZ] at c0
  have HC := Lib.hid hcb
  obtain ⟨xs, hxs⟩ : ∃ xs, p.getD q [] = xs := ⟨_, rfl⟩
  rw [hxs] at HE HC c0
  obtain ⟨x0, hx0⟩ : ∃ x, xs.getD 0 0 = x := ⟨_, rfl⟩
  rw [hx0] at c0
  have HX0 : Hid (minK xs 0 = x0) := hx0
  have hz1 : IntKind.i64.wrap ((n : Int) - 1) = (q : Int) := by rw [show (n : Int) - 1 = (q : Int) by omega]; exact IntWalk.i64_in _ (by omega)
  have hz2 : (n : Int) - 1 = (q : Int) := by omega
  have hz3 : (0 : Int) ≤ (q : Int) := by omega
  have hz4 : (q : Int) < (n : Int) := by omega
  have hmI : (0 : Int) < (m' : Int) := by omega
  have hmb : m' ≤ 1000000 := hm.2
  have hnb : n ≤ 1000000 := hn.2
  have hm0 : 0 < m' := hm.1
  rw [HE.out]
  clear hr hc hrow hcb hg hml hxs hx0 hn hm hq
  go_enter Tryd.func39, Tryd.ntmps39
  go_wp2
  clear hz1 hz2
  go_loop [4, 5] (fun v i => ∃ k : Nat, k ≤ m' ∧ i = .int .i64 (k : Int) ∧ v = .int .i64 (minK xs k)) (fun _ i => m' - (intOf i).toNat)
  case atStart => exact ⟨0, by omega, rfl, by rw [HX0.out]⟩
  case round =>
    obtain ⟨k, hk, rfl, rfl⟩ := hrel
    by_cases hlt : k < m'
    · have hkI : (k : Int) < (m' : Int) := by omega
      have hk0 : (0 : Int) ≤ (k : Int) := by omega
      have ck := HC.out k hlt
      have HS : Hid (minK xs (k + 1) = min (minK xs k) (xs.getD k 0)) := rfl
      obtain ⟨x, hx⟩ : ∃ x, xs.getD k 0 = x := ⟨_, rfl⟩
      obtain ⟨M, hM⟩ : ∃ M, minK xs k = M := ⟨_, rfl⟩
      rw [hx] at ck HS
      rw [hM] at HS ⊢
      clear hx hM
      by_cases hl : x < M
      · have HS2 : Hid (minK xs (k + 1) = x) := by show _ = _; rw [HS.out]; omega
        go_wp2
        go_round
        case rel => exact ⟨k + 1, by omega, by go_num, by rw [HS2.out]⟩
        case measure => simp [intOf]; omega
      · have HS2 : Hid (minK xs (k + 1) = M) := by show _ = _; rw [HS.out]; omega
        go_wp2
        go_round
        case rel => exact ⟨k + 1, by omega, by go_num, by rw [HS2.out]⟩
        case measure => simp [intOf]; omega
    · obtain rfl : m' = k := by omega
      go_wp2
      go_ret
      exact ⟨rfl, rfl⟩

end Go.Proofs.YtofdjapbofagiaaDoor

namespace Go.Proofs.YtofdjapbofagiaaDoor
open Go.RowKit

set_option maxRecDepth 100000 in
set_option maxHeartbeats 1000000 in
theorem CheckPrices_err (A : Option Addr) (n c : Nat) (rows : List (List Int)) (b : Int) (PA : Option Addr) (k cp : Nat) (w : World) (hr : RdG w A n rows) (hn : n ≤ 1000000) (hE : taskE rows b ≠ 0) :
    Calls Tryd.prog 40 #[.agg #[.slice A n c, .int .i64 b], .slice PA k cp] w fun e w' => e = .returned (.tuple #[.int .i64 0, .int .i64 (taskE rows b)]) ∧ Below w.heap.size w w' := by
  have hb0 : Below w.heap.size w (w.alloc (.cells #[.slice A n c, .int .i64 b] 53)) := (Below.refl _ w).alloc (Nat.le_refl _) _
  have CC := Lib.hid (checked_err A n c rows b _ (hr.below hb0) (by omega) hE)
  have HB0 := Lib.hid hb0
  obtain ⟨E, hEe⟩ : ∃ E, taskE rows b = E := ⟨_, rfl⟩
  rw [hEe] at CC hE ⊢
  have h1 : (E != 0) = true := by simpa using hE
  clear hr hb0 hE hEe
  go_enter Tryd.func40, Tryd.ntmps40
  go_wp2_with fail
  refine CC.out.mono ?_
  rintro e w1 ⟨rfl, hb1⟩
  have HB1 : Hid (Below w.heap.size w w1) := HB0.out.trans (hb1.mono HB0.out.size)
  clear hb1 CC
  go_wp2
  go_ret2
  exact ⟨rfl, HB1.out.alloc HB1.out.size _⟩

set_option maxRecDepth 100000 in
set_option maxHeartbeats 1000000 in
theorem CheckPrices_len (ad : Addr) (n c m c' : Nat) (B : Option Addr) (rows : List (List Int)) (b : Int) (PA : Option Addr) (k cp : Nat) (p : List (List Int)) (w : World) (hr : RdG w (some ad) n rows) (hn : 0 < n ∧ n ≤ 1000000) (hm : 0 < m ∧ m ≤ 1000000) (hadb : ad.block < w.heap.size) (hck : w.cell? ad = some (.slice B m c')) (hp : RdG w PA k p) (hk : k ≤ 1000000) (hE : taskE rows b = 0) (hkn : k ≠ n) :
    Calls Tryd.prog 40 #[.agg #[.slice (some ad) n c, .int .i64 b], .slice PA k cp] w fun e w' => e = .returned (.tuple #[.int .i64 0, .int .i64 10]) ∧ Below w.heap.size w w' := by
  have hb0 : Below w.heap.size w (w.alloc (.cells #[.slice (some ad) n c, .int .i64 b] 53)) := (Below.refl _ w).alloc (Nat.le_refl _) _
  have CC := Lib.hid (checked_ok ad n c m c' B rows b _ (hr.below hb0) (by omega) (Nat.lt_of_lt_of_le hadb hb0.size) ((hb0.cell hadb).trans hck) hn.1 hE)
  have HR := Lib.hid (hr.below hb0)
  have HP := Lib.hid (hp.below hb0)
  have HB0 := Lib.hid hb0
  have hne : ((k : Int) != (n : Int)) = true := by rw [bne_iff_ne]; omega
  clear hr hb0 hck hp hE hkn
  go_enter Tryd.func40, Tryd.ntmps40
  go_wp2_with fail
  refine CC.out.mono ?_
  rintro e w1 ⟨rfl, hb1⟩
  have HB1 : Hid (Below w.heap.size w w1) := HB0.out.trans (hb1.mono HB0.out.size)
  have hb2 : Below w1.heap.size w1 (w1.alloc (.cells #[.slice (some ad) n c, .int .i64 b, .int .i64 m] 105)) := (Below.refl _ _).alloc (Nat.le_refl _) _
  have HR1 := Lib.hid ((HR.out.below hb1).below hb2)
  have HP1 := Lib.hid ((HP.out.below hb1).below hb2)
  have HN := Lib.hid (Bk.new w1 105 #[.slice (some ad) n c, .int .i64 b, .int .i64 m])
  have HB2 : Hid (Below w.heap.size w (w1.alloc (.cells #[.slice (some ad) n c, .int .i64 b, .int .i64 m] 105))) := HB1.out.trans (hb2.mono HB1.out.size)
  clear hb1 hb2 CC HR HP HB0
  go_wp2
  go_ret2
  exact ⟨rfl, HB2.out⟩

set_option maxRecDepth 100000 in
set_option maxHeartbeats 1000000 in
theorem CheckPrices_rows (ad : Addr) (n c m c' : Nat) (B : Option Addr) (rows : List (List Int)) (b : Int) (PA : Option Addr) (k cp : Nat) (p : List (List Int)) (w : World) (hr : RdG w (some ad) n rows) (hn : 0 < n ∧ n ≤ 1000000) (hm : 0 < m ∧ m ≤ 1000000) (hadb : ad.block < w.heap.size) (hck : w.cell? ad = some (.slice B m c')) (hp : RdG w PA k p) (hk : k ≤ 1000000) (hE : taskE rows b = 0) (hkn : k = n) (E : Int) (hre : rowsE m (-1000000) 1000000 p = E) (h0 : E ≠ 0) :
    Calls Tryd.prog 40 #[.agg #[.slice (some ad) n c, .int .i64 b], .slice PA k cp] w fun e w' => e = .returned (.tuple #[.int .i64 0, .int .i64 E]) ∧ Below w.heap.size w w' := by
  subst hkn
  have hb0 : Below w.heap.size w (w.alloc (.cells #[.slice (some ad) k c, .int .i64 b] 53)) := (Below.refl _ w).alloc (Nat.le_refl _) _
  have CC := Lib.hid (checked_ok ad k c m c' B rows b _ (hr.below hb0) (by omega) (Nat.lt_of_lt_of_le hadb hb0.size) ((hb0.cell hadb).trans hck) hn.1 hE)
  have HR := Lib.hid (hr.below hb0)
  have HP := Lib.hid (hp.below hb0)
  have HB0 := Lib.hid hb0
  have hne : ((k : Int) != (k : Int)) = false := bne_self_eq_false' _
  have h1 : (E != 0) = true := by simpa using h0
  have HRE := Lib.hid hre
  clear hr hb0 hck hp hE hre h0
  go_enter Tryd.func40, Tryd.ntmps40
  go_wp2_with fail
  refine CC.out.mono ?_
  rintro e w1 ⟨rfl, hb1⟩
  have HB1 : Hid (Below w.heap.size w w1) := HB0.out.trans (hb1.mono HB0.out.size)
  have hb2 : Below w1.heap.size w1 (w1.alloc (.cells #[.slice (some ad) k c, .int .i64 b, .int .i64 m] 105)) := (Below.refl _ _).alloc (Nat.le_refl _) _
  have HR1 := Lib.hid ((HR.out.below hb1).below hb2)
  have HP1 := Lib.hid ((HP.out.below hb1).below hb2)
  have HN := Lib.hid (Bk.new w1 105 #[.slice (some ad) k c, .int .i64 b, .int .i64 m])
  have HB2 : Hid (Below w.heap.size w (w1.alloc (.cells #[.slice (some ad) k c, .int .i64 b, .int .i64 m] 105))) := HB1.out.trans (hb2.mono HB1.out.size)
  clear hb1 hb2 CC HR HP HB0
  go_wp2_with fail
  refine (checkRowsP_any PA k cp p m (-1000000) 1000000 _ HP1.out (by omega)).mono ?_
  rintro e w' ⟨rfl, rfl⟩
  rw [HRE.out]
  go_wp2
  go_ret2
  exact ⟨rfl, HB2.out⟩

set_option maxRecDepth 100000 in
set_option maxHeartbeats 4000000 in
theorem CheckPrices_in (ad : Addr) (n c m c' : Nat) (B : Option Addr) (rows : List (List Int)) (b : Int) (PA : Option Addr) (cp : Nat) (p : List (List Int)) (w : World) (hr : RdG w (some ad) n rows) (hn : 0 < n ∧ n ≤ 1000000) (hm : 0 < m ∧ m ≤ 1000000) (hadb : ad.block < w.heap.size) (hck : w.cell? ad = some (.slice B m c')) (hp : RdG w PA n p) (hE : taskE rows b = 0) (hre : rowsE m (-1000000) 1000000 p = 0) (hbb : 0 ≤ b ∧ b ≤ 1000) (hg : ∀ r ∈ rows, r.length = m ∧ ∀ x ∈ r, 0 ≤ x ∧ x ≤ 255) (E v : Int) (hEe : firstF (rowF rows b m p) n = E) (hv : (if E = 0 then boundF p else 0) = v) :
    Calls Tryd.prog 40 #[.agg #[.slice (some ad) n c, .int .i64 b], .slice PA n cp] w fun e w' => e = .returned (.tuple #[.int .i64 v, .int .i64 E]) ∧ Below w.heap.size w w' := by
  have hb0 : Below w.heap.size w (w.alloc (.cells #[.slice (some ad) n c, .int .i64 b] 53)) := (Below.refl _ w).alloc (Nat.le_refl _) _
  have CC := Lib.hid (checked_ok ad n c m c' B rows b _ (hr.below hb0) (by omega) (Nat.lt_of_lt_of_le hadb hb0.size) ((hb0.cell hadb).trans hck) hn.1 hE)
  have HR := Lib.hid (hr.below hb0)
  have HP := Lib.hid (hp.below hb0)
  have HB0 := Lib.hid hb0
  have hne : ((n : Int) != (n : Int)) = false := bne_self_eq_false' _
  have HRE := Lib.hid hre
  have hpg : ∀ r ∈ p, r.length = m ∧ ∀ x ∈ r, -1000000 ≤ x ∧ x ≤ 1000000 := fun r hr => ⟨(rowsE_zero hre r hr).1, fromB_all (rowsE_zero hre r hr).2⟩
  have HPG := Lib.hid hpg
  have HG := Lib.hid hg
  have HBB := Lib.hid hbb
  have HEE := Lib.hid hEe
  have HVV := Lib.hid hv
  have HPL : Hid (p.length = n) := hp.1
  have hnb : n ≤ 1000000 := hn.2
  have hn0 : 0 < n := hn.1
  have hmb : m ≤ 1000000 := hm.2
  have hm0 : 0 < m := hm.1
  clear hr hb0 hck hp hE hre hpg hg hbb hEe hv hn hm hadb
  go_enter Tryd.func40, Tryd.ntmps40
  go_wp2_with fail
  refine CC.out.mono ?_
  rintro e w1 ⟨rfl, hb1⟩
  have HB1 : Hid (Below w.heap.size w w1) := HB0.out.trans (hb1.mono HB0.out.size)
  have hb2 : Below w1.heap.size w1 (w1.alloc (.cells #[.slice (some ad) n c, .int .i64 b, .int .i64 m] 105)) := (Below.refl _ _).alloc (Nat.le_refl _) _
  have HR1 := Lib.hid ((HR.out.below hb1).below hb2)
  have HP1 := Lib.hid ((HP.out.below hb1).below hb2)
  have HN := Lib.hid (Bk.new w1 105 #[.slice (some ad) n c, .int .i64 b, .int .i64 m])
  have HB2 : Hid (Below w.heap.size w (w1.alloc (.cells #[.slice (some ad) n c, .int .i64 b, .int .i64 m] 105))) := HB1.out.trans (hb2.mono HB1.out.size)
  clear hb1 hb2 CC HR HP HB0
  go_wp2_with fail
  refine (checkRowsP_any PA n cp p m (-1000000) 1000000 _ HP1.out (by omega)).mono ?_
  rintro e w' ⟨rfl, rfl⟩
  rw [HRE.out]
  go_wp2
  obtain ⟨g, hgw⟩ : ∃ g, w1.heap.size = g := ⟨_, rfl⟩
  rw [hgw] at HN
  obtain ⟨W1, hW1⟩ : ∃ W, w1.alloc (.cells #[.slice (some ad) n c, .int .i64 b, .int .i64 m] 105) = W := ⟨_, rfl⟩
  rw [hW1] at HR1 HP1 HN HB2 ⊢
  try rw [hgw]
  clear hW1 hgw hne
  go_loopw [38] (fun i wr => ∃ r : Nat, r ≤ n ∧ i = .int .i64 (r : Int) ∧ Hid (firstF (rowF rows b m p) r = 0) ∧ Hid (Below W1.heap.size W1 wr)) (fun i _ => n - (intOf i).toNat)
  case atStart => exact ⟨0, Nat.zero_le _, rfl, rfl, Below.refl _ _⟩
  case round =>
    obtain ⟨r, hr, rfl, HF, HX⟩ := hrel
    obtain ⟨wo, hwo⟩ : ∃ W, W = wr := ⟨_, rfl⟩
    subst hwo
    by_cases hlt : r < n
    · have hrI : (r : Int) < (n : Int) := by omega
      have hr0 : (0 : Int) ≤ (r : Int) := by omega
      obtain ⟨pd, hPA, hpdb, hc⟩ := (HP1.out.below HX.out).2 (by omega)
      subst hPA
      obtain ⟨Br, mr, cr, hck, hrow, _⟩ := hc r hlt
      have hpr := HPG.out _ (getD_in p r [] (by rw [HPL.out]; exact hlt))
      obtain rfl : mr = m := by rw [← hrow.1, hpr.1]
      obtain ⟨bd, rfl, hbdb, hcb⟩ := hrow.2 hm0
      have HROW := Lib.hid hrow
      clear hc hpr hcb
      go_wp2
      clear hck
      go_loopw [46] (fun i wq => ∃ q : Nat, q ≤ mr ∧ i = .int .i64 (q : Int) ∧ Hid (firstF (cellF rows b mr p r) q = 0) ∧ Hid (Below W1.heap.size W1 wq ∧ Below wo.heap.size wo wq)) (fun i _ => mr - (intOf i).toNat)
      case atStart => exact ⟨0, Nat.zero_le _, rfl, rfl, HX.out, Below.refl _ _⟩
      case round =>
        obtain ⟨q, hq, rfl, HFC, HY⟩ := hrel
        obtain ⟨wi, hwi⟩ : ∃ W, W = wr := ⟨_, rfl⟩
        subst hwi
        by_cases hqm : q < mr
        · have hqI : (q : Int) < (mr : Int) := by omega
          have hq0 : (0 : Int) ≤ (q : Int) := by omega
          have qn := HN.out.later HY.out.1
          have n0 : wi.cell? ⟨g, 0, none⟩ = some (.slice (some ad) n c) := by rw [qn.cell]; rfl
          have n1 : wi.cell? ⟨g, 1, none⟩ = some (.int .i64 b) := by rw [qn.cell]; rfl
          have n2 : wi.cell? ⟨g, 2, none⟩ = some (.int .i64 mr) := by rw [qn.cell]; rfl
          obtain ⟨bd', e1, _, hcb⟩ := (HROW.out.below HY.out.2).2 hm0
          cases e1
          have cx := hcb q hqm
          have C := Lib.hid (maxPrice_any ad n c mr rows b (some pd) cp p r q wi (HR1.out.below HY.out.1) (HP1.out.below HY.out.1) hnb hmb hlt hqm HBB.out HG.out HPG.out)
          have HCF : Hid (cellF rows b mr p r q = if mpF rows b mr p r q < cellV p r q then 19 else 0) := rfl
          obtain ⟨x, hx⟩ : ∃ x, (p.getD r []).getD q 0 = x := ⟨_, rfl⟩
          have hxv : cellV p r q = x := hx
          obtain ⟨M, hM⟩ : ∃ M, mpF rows b mr p r q = M := ⟨_, rfl⟩
          rw [hx] at cx
          rw [hxv, hM] at HCF
          rw [hM] at C
          clear qn hcb hx hxv hM
          by_cases hgt : M < x
          · have HE2 : Hid (E = 19 ∧ v = 0) := by
              have h1 : rowF rows b mr p r = 19 := firstF_stop HFC.out (HCF.out.trans (if_pos hgt)) (by decide) hqm
              have h2 := firstF_stop HF.out h1 (by decide) hlt
              rw [HEE.out] at h2
              exact ⟨h2, by rw [← HVV.out, if_neg (by omega)]⟩
            go_wp2_with fail
            refine C.out.mono ?_
            rintro e w3 ⟨rfl, hb3⟩
            have HX3 : Hid (Below w.heap.size w w3) := (HB2.out.trans (HY.out.1.mono HB2.out.size)).trans (hb3.mono (HB2.out.trans (HY.out.1.mono HB2.out.size)).size)
            clear hb3 C n0 n1 n2 cx
            go_wp2
            go_ret2
            rw [HE2.out.1, HE2.out.2]
            exact ⟨rfl, HX3.out⟩
          · have HF2 : Hid (firstF (cellF rows b mr p r) (q + 1) = 0) := by show _ = _; rw [firstF_step HFC.out, HCF.out, if_neg hgt]
            go_wp2_with fail
            refine C.out.mono ?_
            rintro e w3 ⟨rfl, hb3⟩
            have HY3 : Hid (Below W1.heap.size W1 w3 ∧ Below wo.heap.size wo w3) := ⟨HY.out.1.trans (hb3.mono HY.out.1.size), HY.out.2.trans (hb3.mono HY.out.2.size)⟩
            clear hb3 C n0 n1 n2 cx
            go_wp2
            go_roundw
            case rel => exact ⟨q + 1, by omega, by go_num, HF2.out, HY3.out⟩
            case measure => simp [intOf]; omega
        · obtain rfl : mr = q := by omega
          have HF2 : Hid (firstF (rowF rows b mr p) (r + 1) = 0) := by show _ = _; rw [firstF_step HF.out]; exact HFC.out
          go_wp2
          go_roundw
          case rel => exact ⟨r + 1, by omega, by go_num, HF2.out, HY.out.1⟩
          case measure => simp [intOf]; omega
    · obtain rfl : n = r := by omega
      have HE2 : Hid (E = 0 ∧ v = boundF p) := by
        have h := HF.out
        rw [HEE.out] at h
        exact ⟨h, by rw [← HVV.out, if_pos h]⟩
      obtain ⟨q, hq⟩ : ∃ q, n = q + 1 := ⟨n - 1, by omega⟩
      obtain ⟨pd, hPA, hpdb, hc⟩ := (HP1.out.below HX.out).2 (by omega)
      subst hPA
      obtain ⟨Br, mr, cr, hck, hrow, _⟩ := hc q (by omega)
      have hpr := HPG.out _ (getD_in p q [] (by rw [HPL.out]; omega))
      obtain rfl : mr = m := by rw [← hrow.1, hpr.1]
      have C := Lib.hid (sliceMin_any Br mr cr (p.getD q []) wo hrow ⟨hm0, hmb⟩)
      have HBD : Hid (boundF p = minK (p.getD q []) mr) := by show _ = _; unfold boundF; rw [HPL.out, show n - 1 = q by omega, hpr.1]
      have hz1 : IntKind.i64.wrap ((n : Int) - 1) = (q : Int) := by rw [show (n : Int) - 1 = (q : Int) by omega]; exact IntWalk.i64_in _ (by omega)
      have hz2 : (n : Int) - 1 = (q : Int) := by omega
      have hz3 : (0 : Int) ≤ (q : Int) := by omega
      have hz4 : (q : Int) < (n : Int) := by omega
      clear hc hrow hpr hq
      go_wp2_with fail
      refine C.out.mono ?_
      rintro e w' ⟨rfl, rfl⟩
      go_wp2
      go_ret2
      rw [HE2.out.1, HE2.out.2, HBD.out]
      exact ⟨rfl, HB2.out.trans (HX.out.mono HB2.out.size)⟩

def cpE (rows : List (List Int)) (b : Int) (n : Nat) (p : List (List Int)) : Int := if taskE rows b = 0 then pricesE rows b n (colsOf rows) p else taskE rows b
theorem CheckPrices_any (A : Option Addr) (n c : Nat) (rows : List (List Int)) (b : Int) (PA : Option Addr) (k cp : Nat) (p : List (List Int)) (w : World) (hr : RdG w A n rows) (hn : n ≤ 1000000) (hp : RdG w PA k p) (hk : k ≤ 1000000) :
    Calls Tryd.prog 40 #[.agg #[.slice A n c, .int .i64 b], .slice PA k cp] w fun e w' => e = .returned (.tuple #[.int .i64 (if cpE rows b n p = 0 then boundF p else 0), .int .i64 (cpE rows b n p)]) ∧ Below w.heap.size w w' := by
  by_cases hE : taskE rows b = 0
  · obtain ⟨ad, m, c', B, rfl, hcm, h0, h40, hm0, hm12, hadb, hck, hbb, hg⟩ := task_parts hr hE
    have hc : cpE rows b n p = pricesE rows b n m p := by unfold cpE; rw [if_pos hE, hcm]
    rw [hc]
    by_cases hkn : k = n
    · subst hkn
      have hpl := hp.1
      by_cases hre : rowsE m (-1000000) 1000000 p = 0
      · have e : pricesE rows b k m p = firstF (rowF rows b m p) k := by unfold pricesE; rw [if_pos hpl, if_pos hre]
        rw [e]
        exact CheckPrices_in ad k c m c' B rows b PA cp p w hr ⟨h0, hn⟩ ⟨hm0, by omega⟩ hadb hck hp hE hre hbb hg _ _ rfl rfl
      · have e : pricesE rows b k m p = rowsE m (-1000000) 1000000 p := by unfold pricesE; rw [if_pos hpl, if_neg hre]
        rw [e, if_neg hre]
        exact CheckPrices_rows ad k c m c' B rows b PA k cp p w hr ⟨h0, hn⟩ ⟨hm0, by omega⟩ hadb hck hp hk hE rfl _ rfl hre
    · have e : pricesE rows b n m p = 10 := by unfold pricesE; rw [if_neg (by rw [hp.1]; exact hkn)]
      rw [e, if_neg (by decide)]
      exact CheckPrices_len ad n c m c' B rows b PA k cp p w hr ⟨h0, hn⟩ ⟨hm0, by omega⟩ hadb hck hp hk hE hkn
  · have hc : cpE rows b n p = taskE rows b := by unfold cpE; rw [if_neg hE]
    rw [hc, if_neg hE]
    exact CheckPrices_err A n c rows b PA k cp w hr hn hE

end Go.Proofs.YtofdjapbofagiaaDoor

