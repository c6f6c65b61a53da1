import Derived.Test.YtepcciodhppbnaaE13
namespace Go.Proofs.Ytepcciodhppbnaa
open Go.RowKit

open Go.Shelf
attribute [local go_sem] Oper.semAt_some

theorem bk4 {W : World} {g : Nat} {t : TypeId} {a b c d : Value} (h : Bk W g t #[a, b, c, d]) : W.cell? ⟨g, 0, none⟩ = some a ∧ W.cell? ⟨g, 1, none⟩ = some b ∧ W.cell? ⟨g, 2, none⟩ = some c ∧ W.cell? ⟨g, 3, none⟩ = some d ∧ W.frozen? ⟨g, 0, none⟩ = false ∧ W.frozen? ⟨g, 1, none⟩ = false ∧ W.frozen? ⟨g, 2, none⟩ = false ∧ W.frozen? ⟨g, 3, none⟩ = false :=
  ⟨by rw [h.cell]; rfl, by rw [h.cell]; rfl, by rw [h.cell]; rfl, by rw [h.cell]; rfl, h.frozen 0, h.frozen 1, h.frozen 2, h.frozen 3⟩
theorem bk1 {W : World} {g : Nat} {t : TypeId} {a : Value} (h : Bk W g t #[a]) : W.cell? ⟨g, 0, none⟩ = some a ∧ W.frozen? ⟨g, 0, none⟩ = false := ⟨by rw [h.cell]; rfl, h.frozen 0⟩
theorem bk_own {β : Type} (g : Nat) (t : TypeId) (f : β → Array Value) : Own (fun s W => Bk W g t (f s)) := fun s X Y row hs hg hrow =>
  Bk.grown hs hg (fun e' => by obtain ⟨o, ho, hc⟩ := hrow g e'.symm; rw [show X.heap[g]? = _ from hs] at ho; cases ho; cases hc)

/-- Whether a piece has a time. -/
def holdsT (t : Int) (ns : List (Int × Int)) (i : Nat) : Bool := decide ((ns.getD i (0, 0)).2 ≤ t) && decide (t ≤ (ns.getD (i + 1) (0, 0)).2)
set_option maxHeartbeats 1000000 in
theorem posAt1_any (x1 x2 y1 y2 t : Int) (B : Nat) (w : World) (hb : w.cell? ⟨B, 0, none⟩ = some (.int .i64 t)) (hlt : B < w.heap.size) :
    Calls Try.prog 99 #[.agg #[.int .i64 x1, .int .i64 x2, .int .i64 y1, .int .i64 y2], .pointer (some ⟨B, 0, none⟩)] w fun e w' => e = .returned (.bool (decide (x2 ≤ t) && decide (t ≤ y2))) ∧ w' = w.alloc (.cells #[.int .i64 x1, .int .i64 x2, .int .i64 y1, .int .i64 y2] 129) := by
  have hne : ¬ B = w.heap.size := by omega
  by_cases h1 : x2 ≤ t
  · go_enter Try.func99, Try.ntmps99
    go_wp2
    go_ret
    exact ⟨retB (by simp [h1]), rfl⟩
  · go_enter Try.func99, Try.ntmps99
    go_wp2
    go_ret
    exact ⟨retB (by simp; omega), rfl⟩
theorem length_any (x1 x2 y1 y2 : Int) (w : World) (h : -1000000000000 ≤ x1 ∧ x1 ≤ 1000000000000 ∧ -1000000000000 ≤ y1 ∧ y1 ≤ 1000000000000) :
    Calls Try.prog 107 #[.agg #[.int .i64 x1, .int .i64 x2, .int .i64 y1, .int .i64 y2]] w fun e w' => e = .returned (.int .i64 (y1 - x1)) ∧ Below w.heap.size w w' := by
  have h1 : IntKind.i64.wrap (y1 - x1) = y1 - x1 := IntWalk.i64_in _ (by omega)
  go_enter Try.func107, Try.ntmps107
  go_wp2
  go_ret
  exact ⟨rfl, by go_grown⟩
theorem duration_any (x1 x2 y1 y2 : Int) (w : World) (h : -1000000000000 ≤ x2 ∧ x2 ≤ 1000000000000 ∧ -1000000000000 ≤ y2 ∧ y2 ≤ 1000000000000) :
    Calls Try.prog 106 #[.agg #[.int .i64 x1, .int .i64 x2, .int .i64 y1, .int .i64 y2]] w fun e w' => e = .returned (.int .i64 (y2 - x2)) ∧ Below w.heap.size w w' := by
  have h1 : IntKind.i64.wrap (y2 - x2) = y2 - x2 := IntWalk.i64_in _ (by omega)
  go_enter Try.func106, Try.ntmps106
  go_wp2
  go_ret
  exact ⟨rfl, by go_grown⟩
theorem moved_any (lo hi by' : Int) (w : World) (h : -1000000000000000000 ≤ lo ∧ lo ≤ 1000000000000000000 ∧ -1000000000000000000 ≤ hi ∧ hi ≤ 1000000000000000000 ∧ -1000000000000000000 ≤ by' ∧ by' ≤ 1000000000000000000) :
    Calls Try.prog 129 #[.agg #[.int .i64 lo, .int .i64 hi], .int .i64 by'] w fun e w' => e = .returned (.agg #[.int .i64 (lo + by'), .int .i64 (hi + by')]) ∧ Below w.heap.size w w' := by
  have h1 : IntKind.i64.wrap (lo + by') = lo + by' := IntWalk.i64_in _ (by omega)
  have h2 : IntKind.i64.wrap (hi + by') = hi + by' := IntWalk.i64_in _ (by omega)
  go_enter Try.func129, Try.ntmps129
  go_wp2
  exact bodyPost_ret (v := .agg #[.int .i64 (lo + by'), .int .i64 (hi + by')]) (by simp [results, Try.results129, go_sem]) rfl ⟨rfl, by go_grown⟩
set_option maxHeartbeats 1000000 in
theorem rounded_any (n d : Int) (w : World) (hn : 0 ≤ n ∧ n ≤ 1000000000000000000) (hd : 0 < d ∧ d ≤ 1000000000000000000) :
    Calls Try.prog 128 #[.int .i64 n, .int .i64 d] w fun e w' => e = .returned (.agg #[.int .i64 (n / d), .int .i64 ((n + d - 1) / d)]) ∧ Below w.heap.size w w' := by
  have h1 : IntKind.i64.wrap (n + d) = n + d := IntWalk.i64_in _ (by omega)
  have h2 : IntKind.i64.wrap (n + d - 1) = n + d - 1 := IntWalk.i64_in _ (by omega)
  have hd0 : ¬ d = 0 := by omega
  have hd1 : (d == 0) = false := by rw [beq_eq_false_iff_ne]; omega
  have h3 : 0 ≤ n + d - 1 := by omega
  go_enter Try.func128, Try.ntmps128
  go_wp2
  go_region
  all_goals
    go_wp2
    exact bodyPost_ret (v := .agg #[.int .i64 (n / d), .int .i64 ((n + d - 1) / d)]) (by simp [results, Try.results128, go_sem]) rfl ⟨rfl, by go_grown⟩

/-- The line's box and the result's of a function on a line. -/
structure LInv (w : World) (x1 x2 y1 y2 : Int) (W : World) : Prop where
  line : Bk W w.heap.size 129 #[.int .i64 x1, .int .i64 x2, .int .i64 y1, .int .i64 y2]
  res : ∃ a b : Int, Bk W (w.heap.size + 1) 72 #[.int .i64 a, .int .i64 b]
  bel : Below w.heap.size w W
theorem LInv.drew {w W : World} {x1 x2 y1 y2 : Int} (h : LInv w x1 x2 y1 y2 W) : LInv w x1 x2 y1 y2 W.drew := ⟨h.line.drew, h.res, h.bel.drew⟩
theorem LInv.later {w W w' : World} {x1 x2 y1 y2 : Int} (hb : Below W.heap.size W w') (h : LInv w x1 x2 y1 y2 W) : LInv w x1 x2 y1 y2 w' :=
  ⟨h.line.later hb, by obtain ⟨a, b, k⟩ := h.res; exact ⟨a, b, k.later hb⟩, h.bel.trans (hb.mono h.bel.size)⟩
theorem LInv.cells {w W : World} {x1 x2 y1 y2 : Int} (h : LInv w x1 x2 y1 y2 W) : W.cell? ⟨w.heap.size, 0, none⟩ = some (.int .i64 x1) ∧ W.cell? ⟨w.heap.size, 1, none⟩ = some (.int .i64 x2) ∧ W.cell? ⟨w.heap.size, 2, none⟩ = some (.int .i64 y1) ∧ W.cell? ⟨w.heap.size, 3, none⟩ = some (.int .i64 y2) := by
  obtain ⟨a, b, c, d, _⟩ := bk4 h.line
  exact ⟨a, b, c, d⟩
theorem LInv.set {w W : World} {x1 x2 y1 y2 : Int} (h : LInv w x1 x2 y1 y2 W) (u v : Int) : LInv w x1 x2 y1 y2 ((W.setCell ⟨w.heap.size + 1, 0, none⟩ (.int .i64 u)).setCell ⟨w.heap.size + 1, 1, none⟩ (.int .i64 v)) := by
  obtain ⟨a, b, k⟩ := h.res
  exact ⟨(h.line.far _ (by simp) _).far _ (by simp) _, ⟨u, v, (k.set_ 0 (.int .i64 u)).set_ 1 (.int .i64 v)⟩, (h.bel.setCell (p := ⟨w.heap.size + 1, 0, none⟩) (by simp) _).setCell (p := ⟨w.heap.size + 1, 1, none⟩) (by simp) _⟩
theorem LInv.start (w : World) (x1 x2 y1 y2 : Int) : LInv w x1 x2 y1 y2 ((w.alloc (.cells #[.int .i64 x1, .int .i64 x2, .int .i64 y1, .int .i64 y2] 129)).alloc (.cells #[.int .i64 0, .int .i64 0] 72)) :=
  ⟨(Bk.new w _ _).alloc _, ⟨0, 0, by have h := Bk.new (w.alloc (.cells #[.int .i64 x1, .int .i64 x2, .int .i64 y1, .int .i64 y2] 129)) 72 #[.int .i64 0, .int .i64 0]; simpa using h⟩, below2 _ _ _⟩

def posP (x1 x2 y1 t : Int) : Int := (y1 - x1) * (t - x2)
def posLo (x1 x2 y1 y2 t : Int) : Int := 64 * (posP x1 x2 y1 t % (y2 - x2)) / (y2 - x2) + 64 * (x1 + posP x1 x2 y1 t / (y2 - x2))
def posHi (x1 x2 y1 y2 t : Int) : Int := (64 * (posP x1 x2 y1 t % (y2 - x2)) + (y2 - x2) - 1) / (y2 - x2) + 64 * (x1 + posP x1 x2 y1 t / (y2 - x2))
set_option maxRecDepth 100000 in
set_option maxHeartbeats 2000000 in
theorem positionAt_any (x1 x2 y1 y2 t : Int) (w : World) (hx : 0 ≤ x1 ∧ x1 < y1 ∧ y1 ≤ 1000000) (hy : 0 ≤ x2 ∧ x2 < y2 ∧ y2 ≤ 1000000000000) (ht : x2 ≤ t ∧ t ≤ y2) :
    Calls Try.prog 100 #[.agg #[.int .i64 x1, .int .i64 x2, .int .i64 y1, .int .i64 y2], .int .i64 t] w fun e w' => e = .returned (.agg #[.int .i64 (posLo x1 x2 y1 y2 t), .int .i64 (posHi x1 x2 y1 y2 t)]) ∧ Below w.heap.size w w' := by
  have CL := Lib.hid (fun w => length_any x1 x2 y1 y2 w (by omega))
  have CD := Lib.hid (fun w => duration_any x1 x2 y1 y2 w (by omega))
  have HLo : Hid (posLo x1 x2 y1 y2 t = 64 * (posP x1 x2 y1 t % (y2 - x2)) / (y2 - x2) + 64 * (x1 + posP x1 x2 y1 t / (y2 - x2))) := rfl
  have HHi : Hid (posHi x1 x2 y1 y2 t = (64 * (posP x1 x2 y1 t % (y2 - x2)) + (y2 - x2) - 1) / (y2 - x2) + 64 * (x1 + posP x1 x2 y1 t / (y2 - x2))) := rfl
  have hp1 := mul_bd (a := y1 - x1) (b := t - x2) (A := 1000000) (B := 1000000000000) (by omega) (by omega) (by omega) (by omega)
  have hp0 : 0 ≤ (y1 - x1) * (t - x2) := Int.mul_nonneg (by omega) (by omega)
  have hps : (y1 - x1) * (t - x2) ≤ 1000000 * (y2 - x2) := Int.mul_le_mul (by omega) (by omega) (by omega) (by omega)
  have w1a : IntKind.i64.wrap (t - x2) = t - x2 := IntWalk.i64_in _ (by omega)
  obtain ⟨D, hD⟩ : ∃ D, y2 - x2 = D := ⟨_, rfl⟩
  have hDb : 0 < D ∧ D ≤ 1000000000000 := by omega
  have HP : Hid (posP x1 x2 y1 t = (y1 - x1) * (t - x2)) := rfl
  obtain ⟨L, hL⟩ : ∃ L, y1 - x1 = L := ⟨_, rfl⟩
  rw [hL] at CL hp1 hp0 hps HP
  rw [hD] at CD HLo HHi hps
  obtain ⟨T, hT⟩ : ∃ T, t - x2 = T := ⟨_, rfl⟩
  rw [hT] at hp1 hp0 hps HP
  have w1 : IntKind.i64.wrap (t - x2) = T := by rw [← hT]; exact w1a
  clear w1a
  obtain ⟨p, hp⟩ : ∃ p, L * T = p := ⟨_, rfl⟩
  have w2 : IntKind.i64.wrap (L * T) = p := by rw [← hp]; exact IntWalk.i64_in _ (by omega)
  rw [hp] at hp1 hp0 hps HP
  rw [HP.out] at HLo HHi
  have hD0 : ¬ D = 0 := by omega
  have hD1 : (D == 0) = false := by rw [beq_eq_false_iff_ne]; omega
  have hq := Int.ediv_nonneg hp0 (b := D) (by omega)
  have hq2 : p / D ≤ 1000000 := by
    have := Int.ediv_le_of_le_mul (a := p) (b := 1000000) hDb.1 (by omega)
    exact this
  have hr0 := Int.emod_nonneg p (b := D) (by omega)
  have hr1 := Int.emod_lt_of_pos p hDb.1
  obtain ⟨sm, hsm⟩ : ∃ sm, p / D = sm := ⟨_, rfl⟩
  obtain ⟨rs, hrs⟩ : ∃ rs, p % D = rs := ⟨_, rfl⟩
  have ht1 : p.tdiv D = sm := by rw [Int.tdiv_eq_ediv_of_nonneg hp0, hsm]
  have ht2 : p.tmod D = rs := by rw [Int.tmod_eq_emod_of_nonneg hp0, hrs]
  rw [hsm] at hq hq2 HLo HHi
  rw [hrs] at hr0 hr1 HLo HHi
  have w6 : IntKind.i64.wrap sm = sm := IntWalk.i64_in _ (by omega)
  have w3 : IntKind.i64.wrap (64 * rs) = 64 * rs := IntWalk.i64_in _ (by omega)
  have w4 : IntKind.i64.wrap (x1 + sm) = x1 + sm := IntWalk.i64_in _ (by omega)
  have w5 : IntKind.i64.wrap (64 * (x1 + sm)) = 64 * (x1 + sm) := IntWalk.i64_in _ (by omega)
  have hlo := ediv_bd (64 * rs) D (by omega) hDb.1
  have CR := Lib.hid (fun w => rounded_any (64 * rs) D w (by omega) (by omega))
  have ha0 := Int.ediv_nonneg (a := 64 * rs) (b := D) (by omega) (by omega)
  have ha1 : 64 * rs / D ≤ 64 := Int.ediv_le_of_le_mul hDb.1 (by omega)
  have hb0 := Int.ediv_nonneg (a := 64 * rs + D - 1) (b := D) (by omega) (by omega)
  have hb1 : (64 * rs + D - 1) / D ≤ 65 := Int.ediv_le_of_le_mul hDb.1 (by omega)
  obtain ⟨lo, hlo'⟩ : ∃ lo, 64 * rs / D = lo := ⟨_, rfl⟩
  obtain ⟨hi, hhi'⟩ : ∃ hi, (64 * rs + D - 1) / D = hi := ⟨_, rfl⟩
  rw [hlo'] at CR ha0 ha1 HLo
  rw [hhi'] at CR hb0 hb1 HHi
  have CM := Lib.hid (fun w => moved_any lo hi (64 * (x1 + sm)) w (by omega))
  have HMU := Lib.hid hp
  clear hlo hlo' hhi' hsm hrs HP hp hL hD hT hps hp1 HMU
  go_enter Try.func100, Try.ntmps100
  go_wp2
  have hI := LInv.start w x1 x2 y1 y2
  obtain ⟨W, hW⟩ : ∃ W, ((w.alloc (.cells #[.int .i64 x1, .int .i64 x2, .int .i64 y1, .int .i64 y2] 129)).alloc (.cells #[.int .i64 0, .int .i64 0] 72)) = W := ⟨_, rfl⟩
  rw [hW] at hI ⊢
  clear hW
  go_region_held3 (fun w' : World => (w'.cell? ⟨w.heap.size, 0, none⟩ = some (.int .i64 x1) ∧ w'.cell? ⟨w.heap.size, 1, none⟩ = some (.int .i64 x2) ∧ w'.cell? ⟨w.heap.size, 2, none⟩ = some (.int .i64 y1) ∧ w'.cell? ⟨w.heap.size, 3, none⟩ = some (.int .i64 y2)) ∧ LInv w x1 x2 y1 y2 w') ((refine (fun hI => ⟨LInv.cells hI, hI⟩) ?_; first | assumption | exact LInv.drew (by assumption) | exact LInv.set (by assumption) _ _))
    ((go_at_call 107; refine (CL.out _).mono ?_; rintro e w3 ⟨rfl, hb3⟩; have hI3 := LInv.later hb3 (by first | assumption | (go_split_ands; assumption)); clear hb3))
  all_goals
    clear hI
    obtain ⟨W2, rfl⟩ : ∃ W2, W2 = w3 := ⟨_, rfl⟩
    have hI := hI3
    clear hI3
    go_wp2
    go_region_held3 (fun w' : World => (w'.cell? ⟨w.heap.size, 0, none⟩ = some (.int .i64 x1) ∧ w'.cell? ⟨w.heap.size, 1, none⟩ = some (.int .i64 x2) ∧ w'.cell? ⟨w.heap.size, 2, none⟩ = some (.int .i64 y1) ∧ w'.cell? ⟨w.heap.size, 3, none⟩ = some (.int .i64 y2)) ∧ LInv w x1 x2 y1 y2 w') ((refine (fun hI => ⟨LInv.cells hI, hI⟩) ?_; first | assumption | exact LInv.drew (by assumption) | exact LInv.set (by assumption) _ _))
      ((go_at_call 106; ((with_reducible refine (CD.out _).mono ?_)); rintro e w3 ⟨rfl, hb3⟩; have hI3 := LInv.later hb3 (by first | assumption | (go_split_ands; assumption)); clear hb3))
    all_goals
      clear hI
      obtain ⟨W5, rfl⟩ : ∃ W5, W5 = w3 := ⟨_, rfl⟩
      have hI := hI3
      clear hI3
      go_wp2
      go_region_held3 (fun w' : World => (w'.cell? ⟨w.heap.size, 0, none⟩ = some (.int .i64 x1) ∧ w'.cell? ⟨w.heap.size, 1, none⟩ = some (.int .i64 x2) ∧ w'.cell? ⟨w.heap.size, 2, none⟩ = some (.int .i64 y1) ∧ w'.cell? ⟨w.heap.size, 3, none⟩ = some (.int .i64 y2)) ∧ LInv w x1 x2 y1 y2 w') ((refine (fun hI => ⟨LInv.cells hI, hI⟩) ?_; first | assumption | exact LInv.drew (by assumption) | exact LInv.set (by assumption) _ _)) (first
        | (go_at_call 106; ((with_reducible refine (CD.out _).mono ?_)); rintro e w3 ⟨rfl, hb3⟩; have hI3 := LInv.later hb3 (by first | assumption | (go_split_ands; assumption)); clear hb3)
        | (go_at_call 128; ((with_reducible refine (CR.out _).mono ?_)); rintro e w3 ⟨rfl, hb3⟩; have hI3 := LInv.later hb3 (by first | assumption | (go_split_ands; assumption)); clear hb3)
        | (go_at_call 129; ((with_reducible refine (CM.out _).mono ?_)); rintro e w3 ⟨rfl, hb3⟩; have hI3 := LInv.later hb3 (by first | assumption | (go_split_ands; assumption)); clear hb3; obtain ⟨ra, rb, kr⟩ := hI3.res; have kq := bk2 kr; obtain ⟨e0, e1, k0, k1⟩ := kq))
      all_goals
        go_wp2
        have hIF := LInv.drew (LInv.set hI3 (lo + 64 * (x1 + sm)) (hi + 64 * (x1 + sm)))
        refine bodyPost_ret (v := .agg #[.int .i64 (lo + 64 * (x1 + sm)), .int .i64 (hi + 64 * (x1 + sm))]) (by simp [results, Try.results100, go_sem, e0, e1, k0, k1]) rfl ⟨?_, ?_⟩
        · rw [HLo.out, HHi.out]
        · first | exact hIF.bel | exact (LInv.set hI3 _ _).bel

end Go.Proofs.Ytepcciodhppbnaa
