import Derived.Test.YtpkjkegcdddimaaDoorP2
import Derived.Deep.Cut
namespace Go.Proofs.YtpkjkegcdddimaaDoor
open Go.RowKit

/-- From row k on, the cells of block B hold slices of whole blocks that lie between B and N and hold the rows of X. -/
def RowsOk (B n cols : Nat) (X : List (List Int)) (k N : Nat) (W : World) : Prop :=
  ∀ j, k ≤ j → j < n → ∃ g, W.cell? ⟨B, j, none⟩ = some (.slice (some ⟨g, 0, none⟩) cols cols) ∧ B < g ∧ g < N ∧ Bk W g 3 (iArr (X.getD j []))
def RestI (w : World) (A : Option Addr) (n c cols : Nat) (b : Int) (X : List (List Int)) (k : Nat) (wr : World) : Prop :=
  (∃ cur, Bk wr (w.heap.size + 1) 28 cur ∧ cur.size = n) ∧ RowsOk (w.heap.size + 1) n cols X k wr.heap.size wr ∧ Bk wr w.heap.size 95 #[.slice A n c, .int .i64 b, .int .i64 cols] ∧ Below w.heap.size w wr
def RestRes (w : World) (n : Nat) (X : List (List Int)) (e : Ending) (w' : World) : Prop :=
  (∃ A', e = .returned (.slice A' n n) ∧ RdG w' A' n X) ∧ Below w.heap.size w w'

theorem lastRow_at (may : Nat → Bool) (l : List Int) (q : Nat) (h : q < l.length) : (lastRow may l).getD q 0 = l.getD q 0 + if may q = true then 0 else 50200 := by
  rw [List.getD_eq_getElem?_getD, List.getElem?_eq_getElem (by simp [lastRow, h])]
  simp [lastRow]
theorem stepRow_at (b : Int) (cols : Nat) (next l : List Int) (q : Nat) (h : q < l.length) : (stepRow b cols next l).getD q 0 = l.getD q 0 + (chp next b q cols).2 := by
  rw [List.getD_eq_getElem?_getD, List.getElem?_eq_getElem (by simp [stepRow, h])]
  simp [stepRow]
/-- The first q numbers of a row, then zeros. -/
def padR (l : List Int) (q cols : Nat) : List Int := (List.range cols).map fun i => if i < q then l.getD i 0 else 0
theorem padR_length (l : List Int) (q cols : Nat) : (padR l q cols).length = cols := by simp [padR]
theorem padR_zero (l : List Int) (cols : Nat) : padR l 0 cols = List.replicate cols 0 := by
  apply List.ext_getElem <;> simp [padR]
theorem padR_all (l : List Int) (cols : Nat) (h : l.length = cols) : padR l cols cols = l := by
  apply List.ext_getElem
  · simp [padR, h]
  · intro i h1 h2
    simp [padR] at h1 ⊢
    rw [if_pos h1, List.getElem?_eq_getElem h2]; rfl
theorem padR_set (l : List Int) (q cols : Nat) : (padR l q cols).set q (l.getD q 0) = padR l (q + 1) cols := by
  apply List.ext_getElem
  · simp [padR]
  · intro i h1 h2
    simp [padR] at h1
    rw [List.getElem_set]
    by_cases e : q = i
    · subst e; simp [padR]
    · rw [if_neg e]
      simp only [padR, List.getElem_map, List.getElem_range]
      by_cases hi : i < q
      · rw [if_pos hi, if_pos (by omega)]
      · rw [if_neg hi, if_neg (by omega)]

def InnerI (w : World) (A : Option Addr) (n c cols : Nat) (b : Int) (X : List (List Int)) (j C q : Nat) (wr : World) : Prop :=
  Bk wr C 3 (iArr (padR (X.getD j []) q cols)) ∧ (∃ cur, Bk wr (w.heap.size + 1) 28 cur ∧ cur.size = n ∧ cur[j]? = some (.slice (some ⟨C, 0, none⟩) cols cols)) ∧ RowsOk (w.heap.size + 1) n cols X (j + 1) C wr ∧ Bk wr w.heap.size 95 #[.slice A n c, .int .i64 b, .int .i64 cols] ∧ Below w.heap.size w wr ∧ w.heap.size + 1 < C
theorem RowsOk.keep {B n cols : Nat} {X : List (List Int)} {k N N' : Nat} {W W' : World} (h : RowsOk B n cols X k N W) (hN : N ≤ N') (hc : ∀ j, k ≤ j → j < n → W'.cell? ⟨B, j, none⟩ = W.cell? ⟨B, j, none⟩) (hg : ∀ g, B < g → g < N → W'.heap[g]? = W.heap[g]?) : RowsOk B n cols X k N' W' := by
  intro j hj hjn
  obtain ⟨g, h1, h2, h3, h4⟩ := h j hj hjn
  exact ⟨g, (hc j hj hjn).trans h1, h2, by omega, (hg g h2 h3).trans h4⟩
theorem InnerI.lt {w : World} {A : Option Addr} {n c cols : Nat} {b : Int} {X : List (List Int)} {j C q : Nat} {wr : World} (h : InnerI w A n c cols b X j C q wr) : C < wr.heap.size := h.1.lt
theorem InnerI.step {w : World} {A : Option Addr} {n c cols : Nat} {b : Int} {X : List (List Int)} {j C q : Nat} {wr w' : World} {x : Int} (h : InnerI w A n c cols b X j C q wr) (hb : Below wr.heap.size wr w') (hx : (X.getD j []).getD q 0 = x) :
    InnerI w A n c cols b X j C (q + 1) (w'.setCell ⟨C, q, none⟩ (.int .i64 x)) := by
  have hC := h.lt
  obtain ⟨h1, ⟨cur, h2, h3, h4⟩, h5, h6, h7, h8⟩ := h
  have hfar : ∀ g, g ≠ C → g < wr.heap.size → (w'.setCell ⟨C, q, none⟩ (.int .i64 x)).heap[g]? = wr.heap[g]? := fun g hg hlt => (Below.heap_setCell _ _ _ _ hg).trans (hb.block g hlt)
  refine ⟨?_, ⟨cur, (hfar _ (by omega) h2.lt).trans h2, h3, h4⟩, h5.keep (Nat.le_refl _) (fun i _ _ => ?_) (fun g _ hg => hfar g (by omega) (by omega)), (hfar _ (by omega) h6.lt).trans h6, (h7.trans (hb.mono h7.size)).setCell (p := ⟨C, q, none⟩) (by dsimp only; omega) _, h8⟩
  · have := (h1.later hb).set_ q (.int .i64 x)
    rw [iArr_set, ← hx, padR_set, hx] at this
    exact this
  · have e := hfar (w.heap.size + 1) (by omega) h2.lt
    simp only [World.cell?, e]

theorem InnerI.done_ {w : World} {A : Option Addr} {n c cols : Nat} {b : Int} {X : List (List Int)} {j C : Nat} {wr : World} (h : InnerI w A n c cols b X j C cols wr) (hl : (X.getD j []).length = cols) : RestI w A n c cols b X j wr := by
  have hC := h.lt
  obtain ⟨h1, ⟨cur, h2, h3, h4⟩, h5, h6, h7, h8⟩ := h
  refine ⟨⟨cur, h2, h3⟩, fun i hi hin => ?_, h6, h7⟩
  by_cases e : i = j
  · subst e
    rw [padR_all _ _ hl] at h1
    exact ⟨C, by rw [h2.cell]; exact h4, h8, hC, h1⟩
  · obtain ⟨g, k1, k2, k3, k4⟩ := h5 i (by omega) hin
    exact ⟨g, k1, k2, by omega, k4⟩

theorem RowsOk.rdG {B n cols : Nat} {X : List (List Int)} {N : Nat} {W : World} (h : RowsOk B n cols X 0 N W) (hB : B < W.heap.size) (hX : X.length = n) (hl : ∀ j, j < n → (X.getD j []).length = cols) (hcols : cols ≤ 1000) : RdG W (some ⟨B, 0, none⟩) n X := by
  refine ⟨hX, fun _ => ⟨_, rfl, hB, fun j hj => ?_⟩⟩
  obtain ⟨g, h1, h2, h3, h4⟩ := h j (Nat.zero_le _) hj
  exact ⟨_, _, _, by rw [addOff]; exact h1, rd_of_bk h4 (hl j hj), by omega⟩

set_option maxRecDepth 100000 in
set_option maxHeartbeats 4000000 in
theorem restsTo_any (A : Option Addr) (n c cols : Nat) (rows : List (List Int)) (b : Int) (p1 p2 : Addr) (may : Nat → Bool) (w : World) (hr : RdG w A n rows) (hn : 0 < n ∧ n ≤ 40) (hcols : 0 < cols ∧ cols ≤ 12)
    (hrow : ∀ r ∈ rows, r.length = cols ∧ ∀ x ∈ r, 0 ≤ x ∧ x ≤ 255) (hb : 0 ≤ b ∧ b ≤ 1000)
    (hm : ∀ (k : Nat) (W : World), k < cols → Below w.heap.size w W → Calls Tryd.prog 68 #[.int .i64 k, .pointer (some p1), .pointer (some p2)] W fun e w' => e = .returned (.bool (may k)) ∧ W = w') :
    Calls Tryd.prog 67 #[.agg #[.slice A n c, .int .i64 b, .int .i64 cols], .func (.func 68) #[] #[.pointer (some p1), .pointer (some p2)]] w (RestRes w n (restsL may b cols rows)) := by
  have HG := Lib.hid hr
  have HR := Lib.hid hrow
  have HM := Lib.hid hm
  have HLen : Hid (rows.length = n) := hr.1
  have hmk := make_rows n (by omega)
  have hmi := make_ints cols (by omega)
  obtain ⟨X, hX⟩ : ∃ X, restsL may b cols rows = X := ⟨_, rfl⟩
  have HXlen : Hid (X.length = n) := by show _ = _; rw [← hX, restsL_length]; exact hr.1
  have HXl : Hid (∀ j, j < n → (X.getD j []).length = cols) := fun j hj => by rw [← hX]; exact restsL_rowlen may b cols rows (fun r h => (hrow r h).1) j (by rw [hr.1]; exact hj)
  have HXb : Hid (∀ j, j < n → ∀ x ∈ X.getD j [], 0 ≤ x ∧ x ≤ 200000) := fun j hj x hx => by
    have hmem : X.getD j [] ∈ restsL may b cols rows := by
      rw [← hX, List.getD_eq_getElem?_getD, List.getElem?_eq_getElem (by rw [restsL_length, hr.1]; exact hj)]
      exact List.getElem_mem _
    have := restsL_bd may b cols hb rows hrow (by rw [hr.1]; omega) _ hmem x hx
    have := hr.1
    omega
  have HXr : Hid (∀ j, j < n → X.getD j [] = if j + 1 = n then lastRow may (rows.getD j []) else stepRow b cols (X.getD (j + 1) []) (rows.getD j [])) := fun j hj => by
    have := restsL_row may b cols rows j (by rw [hr.1]; exact hj)
    rw [hX, hr.1] at this
    exact this
  rw [hX]
  clear hr hrow hm hX
  go_enter Tryd.func67, Tryd.ntmps67
  go_wp2
  go_loopw [7] (fun i wr => ∃ k : Nat, k ≤ n ∧ i = .int .i64 ((k : Int) - 1) ∧ Hid (RestI w A n c cols b X k wr)) (fun i _ => (intOf i + 1).toNat)
  case atStart =>
    refine ⟨n, Nat.le_refl _, rfl, ⟨(List.replicate n (Value.slice none 0 0)).toArray, ?_, by simp⟩, fun j h1 h2 => by omega, (Bk.new w _ _).alloc _, ((Below.refl _ w).alloc (Nat.le_refl _) _).alloc (by simp) _⟩
    have := Bk.new (w.alloc (.cells #[.slice A n c, .int .i64 b, .int .i64 cols] 95)) 28 (List.replicate n (Value.slice none 0 0)).toArray
    simpa using this
  case round =>
    obtain ⟨k, hk, rfl, HI⟩ := hrel
    cases k with
    | zero =>
      obtain ⟨⟨cur, hB, hcs⟩, hrows, hbox, hbel⟩ := HI.out
      have HB := Lib.hid hB
      have HRW := Lib.hid hrows
      have HBL := Lib.hid hbel
      clear hB hrows hbox hbel hcs HI
      go_wp2
      go_ret
      exact ⟨⟨_, rfl, HRW.out.rdG HB.out.lt HXlen.out HXl.out (by omega)⟩, HBL.out⟩
    | succ j =>
      have e0 : (((j + 1 : Nat) : Int) - 1) = (j : Int) := by omega
      rw [e0]
      clear e0
      obtain ⟨⟨cur, hB, hcs⟩, hrows, hbox, hbel⟩ := HI.out
      clear HI
      have c0 : wr.cell? ⟨w.heap.size, 0, none⟩ = some (.slice A n c) := by rw [hbox.cell]; rfl
      have c1 : wr.cell? ⟨w.heap.size, 1, none⟩ = some (.int .i64 b) := by rw [hbox.cell]; rfl
      have c2 : wr.cell? ⟨w.heap.size, 2, none⟩ = some (.int .i64 cols) := by rw [hbox.cell]; rfl
      have hBlt := hB.lt
      have hjn : j < n := by omega
      have hold : wr.cell? ⟨w.heap.size + 1, j, none⟩ = some cur[j] := by rw [hB.cell]; exact Array.getElem?_eq_getElem (by omega)
      have hfr : wr.frozen? ⟨w.heap.size + 1, j, none⟩ = false := hB.frozen j
      obtain ⟨o, ho⟩ : ∃ o, cur[j] = o := ⟨_, rfl⟩
      rw [ho] at hold
      clear ho
      have HI0 : Hid (InnerI w A n c cols b X j wr.heap.size 0 ((wr.setCell ⟨w.heap.size + 1, j, none⟩ (.slice (some ⟨wr.heap.size, 0, none⟩) cols cols)).alloc (.cells (iArr (List.replicate cols 0)) 3))) := by
        have hz : (wr.setCell ⟨w.heap.size + 1, j, none⟩ (.slice (some ⟨wr.heap.size, 0, none⟩) cols cols)).heap.size = wr.heap.size := by simp
        have hfar : ∀ g, g ≠ w.heap.size + 1 → g < wr.heap.size → ((wr.setCell ⟨w.heap.size + 1, j, none⟩ (.slice (some ⟨wr.heap.size, 0, none⟩) cols cols)).alloc (.cells (iArr (List.replicate cols 0)) 3)).heap[g]? = wr.heap[g]? := fun g hg hlt => (Below.heap_alloc _ _ _ (by rw [hz]; exact hlt)).trans (Below.heap_setCell _ _ _ _ hg)
        refine ⟨?_, ⟨_, (hB.set_ j _).alloc _, by simp [hcs], by rw [Array.getElem?_setIfInBounds, if_pos rfl, if_pos (by omega)]⟩, hrows.keep (Nat.le_refl _) (fun i hi hin => ?_) (fun g hg hlt => hfar g (by omega) hlt), (hfar _ (by omega) hbox.lt).trans hbox, (hbel.setCell (p := ⟨w.heap.size + 1, j, none⟩) (by dsimp only; omega) _).alloc (by rw [hz]; exact hbel.size) _, hBlt⟩
        · rw [padR_zero]
          have := Bk.new (wr.setCell ⟨w.heap.size + 1, j, none⟩ (.slice (some ⟨wr.heap.size, 0, none⟩) cols cols)) 3 (iArr (List.replicate cols 0))
          rw [hz] at this
          exact this
        · rw [World.cell?_alloc_lt _ _ _ (by rw [hz]; exact hBlt)]
          exact World.cell?_setCell_other _ _ _ _ (by intro e; injection e; omega)
      obtain ⟨ad, hA, hadb, hca⟩ := HG.out.2 (by omega)
      subst hA
      obtain ⟨Bj, m, cj, hck0, hrd, _⟩ := hca j hjn
      clear hca
      have hrl : rows.getD j [] ∈ rows := by
        rw [List.getD_eq_getElem?_getD, List.getElem?_eq_getElem (by rw [HLen.out]; exact hjn)]
        exact List.getElem_mem _
      obtain rfl : m = cols := by rw [← hrd.1]; exact (HR.out _ hrl).1
      have HRD := Lib.hid hrd
      have HRV := Lib.hid (HR.out _ hrl).2
      clear hrd hrl
      clear hB hrows hbox hbel hcs
      go_upto_region 7 with (fail)
      obtain ⟨W2, hW2⟩ : ∃ W2, ((wr.setCell ⟨w.heap.size + 1, j, none⟩ (.slice (some ⟨wr.heap.size, 0, none⟩) m m)).alloc (.cells (iArr (List.replicate m 0)) 3)) = W2 := ⟨_, rfl⟩
      rw [hW2] at HI0 ⊢
      clear hW2 c0 c1 c2 hold hfr
      have c0 : W2.cell? ⟨w.heap.size, 0, none⟩ = some (.slice (some ad) n c) := by rw [HI0.out.2.2.2.1.cell]; rfl
      have hck : W2.cell? (ad.add j) = some (.slice Bj m cj) := (HI0.out.2.2.2.2.1.cell (by rw [addBlock]; exact hadb)).trans hck0
      clear hck0 hadb
      obtain ⟨adj, hBj, hadj, hcq⟩ := HRD.out.2 (by omega)
      subst hBj
      have HCQ := Lib.hid hcq
      clear hcq
      obtain ⟨C, hC⟩ : ∃ C, wr.heap.size = C := ⟨_, rfl⟩
      rw [hC] at HI0 hBlt ⊢
      clear hC
      go_wp2
      go_loopw [37] (fun i wr2 => ∃ q : Nat, q ≤ m ∧ i = .int .i64 q ∧ Hid (InnerI w (some ad) n c m b X j C q wr2)) (fun i _ => m - (intOf i).toNat)
      case atStart => exact ⟨0, Nat.zero_le _, rfl, HI0.out⟩
      case round =>
        obtain ⟨q, hq, rfl, HI⟩ := hrel
        by_cases hlt : q < m
        · have hqI : (q : Int) < (m : Int) := by omega
          have hvq := (HI.out.2.2.2.2.1.cell (p := adj.add q) (by rw [addBlock]; exact hadj)).trans (HCQ.out q hlt)
          have hvb : 0 ≤ (rows.getD j []).getD q 0 ∧ (rows.getD j []).getD q 0 ≤ 255 := HRV.out _ (by
            rw [List.getD_eq_getElem?_getD (l := rows.getD j []), List.getElem?_eq_getElem (by rw [HRD.out.1]; exact hlt)]
            exact List.getElem_mem _)
          obtain ⟨cur, hB, hcs, hcj⟩ := HI.out.2.1
          have hcB : wr.cell? ⟨w.heap.size + 1, j, none⟩ = some (.slice (some ⟨C, 0, none⟩) m m) := by rw [hB.cell]; exact hcj
          have hcC : wr.cell? ⟨C, q, none⟩ = some (.int .i64 ((padR (X.getD j []) q m).getD q 0)) := by rw [HI.out.1.cell]; exact iArr_at _ _ (by rw [padR_length]; exact hlt)
          have hfC : wr.frozen? ⟨C, q, none⟩ = false := HI.out.1.frozen q
          obtain ⟨o, ho⟩ : ∃ o, (padR (X.getD j []) q m).getD q 0 = o := ⟨_, rfl⟩
          rw [ho] at hcC
          have hXv : Hid ((X.getD j []).getD q 0 = (rows.getD j []).getD q 0 + if j + 1 = n then (if may q = true then 0 else 50200) else (chp (X.getD (j + 1) []) b q m).2) := by
            show _ = _
            rw [HXr.out j hjn]
            by_cases e : j + 1 = n
            · rw [if_pos e, if_pos e, lastRow_at _ _ _ (by rw [HRD.out.1]; exact hlt)]
            · rw [if_neg e, if_neg e, stepRow_at _ _ _ _ _ (by rw [HRD.out.1]; exact hlt)]
          obtain ⟨v, hv⟩ : ∃ v, (rows.getD j []).getD q 0 = v := ⟨_, rfl⟩
          rw [hv] at hvq hvb hXv
          clear ho hcj hcs hB hv
          by_cases hl : j + 1 = n
          · have hl1 : decide ((j : Int) < (n : Int) - 1) = false := decide_eq_false (by omega)
            have hl2 : ¬ (j : Int) < (n : Int) - 1 := by omega
            rw [if_pos hl] at hXv
            have CM := Lib.hid (HM.out q wr hlt HI.out.2.2.2.2.1)
            have HL := Lib.hid hl
            clear hl
            cases hmq : may q with
            | true =>
              rw [hmq] at hXv CM
              have HX : Hid ((X.getD j []).getD q 0 = v) := by show _ = _; rw [hXv.out]; simp
              clear hXv hmq
              have hw0 : IntKind.i64.wrap (v + 0) = v := by rw [Int.add_zero]; exact IntWalk.i64_in _ (by omega)
              have hw1 : IntKind.i64.wrap v = v := IntWalk.i64_in _ (by omega)
              go_wp2_with (go_at_call 68; refine CM.out.mono ?_; rintro e w' ⟨rfl, rfl⟩)
              go_roundw
              case rel => exact ⟨q + 1, by omega, by go_num, HI.out.step (Below.refl _ _) HX.out⟩
              case measure => simp [intOf]; omega
            | false =>
              rw [hmq] at hXv CM
              have HX : Hid ((X.getD j []).getD q 0 = v + 50200) := by show _ = _; rw [hXv.out]; simp
              clear hXv hmq
              have hw0 : IntKind.i64.wrap (v + 50200) = v + 50200 := IntWalk.i64_in _ (by omega)
              go_wp2_with (go_at_call 68; refine CM.out.mono ?_; rintro e w' ⟨rfl, rfl⟩)
              go_roundw
              case rel => exact ⟨q + 1, by omega, by go_num, HI.out.step (Below.refl _ _) HX.out⟩
              case measure => simp [intOf]; omega
          · have hl1 : decide ((j : Int) < (n : Int) - 1) = true := decide_eq_true (by omega)
            have hl2 : (j : Int) < (n : Int) - 1 := by omega
            rw [if_neg hl] at hXv
            obtain ⟨g, hg1, hg2, hg3, hg4⟩ := HI.out.2.2.1 (j + 1) (Nat.le_refl _) (by omega)
            have d0 : wr.cell? ⟨w.heap.size, 0, none⟩ = some (.slice (some ad) n c) := by rw [HI.out.2.2.2.1.cell]; rfl
            have d1 : wr.cell? ⟨w.heap.size, 1, none⟩ = some (.int .i64 b) := by rw [HI.out.2.2.2.1.cell]; rfl
            have d2 : wr.cell? ⟨w.heap.size, 2, none⟩ = some (.int .i64 m) := by rw [HI.out.2.2.2.1.cell]; rfl
            have hXj := HXl.out (j + 1) (by omega)
            have hXjb := HXb.out (j + 1) (by omega)
            have HRDI : Hid (RdI wr (some ⟨g, 0, none⟩) m (X.getD (j + 1) [])) := rd_of_bk hg4 hXj
            have hsp := chp_spec (X.getD (j + 1) []) b 200000 q m hlt hXj hb.1 (by omega) hXjb
            have HC : Hid (∀ W', Below wr.heap.size wr W' → Calls Tryd.prog 77 #[.agg #[.slice (some ad) n c, .int .i64 b, .int .i64 m], .slice (some ⟨g, 0, none⟩) m m, .int .i64 q] W' fun e w' =>
                e = .returned (.tuple #[.int .i64 (chp (X.getD (j + 1) []) b q m).1, .int .i64 (chp (X.getD (j + 1) []) b q m).2]) ∧ Below W'.heap.size W' w') := fun W' hW' =>
              cheapest_any _ b m q _ m (X.getD (j + 1) []) W' hlt (by omega) (HRDI.out.below hW') ⟨hb.1, by omega⟩ (fun x hx => by have := hXjb x hx; omega)
            obtain ⟨⟨y, a⟩, hya⟩ : ∃ p, chp (X.getD (j + 1) []) b q m = p := ⟨_, rfl⟩
            rw [hya] at HC hXv hsp
            dsimp only at HC hXv hsp
            have hab : 0 ≤ a ∧ a ≤ 201000 := by have := hsp.2.2; omega
            have HX := Lib.hid hXv.out
            have HS0 : Hid (((fun w' : World => w'.cell? ⟨w.heap.size, 0, none⟩ = some (.slice (some ad) n c) ∧ w'.cell? ⟨w.heap.size, 1, none⟩ = some (.int .i64 b) ∧ w'.cell? ⟨w.heap.size, 2, none⟩ = some (.int .i64 m) ∧ w'.cell? ⟨w.heap.size + 1, j + 1, none⟩ = some (.slice (some ⟨g, 0, none⟩) m m) ∧ Below wr.heap.size wr w')) wr.drew) := ⟨d0, d1, d2, hg1, (Below.refl _ _).drew⟩
            have HSB : Hid (∀ (W W' : World), ((fun w' : World => w'.cell? ⟨w.heap.size, 0, none⟩ = some (.slice (some ad) n c) ∧ w'.cell? ⟨w.heap.size, 1, none⟩ = some (.int .i64 b) ∧ w'.cell? ⟨w.heap.size, 2, none⟩ = some (.int .i64 m) ∧ w'.cell? ⟨w.heap.size + 1, j + 1, none⟩ = some (.slice (some ⟨g, 0, none⟩) m m) ∧ Below wr.heap.size wr w')) W → Below W.heap.size W W' → ((fun w' : World => w'.cell? ⟨w.heap.size, 0, none⟩ = some (.slice (some ad) n c) ∧ w'.cell? ⟨w.heap.size, 1, none⟩ = some (.int .i64 b) ∧ w'.cell? ⟨w.heap.size, 2, none⟩ = some (.int .i64 m) ∧ w'.cell? ⟨w.heap.size + 1, j + 1, none⟩ = some (.slice (some ⟨g, 0, none⟩) m m) ∧ Below wr.heap.size wr w')) W') := by
              rintro W W' ⟨e1, e2, e3, e4, e5⟩ hb'
              have k1 := World.block_lt_of_cell? _ _ e1
              have k2 := World.block_lt_of_cell? _ _ e4
              exact ⟨(hb'.cell k1).trans e1, (hb'.cell (p := ⟨w.heap.size, 1, none⟩) k1).trans e2, (hb'.cell (p := ⟨w.heap.size, 2, none⟩) k1).trans e3, (hb'.cell k2).trans e4, e5.trans (hb'.mono e5.size)⟩
            have hz2 : IntKind.i64.wrap ((j : Int) + 1) = (j : Int) + 1 := IntWalk.i64_in _ (by omega)
            have hz3 : (0 : Int) ≤ (j : Int) + 1 := by omega
            have hz4 : ((j : Int) + 1).toNat = j + 1 := by omega
            have hz5 : (j : Int) + 1 < (n : Int) := by omega
            have hwva : IntKind.i64.wrap (v + a) = v + a := IntWalk.i64_in _ (by omega)
            have hsB : w.heap.size + 1 < wr.heap.size := by have := HI.out.2.2.2.2.2; have := HI.lt; omega
            have hsC : C < wr.heap.size := HI.lt
            clear hg1 hg2 hg3 hg4 d0 d1 d2 hXj hXjb hsp hya hXv
            go_wp2_with fail
            refine wp_region_held_drew (S := (fun w' : World => w'.cell? ⟨w.heap.size, 0, none⟩ = some (.slice (some ad) n c) ∧ w'.cell? ⟨w.heap.size, 1, none⟩ = some (.int .i64 b) ∧ w'.cell? ⟨w.heap.size, 2, none⟩ = some (.int .i64 m) ∧ w'.cell? ⟨w.heap.size + 1, j + 1, none⟩ = some (.slice (some ⟨g, 0, none⟩) m m) ∧ Below wr.heap.size wr w')) (by kernel_rfl) ?_ ?_
            · first | (with_reducible assumption) | exact HSB.out _ _ hHeldOld hbc | exact HS0.out
            intro hHeld
            refine wpAnyH_take (i := 0) (v := ?_) rfl (by kernel_rfl) (by kernel_rfl) (by kernel_rfl) (fun _ _ _ h => h) (Or.inl ⟨by rfl, ?_⟩) (by assumption) ?_
            rotate_left
            · intro w hSw; (try dsimp only at hSw); go_simp; (try (with_reducible rfl))
            try simp only [List.getElem_toArray, List.getElem_cons_succ, List.getElem_cons_zero, Act.put, List.setIfInBounds_toArray, List.set_cons_zero, List.set_cons_succ]
            refine wpAnyH_take (i := 1) (v := ?_) rfl (by kernel_rfl) (by kernel_rfl) (by kernel_rfl) (fun _ _ _ h => h) (Or.inl ⟨by rfl, ?_⟩) (by assumption) ?_
            rotate_left
            · intro w hSw; (try dsimp only at hSw); go_simp; (try (with_reducible rfl))
            try simp only [List.getElem_toArray, List.getElem_cons_succ, List.getElem_cons_zero, Act.put, List.setIfInBounds_toArray, List.set_cons_zero, List.set_cons_succ]
            refine wpAnyH_take (i := 2) (v := ?_) rfl (by kernel_rfl) (by kernel_rfl) (by kernel_rfl) (fun _ _ _ h => h) (Or.inl ⟨by rfl, ?_⟩) (by assumption) ?_
            rotate_left
            · intro w hSw; (try dsimp only at hSw); go_simp; (try (with_reducible rfl))
            try simp only [List.getElem_toArray, List.getElem_cons_succ, List.getElem_cons_zero, Act.put, List.setIfInBounds_toArray, List.set_cons_zero, List.set_cons_succ]
            refine wpAnyH_take (i := 3) (v := ?_) rfl (by kernel_rfl) (by kernel_rfl) (by kernel_rfl) (fun _ _ _ h => h) (Or.inl ⟨by rfl, ?_⟩) (by assumption) ?_
            rotate_left
            · intro w hSw; (try dsimp only at hSw); go_simp; (try (with_reducible rfl))
            try simp only [List.getElem_toArray, List.getElem_cons_succ, List.getElem_cons_zero, Act.put, List.setIfInBounds_toArray, List.set_cons_zero, List.set_cons_succ]
            refine wpAnyH_take (i := 4) (v := ?_) rfl (by kernel_rfl) (by kernel_rfl) (by kernel_rfl) (fun _ _ _ h => h) (Or.inl ⟨by rfl, ?_⟩) (by assumption) ?_
            rotate_left
            · intro w hSw; (try dsimp only at hSw); go_simp; (try (with_reducible rfl))
            try simp only [List.getElem_toArray, List.getElem_cons_succ, List.getElem_cons_zero, Act.put, List.setIfInBounds_toArray, List.set_cons_zero, List.set_cons_succ]
            refine wpAnyH_take (i := 5) (v := ?_) rfl (by kernel_rfl) (by kernel_rfl) (by kernel_rfl) (fun _ _ _ h => h) (Or.inl ⟨by rfl, ?_⟩) (by assumption) ?_
            rotate_left
            · intro w hSw; (try dsimp only at hSw); go_simp; (try (with_reducible rfl))
            try simp only [List.getElem_toArray, List.getElem_cons_succ, List.getElem_cons_zero, Act.put, List.setIfInBounds_toArray, List.set_cons_zero, List.set_cons_succ]
            refine wpAnyH_take (i := 6) (v := ?_) rfl (by kernel_rfl) (by kernel_rfl) (by kernel_rfl) (fun _ _ _ h => h) (Or.inl ⟨by rfl, ?_⟩) (by assumption) ?_
            rotate_left
            · intro w hSw; (try dsimp only at hSw); go_simp; (try (with_reducible rfl))
            try simp only [List.getElem_toArray, List.getElem_cons_succ, List.getElem_cons_zero, Act.put, List.setIfInBounds_toArray, List.set_cons_zero, List.set_cons_succ]
            refine wpAnyH_ready (rs := [7]) (by kernel_rfl) (by simp) ?_
            refine AllReadyH.cons rfl (fun K hK => ?_) AllReadyH.nil
            go_simp
            have hHeldOld := hHeld; go_at_call 77; refine (HC.out _ hHeldOld.2.2.2.2).mono ?_; rintro e w' ⟨rfl, hbc⟩
            go_wp2_with fail
            refine hK.out _ _ ?_ (fun hHeld => ?_)
            · clear hK K; first | (with_reducible assumption) | exact HSB.out _ _ hHeldOld hbc | exact HS0.out
            clear hK K
            try simp only [List.getElem_toArray, List.getElem_cons_succ, List.getElem_cons_zero, Act.put, List.setIfInBounds_toArray, List.set_cons_zero, List.set_cons_succ]
            refine wpAnyH_take (i := 8) (v := ?_) rfl (by kernel_rfl) (by kernel_rfl) (by kernel_rfl) (fun _ _ _ h => h) (Or.inl ⟨by rfl, ?_⟩) (by assumption) ?_
            rotate_left
            · intro w hSw; (try dsimp only at hSw); go_simp; (try (with_reducible rfl))
            try simp only [List.getElem_toArray, List.getElem_cons_succ, List.getElem_cons_zero, Act.put, List.setIfInBounds_toArray, List.set_cons_zero, List.set_cons_succ]
            refine wpAnyH_take (i := 9) (v := ?_) rfl (by kernel_rfl) (by kernel_rfl) (by kernel_rfl) (fun _ _ _ h => h) (Or.inl ⟨by rfl, ?_⟩) (by assumption) ?_
            rotate_left
            · intro w hSw; (try dsimp only at hSw); go_simp; (try (with_reducible rfl))
            try simp only [List.getElem_toArray, List.getElem_cons_succ, List.getElem_cons_zero, Act.put, List.setIfInBounds_toArray, List.set_cons_zero, List.set_cons_succ]
            refine wpAnyH_take (i := 10) (v := ?_) rfl (by kernel_rfl) (by kernel_rfl) (by kernel_rfl) (fun _ _ _ h => h) (Or.inl ⟨by rfl, ?_⟩) (by assumption) ?_
            rotate_left
            · intro w hSw; (try dsimp only at hSw); go_simp; (try (with_reducible rfl))
            try simp only [List.getElem_toArray, List.getElem_cons_succ, List.getElem_cons_zero, Act.put, List.setIfInBounds_toArray, List.set_cons_zero, List.set_cons_succ]
            refine wpAnyH_take (i := 11) (v := ?_) rfl (by kernel_rfl) (by kernel_rfl) (by kernel_rfl) (fun _ _ _ h => h) (Or.inl ⟨by rfl, ?_⟩) (by assumption) ?_
            rotate_left
            · intro w hSw; (try dsimp only at hSw); go_simp; (try (with_reducible rfl))
            try simp only [List.getElem_toArray, List.getElem_cons_succ, List.getElem_cons_zero, Act.put, List.setIfInBounds_toArray, List.set_cons_zero, List.set_cons_succ]
            refine wpAnyH_done (by kernel_rfl) ?_ _
            have hcB' := (hHeld.2.2.2.2.cell (p := ⟨w.heap.size + 1, j, none⟩) hsB).trans hcB
            have hcC' := (hHeld.2.2.2.2.cell (p := ⟨C, q, none⟩) hsC).trans hcC
            have hfC' := (hHeld.2.2.2.2.frozen (p := ⟨C, q, none⟩) hsC).trans hfC
            have HBW := Lib.hid hHeld.2.2.2.2
            clear hHeld HC HS0 HSB hz2 hz3 hz4 hz5 hcB hcC hfC
            go_wp2
            go_roundw
            case rel => exact ⟨q + 1, by omega, by go_num, HI.out.step HBW.out HX.out⟩
            case measure => simp [intOf]; omega
        · obtain rfl : q = m := by omega
          go_wp2
          exact ⟨⟨j, by omega, rfl, HI.out.done_ (HXl.out j hjn)⟩, by simp [intOf]⟩
end Go.Proofs.YtpkjkegcdddimaaDoor
