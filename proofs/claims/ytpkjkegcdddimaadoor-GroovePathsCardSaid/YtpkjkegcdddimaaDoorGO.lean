import Derived.Test.YtpkjkegcdddimaaDoorO1
import Derived.Test.YtpkjkegcdddimaaDoorGA
namespace Go.Proofs.YtpkjkegcdddimaaDoor
open Go.RowKit

/-- The reference's state: the best path so far, and its cost, or none. -/
def bst (s : List Int × Int) : Int := if s.2 < 50200 then s.2 else -1
theorem bestTo_le (mf : Nat → Nat → Bool) (b : Int) (m : Nat) (rows : List (List Int)) : ∀ k, (bestTo mf b m rows k).2 ≤ 50200
  | 0 => Int.le_refl _
  | k + 1 => by
    have ih := bestTo_le mf b m rows k
    have e : bestTo mf b m rows (k + 1) = bestStep mf b m rows (bestTo mf b m rows k) k := rfl
    rw [e]
    unfold bestStep
    split
    · dsimp only; omega
    · exact ih
theorem bestTo_nonneg {rows : List (List Int)} {b : Int} {n m : Nat} (mf : Nat → Nat → Bool) (h : TkOk rows b n m) : ∀ k, k ≤ m → 0 ≤ (bestTo mf b m rows k).2
  | 0, _ => by show (0 : Int) ≤ 50200; omega
  | k + 1, hk => by
    have ih := bestTo_nonneg mf h k (by omega)
    have hx := nonneg_x (mf k) h (j := 0) h.n0 (show k < m by omega)
    unfold cellV at hx
    have e : bestTo mf b m rows (k + 1) = bestStep mf b m rows (bestTo mf b m rows k) k := rfl
    rw [e]
    unfold bestStep
    split
    · exact hx
    · exact ih
theorem bestTo_len (mf : Nat → Nat → Bool) (b : Int) (m : Nat) (rows : List (List Int)) : ∀ k, 50200 ≤ (bestTo mf b m rows k).2 → bestTo mf b m rows k = ([], 50200)
  | 0, _ => rfl
  | k + 1, h => by
    have e : bestTo mf b m rows (k + 1) = bestStep mf b m rows (bestTo mf b m rows k) k := rfl
    rw [e] at h ⊢
    unfold bestStep at h ⊢
    by_cases hl : ((restsL (mf k) b m rows).getD 0 []).getD k 0 < (bestTo mf b m rows k).2
    · rw [if_pos hl] at h
      dsimp only at h
      have hk := bestTo_le mf b m rows k
      omega
    · rw [if_neg hl] at h ⊢
      exact bestTo_len mf b m rows k h
/-- One column more. -/
theorem best_next {rows : List (List Int)} {b : Int} {n m : Nat} (mf : Nat → Nat → Bool) (h : TkOk rows b n m) {k : Nat} (hk : k < m) (n1 : Int) (hn1 : costR (restsL (mf k) b m rows) 0 k = n1) :
    ((0 ≤ n1 ∧ (bst (bestTo mf b m rows k) < 0 ∨ n1 < bst (bestTo mf b m rows k))) → bst (bestTo mf b m rows (k + 1)) = n1 ∧ (bestTo mf b m rows (k + 1)).1 = pathR (restsL (mf k) b m rows) b m (n - 1) 0 k) ∧
    (¬ (0 ≤ n1 ∧ (bst (bestTo mf b m rows k) < 0 ∨ n1 < bst (bestTo mf b m rows k))) → bestTo mf b m rows (k + 1) = bestTo mf b m rows k) := by
  have e : bestTo mf b m rows (k + 1) = bestStep mf b m rows (bestTo mf b m rows k) k := rfl
  have hx0 := nonneg_x (mf k) h (j := 0) h.n0 hk
  have hle := bestTo_le mf b m rows k
  have h0 := bestTo_nonneg mf h k (Nat.le_of_lt hk)
  unfold costR at hn1
  unfold cellV at hn1 hx0
  rw [e]
  unfold bestStep bst pathR cellV
  obtain ⟨x, hx⟩ : ∃ z, ((restsL (mf k) b m rows).getD 0 []).getD k 0 = z := ⟨_, rfl⟩
  rw [hx] at hn1 hx0 ⊢
  rw [h.len, tail_path _ _ _ _ _ h.n0]
  by_cases hxf : x < 50200
  · rw [if_pos hxf] at hn1 ⊢
    subst hn1
    by_cases hs : (bestTo mf b m rows k).2 < 50200
    · rw [if_pos hs]
      by_cases hl : x < (bestTo mf b m rows k).2
      · rw [if_pos hl]
        refine ⟨fun _ => ⟨if_pos hxf, rfl⟩, fun hn => absurd ⟨hx0, .inr hl⟩ hn⟩
      · rw [if_neg hl]
        refine ⟨fun hn => ?_, fun _ => rfl⟩
        exfalso
        omega
    · rw [if_neg hs, if_pos (show x < (bestTo mf b m rows k).2 by omega)]
      exact ⟨fun _ => ⟨if_pos hxf, rfl⟩, fun hn => absurd ⟨hx0, .inl (by omega)⟩ hn⟩
  · rw [if_neg hxf] at hn1
    subst hn1
    rw [if_neg (show ¬ x < (bestTo mf b m rows k).2 by omega)]
    exact ⟨fun hn => absurd hn.1 (by omega), fun _ => rfl⟩

end Go.Proofs.YtpkjkegcdddimaaDoor

namespace Go.Proofs.YtpkjkegcdddimaaDoor
open Go.RowKit

theorem rest_fin {rows : List (List Int)} {b : Int} {n m : Nat} (h : TkOk rows b n m) : ∀ k j, j + k + 1 = n → ∀ c, c < m → cellV (restsL (fun _ => true) b m rows) j c ≤ 1255 * (k : Int) + 255
  | 0, j, hj, c, hc => by
    have h1 := cell_row h (j := j) (by omega) hc
    rw [X_at _ h j c (by omega) hc, if_pos (by omega), endC_yes rfl]
    omega
  | k + 1, j, hj, c, hc => by
    have h1 := cell_row h (j := j) (by omega) hc
    have h2 := X_ok (fun _ => true) h (j + 1) (by omega)
    have hs := chp_spec ((restsL (fun _ => true) b m rows).getD (j + 1) []) b 200000 c m hc h2.1 h.bb.1 (by have := h.bb; omega) h2.2
    have hn := nbr_sum (fun _ => true) h (j := j) (by omega) hc hs.1
    have ih := rest_fin h k (j + 1) (by omega) _ hn.2.1
    rw [X_at _ h j c (by omega) hc, if_neg (by omega), hs.2.1, hn.1]
    have := h.bb
    split <;> omega
theorem rest_inf {rows : List (List Int)} {b : Int} {n m : Nat} (may : Nat → Bool) (hmf : ∀ q, q < m → may q = false) (h : TkOk rows b n m) : ∀ k j, j + k + 1 = n → ∀ c, c < m → 50200 ≤ cellV (restsL may b m rows) j c
  | 0, j, hj, c, hc => by
    have h1 := cell_row h (j := j) (by omega) hc
    rw [X_at _ h j c (by omega) hc, if_pos (by omega), endC_no (by rw [hmf c hc]; decide)]
    omega
  | k + 1, j, hj, c, hc => by
    have h1 := cell_row h (j := j) (by omega) hc
    have h2 := X_ok may h (j + 1) (by omega)
    have hs := chp_spec ((restsL may b m rows).getD (j + 1) []) b 200000 c m hc h2.1 h.bb.1 (by have := h.bb; omega) h2.2
    have hn := nbr_sum may h (j := j) (by omega) hc hs.1
    have ih := rest_inf may hmf h k (j + 1) (by omega) _ hn.2.1
    rw [X_at _ h j c (by omega) hc, if_neg (by omega), hs.2.1, hn.1]
    have := h.bb
    split <;> omega
theorem costR_bd {rows : List (List Int)} {b : Int} {n m : Nat} (may : Nat → Bool) (h : TkOk rows b n m) {c : Nat} (hc : c < m) : -1 ≤ costR (restsL may b m rows) 0 c ∧ costR (restsL may b m rows) 0 c < 50200 := by
  have h1 := nonneg_x may h (j := 0) h.n0 hc
  unfold costR
  split <;> omega
theorem bst_bd {rows : List (List Int)} {b : Int} {n m : Nat} (mf : Nat → Nat → Bool) (h : TkOk rows b n m) {k : Nat} (hk : k ≤ m) : -1 ≤ bst (bestTo mf b m rows k) ∧ bst (bestTo mf b m rows k) < 50200 := by
  have := bestTo_nonneg mf h k hk
  unfold bst
  split <;> omega

set_option maxRecDepth 100000 in
set_option maxHeartbeats 4000000 in
theorem refBest_any (ad : Addr) (n c : Nat) (rows : List (List Int)) (b : Int) (m : Nat) (w : World) (hr : RdGN w (some ad) n rows) (ht : TkOk rows b n m) :
    Calls Tryd.prog 26 #[.agg #[.slice (some ad) n c, .int .i64 b]] w fun e w' => (∃ A' c', e = .returned (.tuple #[.slice A' (bestTo (fun _ _ => true) b m rows m).1.length c', .int .i64 (bst (bestTo (fun _ _ => true) b m rows m))]) ∧ RdI w' A' (bestTo (fun _ _ => true) b m rows m).1.length (bestTo (fun _ _ => true) b m rows m).1) ∧ Below w.heap.size w w' := by
  obtain ⟨W1, hW1⟩ : ∃ W, w.alloc (.cells #[.slice (some ad) n c, .int .i64 b] 58) = W := ⟨_, rfl⟩
  have hb1 : Below w.heap.size w W1 := by rw [← hW1]; exact (Below.refl _ _).alloc (Nat.le_refl _) _
  have k0 : Bk W1 w.heap.size 58 #[.slice (some ad) n c, .int .i64 b] := by rw [← hW1]; exact Bk.new _ _ _
  have HT : Hid (∀ W, Below W1.heap.size W1 W → (W.cell? ⟨w.heap.size, 0, none⟩ = some (.slice (some ad) n c) ∧ W.cell? ⟨w.heap.size, 1, none⟩ = some (.int .i64 b)) ∧ RdGN W (some ad) n rows ∧ Below w.heap.size w W) := Lib.hid (fun W hb => by have h := k0.later hb; have hb2 := hb1.trans (hb.mono hb1.size); exact ⟨⟨by rw [h.cell]; rfl, by rw [h.cell]; rfl⟩, hr.below hb2, hb2⟩)
  have HRM := Lib.hid (rows_m (hr.below hb1) ht.n0 ht.m0 (fun r hr => (ht.row r hr).1))
  have hbb := ht.bb
  have hn0 := ht.n0
  have hm0 := ht.m0
  have hm12 := ht.m12
  obtain ⟨a0, ca0, h00⟩ := HRM.out 0 hn0
  have HE0 : Hid (∀ W, Below W1.heap.size W1 W → W.cell? ad = some (.slice (some a0) m ca0)) := Lib.hid (fun W hb => by have e0 := (h00 W hb).1; rw [addZ] at e0; exact e0)
  have hnI : (0 : Int) < (n : Int) := by omega
  have addZ0 : ad.add 0 = ad := addZ ad
  have CP : Hid (∀ k, k < m → ∀ W, RdGN W (some ad) n rows → Calls Tryd.prog 49 #[.agg #[.slice (some ad) n c, .int .i64 b], .int .i64 (k : Int), .int .i64 (-1)] W fun e w' => (∃ A' c', e = .returned (.tuple #[.slice A' (pathR (restsL (fun _ => true) b m rows) b m (n - 1) 0 k).length c', .int .i64 (costR (restsL (fun _ => true) b m rows) 0 k), .bool (decide (0 ≤ costR (restsL (fun _ => true) b m rows) 0 k))]) ∧ RdI w' A' (pathR (restsL (fun _ => true) b m rows) b m (n - 1) 0 k).length (pathR (restsL (fun _ => true) b m rows) b m (n - 1) 0 k)) ∧ Below W.heap.size W w') := Lib.hid (fun k hk W h => pathFrom_any ad n c rows b m k (-1) W h ht (fun _ => true) (fun q => by simp) hk _ rfl)
  have HN1 : Hid (∀ k, k < m → 0 ≤ costR (restsL (fun _ => true) b m rows) 0 k) := Lib.hid (fun k hk => by
    have h1 := rest_fin ht (n - 1) 0 (by omega) k hk
    have h2 := nonneg_x (fun _ => true) ht (j := 0) ht.n0 hk
    have := ht.n40
    unfold costR
    rw [if_pos (by omega)]
    exact h2)
  have HNX := Lib.hid (fun k (hk : k < m) n1 h => best_next (fun _ _ => true) ht hk n1 h)
  have HBB := Lib.hid (fun k (hk : k ≤ m) => bst_bd (fun _ _ => true) ht hk)
  clear hr hb1 k0 h00
  go_enter Tryd.func26, Tryd.ntmps26
  go_upto_region 1 with (fail)
  try rw [hW1]
  clear hW1
  go_wp2
  go_loopw [4, 5, 6] (fun bv cv iv wr => ∃ k : Nat, k ≤ m ∧ iv = .int .i64 (k : Int) ∧ cv = .int .i64 (bst (bestTo (fun _ _ => true) b m rows k)) ∧ Hid (∃ A c', bv = .slice A (bestTo (fun _ _ => true) b m rows k).1.length c' ∧ RdI wr A (bestTo (fun _ _ => true) b m rows k).1.length (bestTo (fun _ _ => true) b m rows k).1) ∧ Hid (Below W1.heap.size W1 wr)) (fun _ _ iv _ => m - (intOf iv).toNat)
  case atStart => exact ⟨0, Nat.zero_le _, rfl, rfl, ⟨none, 0, rfl, rfl, fun h => absurd h (by simp [bestTo])⟩, Below.refl _ _⟩
  case round =>
    obtain ⟨k, hk, rfl, rfl, HP, HB⟩ := hrel
    obtain ⟨⟨c0, c1⟩, hrw, hbw⟩ := HT.out _ HB.out
    have e0 := HE0.out _ HB.out
    have hbb2 := HBB.out k hk
    obtain ⟨cb, hcb⟩ : ∃ z, bst (bestTo (fun _ _ => true) b m rows k) = z := ⟨_, rfl⟩
    by_cases hlt : k < m
    · have hkI : (k : Int) < (m : Int) := by omega
      have hnx := HNX.out k hlt _ rfl
      have hn1 := HN1.out k hlt
      have C := Lib.hid (CP.out k hlt _ hrw)
      obtain ⟨n1, hn1e⟩ : ∃ z, costR (restsL (fun _ => true) b m rows) 0 k = z := ⟨_, rfl⟩
      obtain ⟨PL, hPL⟩ : ∃ L, pathR (restsL (fun _ => true) b m rows) b m (n - 1) 0 k = L := ⟨_, rfl⟩
      rw [hn1e, hPL] at hnx C
      rw [hn1e] at hn1
      rw [hcb] at hnx hbb2 ⊢
      have HCB := Lib.hid hcb
      have HBW := Lib.hid hbw
      clear hn1e hPL hcb hrw hbw
      go_wp2_with fail
      refine C.out.mono ?_
      rintro e w2 ⟨⟨A2, c2, rfl, hrl⟩, hb⟩
      have HRL := Lib.hid hrl
      have HB2 := Lib.hid (HB.out.trans (hb.mono HB.out.size))
      have hb' := hb
      by_cases hc0 : cb < 0
      · have hup := hnx.1 ⟨hn1, .inl hc0⟩
        have HP2 : Hid (∃ A c', Value.slice A2 PL.length c2 = .slice A (bestTo (fun _ _ => true) b m rows (k + 1)).1.length c' ∧ RdI w2 A (bestTo (fun _ _ => true) b m rows (k + 1)).1.length (bestTo (fun _ _ => true) b m rows (k + 1)).1) := Lib.hid ⟨A2, c2, by rw [hup.2], by rw [hup.2]; exact HRL.out⟩
        have HU := Lib.hid hup.1
        clear hnx hup hrl hb hb' c0 c1 e0
        go_wp2
        go_roundw
        case rel => exact ⟨k + 1, by omega, by go_num, by rw [HU.out], HP2.out, HB2.out⟩
        case measure => simp [intOf]; omega
      · by_cases hc1 : n1 < cb
        · have hup := hnx.1 ⟨hn1, .inr hc1⟩
          have HP2 : Hid (∃ A c', Value.slice A2 PL.length c2 = .slice A (bestTo (fun _ _ => true) b m rows (k + 1)).1.length c' ∧ RdI w2 A (bestTo (fun _ _ => true) b m rows (k + 1)).1.length (bestTo (fun _ _ => true) b m rows (k + 1)).1) := Lib.hid ⟨A2, c2, by rw [hup.2], by rw [hup.2]; exact HRL.out⟩
          have HU := Lib.hid hup.1
          clear hnx hup hrl hb hb' c0 c1 e0
          go_wp2
          go_roundw
          case rel => exact ⟨k + 1, by omega, by go_num, by rw [HU.out], HP2.out, HB2.out⟩
          case measure => simp [intOf]; omega
        · have hup := hnx.2 (fun h => by rcases h.2 with h | h <;> omega)
          have HP2 : Hid (∃ A c', u4 = .slice A (bestTo (fun _ _ => true) b m rows (k + 1)).1.length c' ∧ RdI w2 A (bestTo (fun _ _ => true) b m rows (k + 1)).1.length (bestTo (fun _ _ => true) b m rows (k + 1)).1) := Lib.hid (by
            obtain ⟨A, c', h1, h2⟩ := HP.out
            rw [hup]
            exact ⟨A, c', h1, h2.below hb'⟩)
          have HU : Hid (bst (bestTo (fun _ _ => true) b m rows (k + 1)) = cb) := Lib.hid (by rw [hup]; exact HCB.out)
          clear hnx hup hrl hb hb' c0 c1 e0
          go_wp2
          go_roundw
          case rel => exact ⟨k + 1, by omega, by go_num, by rw [HU.out], HP2.out, HB2.out⟩
          case measure => simp [intOf]; omega
    · obtain rfl : m = k := by omega
      obtain ⟨A, c', h1, h2⟩ := HP.out
      subst h1
      rw [hcb]
      have HCB := Lib.hid hcb
      have HH := Lib.hid h2
      have HBW := Lib.hid hbw
      clear h2 hcb hbw hrw
      go_wp2
      go_ret2
      first | exact ⟨⟨A, c', by rw [HCB.out]; rfl, HH.out⟩, HBW.out⟩ | exact ⟨⟨A, ⟨c', by rw [HCB.out]; rfl⟩, HH.out⟩, HBW.out⟩ | exact ⟨⟨A, ⟨c', rfl⟩, HH.out⟩, HBW.out⟩

set_option maxRecDepth 100000 in
set_option maxHeartbeats 4000000 in
theorem refTurn_any (ad : Addr) (n c : Nat) (rows : List (List Int)) (b : Int) (m : Nat) (pitch : Int) (w : World) (hr : RdGN w (some ad) n rows) (ht : TkOk rows b n m) (hp : -12 ≤ pitch ∧ pitch ≤ 12) :
    Calls Tryd.prog 28 #[.agg #[.slice (some ad) n c, .int .i64 b], .int .i64 pitch] w fun e w' => (∃ A' c', e = .returned (.tuple #[.slice A' (bestTo (fun f l => decide ((l : Int) = (f : Int) + pitch)) b m rows m).1.length c', .int .i64 (bst (bestTo (fun f l => decide ((l : Int) = (f : Int) + pitch)) b m rows m)), .bool (decide (0 ≤ bst (bestTo (fun f l => decide ((l : Int) = (f : Int) + pitch)) b m rows m)))]) ∧ RdI w' A' (bestTo (fun f l => decide ((l : Int) = (f : Int) + pitch)) b m rows m).1.length (bestTo (fun f l => decide ((l : Int) = (f : Int) + pitch)) b m rows m).1) ∧ Below w.heap.size w w' := by
  obtain ⟨W1, hW1⟩ : ∃ W, w.alloc (.cells #[.slice (some ad) n c, .int .i64 b] 58) = W := ⟨_, rfl⟩
  have hb1 : Below w.heap.size w W1 := by rw [← hW1]; exact (Below.refl _ _).alloc (Nat.le_refl _) _
  have k0 : Bk W1 w.heap.size 58 #[.slice (some ad) n c, .int .i64 b] := by rw [← hW1]; exact Bk.new _ _ _
  have HT : Hid (∀ W, Below W1.heap.size W1 W → (W.cell? ⟨w.heap.size, 0, none⟩ = some (.slice (some ad) n c) ∧ W.cell? ⟨w.heap.size, 1, none⟩ = some (.int .i64 b)) ∧ RdGN W (some ad) n rows ∧ Below w.heap.size w W) := Lib.hid (fun W hb => by have h := k0.later hb; have hb2 := hb1.trans (hb.mono hb1.size); exact ⟨⟨by rw [h.cell]; rfl, by rw [h.cell]; rfl⟩, hr.below hb2, hb2⟩)
  have HRM := Lib.hid (rows_m (hr.below hb1) ht.n0 ht.m0 (fun r hr => (ht.row r hr).1))
  have hbb := ht.bb
  have hn0 := ht.n0
  have hm0 := ht.m0
  have hm12 := ht.m12
  obtain ⟨a0, ca0, h00⟩ := HRM.out 0 hn0
  have HE0 : Hid (∀ W, Below W1.heap.size W1 W → W.cell? ad = some (.slice (some a0) m ca0)) := Lib.hid (fun W hb => by have e0 := (h00 W hb).1; rw [addZ] at e0; exact e0)
  have hnI : (0 : Int) < (n : Int) := by omega
  have addZ0 : ad.add 0 = ad := addZ ad
  have CP : Hid (∀ k : Nat, k < m → 0 ≤ (k : Int) + pitch → ∀ W, RdGN W (some ad) n rows → Calls Tryd.prog 49 #[.agg #[.slice (some ad) n c, .int .i64 b], .int .i64 (k : Int), .int .i64 ((k : Int) + pitch)] W fun e w' => (∃ A' c', e = .returned (.tuple #[.slice A' (pathR (restsL (fun l => decide ((l : Int) = (k : Int) + pitch)) b m rows) b m (n - 1) 0 k).length c', .int .i64 (costR (restsL (fun l => decide ((l : Int) = (k : Int) + pitch)) b m rows) 0 k), .bool (decide (0 ≤ costR (restsL (fun l => decide ((l : Int) = (k : Int) + pitch)) b m rows) 0 k))]) ∧ RdI w' A' (pathR (restsL (fun l => decide ((l : Int) = (k : Int) + pitch)) b m rows) b m (n - 1) 0 k).length (pathR (restsL (fun l => decide ((l : Int) = (k : Int) + pitch)) b m rows) b m (n - 1) 0 k)) ∧ Below W.heap.size W w') := Lib.hid (fun k hk h0 W h => pathFrom_any ad n c rows b m k ((k : Int) + pitch) W h ht (fun l => decide ((l : Int) = (k : Int) + pitch)) (fun q => by rw [decide_eq_false (show ¬ (k : Int) + pitch < 0 by omega), Bool.false_or]) hk _ rfl)
  have HN0 : Hid (∀ k : Nat, k < m → (k : Int) + pitch < 0 → costR (restsL (fun l => decide ((l : Int) = (k : Int) + pitch)) b m rows) 0 k = -1) := Lib.hid (fun k hk h0 => by
    have h1 := rest_inf (fun l => decide ((l : Int) = (k : Int) + pitch)) (fun q _ => decide_eq_false (by omega)) ht (n - 1) 0 (by omega) k hk
    unfold costR
    rw [if_neg (by omega)])
  have HNX := Lib.hid (fun k (hk : k < m) n1 h => best_next (fun f l => decide ((l : Int) = (f : Int) + pitch)) ht hk n1 h)
  have HBB := Lib.hid (fun k (hk : k ≤ m) => bst_bd (fun f l => decide ((l : Int) = (f : Int) + pitch)) ht hk)
  have HCR : Hid (∀ k : Nat, k < m → -1 ≤ costR (restsL (fun l => decide ((l : Int) = (k : Int) + pitch)) b m rows) 0 k ∧ costR (restsL (fun l => decide ((l : Int) = (k : Int) + pitch)) b m rows) 0 k < 50200) := Lib.hid (fun k hk => costR_bd _ ht hk)
  clear hr hb1 k0 h00
  go_enter Tryd.func28, Tryd.ntmps28
  go_upto_region 1 with (fail)
  try rw [hW1]
  clear hW1
  go_wp2
  go_loopw [7, 8, 9] (fun bv cv iv wr => ∃ k : Nat, k ≤ m ∧ iv = .int .i64 (k : Int) ∧ cv = .int .i64 (bst (bestTo (fun f l => decide ((l : Int) = (f : Int) + pitch)) b m rows k)) ∧ Hid (∃ A c', bv = .slice A (bestTo (fun f l => decide ((l : Int) = (f : Int) + pitch)) b m rows k).1.length c' ∧ RdI wr A (bestTo (fun f l => decide ((l : Int) = (f : Int) + pitch)) b m rows k).1.length (bestTo (fun f l => decide ((l : Int) = (f : Int) + pitch)) b m rows k).1) ∧ Hid (Below W1.heap.size W1 wr)) (fun _ _ iv _ => m - (intOf iv).toNat)
  case atStart => exact ⟨0, Nat.zero_le _, rfl, rfl, ⟨none, 0, rfl, rfl, fun h => absurd h (by simp [bestTo])⟩, Below.refl _ _⟩
  case round =>
    obtain ⟨k, hk, rfl, rfl, HP, HB⟩ := hrel
    obtain ⟨⟨c0, c1⟩, hrw, hbw⟩ := HT.out _ HB.out
    have e0 := HE0.out _ HB.out
    have hbb2 := HBB.out k hk
    obtain ⟨cb, hcb⟩ : ∃ z, bst (bestTo (fun f l => decide ((l : Int) = (f : Int) + pitch)) b m rows k) = z := ⟨_, rfl⟩
    by_cases hlt : k < m
    · have hkI : (k : Int) < (m : Int) := by omega
      have hnx := HNX.out k hlt _ rfl
      have hcr := HCR.out k hlt
      have wkp : IntKind.i64.wrap ((k : Int) + pitch) = (k : Int) + pitch := IntWalk.i64_in _ (by omega)
      by_cases hneg : (k : Int) + pitch < 0
      · rw [HN0.out k hlt hneg] at hnx
        have hup := hnx.2 (fun h => absurd h.1 (by omega))
        have HP2 : Hid (∃ A c', u7 = .slice A (bestTo (fun f l => decide ((l : Int) = (f : Int) + pitch)) b m rows (k + 1)).1.length c' ∧ RdI wr A (bestTo (fun f l => decide ((l : Int) = (f : Int) + pitch)) b m rows (k + 1)).1.length (bestTo (fun f l => decide ((l : Int) = (f : Int) + pitch)) b m rows (k + 1)).1) := Lib.hid (by rw [hup]; exact HP.out)
        have HU : Hid (bst (bestTo (fun f l => decide ((l : Int) = (f : Int) + pitch)) b m rows (k + 1)) = cb) := Lib.hid (by rw [hup]; exact hcb)
        rw [hcb] at hbb2 ⊢
        clear hnx hup hcb hrw hbw hcr
        go_wp2
        go_roundw
        case rel => exact ⟨k + 1, by omega, by go_num, by rw [HU.out], HP2.out, HB.out⟩
        case measure => simp [intOf]; omega
      · have C := Lib.hid (CP.out k hlt (by omega) _ hrw)
        obtain ⟨n1, hn1e⟩ : ∃ z, costR (restsL (fun l => decide ((l : Int) = (k : Int) + pitch)) b m rows) 0 k = z := ⟨_, rfl⟩
        obtain ⟨PL, hPL⟩ : ∃ L, pathR (restsL (fun l => decide ((l : Int) = (k : Int) + pitch)) b m rows) b m (n - 1) 0 k = L := ⟨_, rfl⟩
        rw [hn1e, hPL] at hnx C
        rw [hn1e] at hcr
        rw [hcb] at hnx hbb2 ⊢
        have HCB := Lib.hid hcb
        have HBW := Lib.hid hbw
        obtain ⟨lp, hlp⟩ : ∃ z, (k : Int) + pitch = z := ⟨_, rfl⟩
        rw [hlp] at C hneg wkp
        have wkp2 : IntKind.i64.wrap ((k : Int) + pitch) = lp := by rw [hlp]; exact wkp
        clear hn1e hPL hcb hrw hbw hlp wkp
        go_wp2_with fail
        refine C.out.mono ?_
        rintro e w2 ⟨⟨A2, c2, rfl, hrl⟩, hb⟩
        have HRL := Lib.hid hrl
        have HB2 := Lib.hid (HB.out.trans (hb.mono HB.out.size))
        have hb' := hb
        by_cases hn1 : 0 ≤ n1
        · have hd1 : decide (0 ≤ n1) = true := decide_eq_true hn1
          by_cases hc0 : cb < 0
          · have hup := hnx.1 ⟨hn1, .inl hc0⟩
            have HP2 : Hid (∃ A c', Value.slice A2 PL.length c2 = .slice A (bestTo (fun f l => decide ((l : Int) = (f : Int) + pitch)) b m rows (k + 1)).1.length c' ∧ RdI w2 A (bestTo (fun f l => decide ((l : Int) = (f : Int) + pitch)) b m rows (k + 1)).1.length (bestTo (fun f l => decide ((l : Int) = (f : Int) + pitch)) b m rows (k + 1)).1) := Lib.hid ⟨A2, c2, by rw [hup.2], by rw [hup.2]; exact HRL.out⟩
            have HU := Lib.hid hup.1
            clear hnx hup hrl hb hb' c0 c1 e0
            go_wp2
            go_roundw
            case rel => exact ⟨k + 1, by omega, by go_num, by rw [HU.out], HP2.out, HB2.out⟩
            case measure => simp [intOf]; omega
          · by_cases hc1 : n1 < cb
            · have hup := hnx.1 ⟨hn1, .inr hc1⟩
              have HP2 : Hid (∃ A c', Value.slice A2 PL.length c2 = .slice A (bestTo (fun f l => decide ((l : Int) = (f : Int) + pitch)) b m rows (k + 1)).1.length c' ∧ RdI w2 A (bestTo (fun f l => decide ((l : Int) = (f : Int) + pitch)) b m rows (k + 1)).1.length (bestTo (fun f l => decide ((l : Int) = (f : Int) + pitch)) b m rows (k + 1)).1) := Lib.hid ⟨A2, c2, by rw [hup.2], by rw [hup.2]; exact HRL.out⟩
              have HU := Lib.hid hup.1
              clear hnx hup hrl hb hb' c0 c1 e0
              go_wp2
              go_roundw
              case rel => exact ⟨k + 1, by omega, by go_num, by rw [HU.out], HP2.out, HB2.out⟩
              case measure => simp [intOf]; omega
            · have hup := hnx.2 (fun h => by rcases h.2 with h | h <;> omega)
              have HP2 : Hid (∃ A c', u7 = .slice A (bestTo (fun f l => decide ((l : Int) = (f : Int) + pitch)) b m rows (k + 1)).1.length c' ∧ RdI w2 A (bestTo (fun f l => decide ((l : Int) = (f : Int) + pitch)) b m rows (k + 1)).1.length (bestTo (fun f l => decide ((l : Int) = (f : Int) + pitch)) b m rows (k + 1)).1) := Lib.hid (by
                obtain ⟨A, c', h1, h2⟩ := HP.out
                rw [hup]
                exact ⟨A, c', h1, h2.below hb'⟩)
              have HU : Hid (bst (bestTo (fun f l => decide ((l : Int) = (f : Int) + pitch)) b m rows (k + 1)) = cb) := Lib.hid (by rw [hup]; exact HCB.out)
              clear hnx hup hrl hb hb' c0 c1 e0
              go_wp2
              go_roundw
              case rel => exact ⟨k + 1, by omega, by go_num, by rw [HU.out], HP2.out, HB2.out⟩
              case measure => simp [intOf]; omega
        · have hd1 : decide (0 ≤ n1) = false := decide_eq_false hn1
          have hup := hnx.2 (fun h => hn1 h.1)
          have HP2 : Hid (∃ A c', u7 = .slice A (bestTo (fun f l => decide ((l : Int) = (f : Int) + pitch)) b m rows (k + 1)).1.length c' ∧ RdI w2 A (bestTo (fun f l => decide ((l : Int) = (f : Int) + pitch)) b m rows (k + 1)).1.length (bestTo (fun f l => decide ((l : Int) = (f : Int) + pitch)) b m rows (k + 1)).1) := Lib.hid (by
            obtain ⟨A, c', h1, h2⟩ := HP.out
            rw [hup]
            exact ⟨A, c', h1, h2.below hb'⟩)
          have HU : Hid (bst (bestTo (fun f l => decide ((l : Int) = (f : Int) + pitch)) b m rows (k + 1)) = cb) := Lib.hid (by rw [hup]; exact HCB.out)
          clear hnx hup hrl hb hb' c0 c1 e0
          go_wp2
          go_roundw
          case rel => exact ⟨k + 1, by omega, by go_num, by rw [HU.out], HP2.out, HB2.out⟩
          case measure => simp [intOf]; omega
    · obtain rfl : m = k := by omega
      obtain ⟨A, c', h1, h2⟩ := HP.out
      subst h1
      rw [hcb]
      have HCB := Lib.hid hcb
      have HH := Lib.hid h2
      have HBW := Lib.hid hbw
      clear h2 hcb hbw hrw
      go_wp2
      go_ret3
      first | exact ⟨⟨A, c', by rw [HCB.out]; rfl, HH.out⟩, HBW.out⟩ | exact ⟨⟨A, ⟨c', by rw [HCB.out]; rfl⟩, HH.out⟩, HBW.out⟩ | exact ⟨⟨A, ⟨c', rfl⟩, HH.out⟩, HBW.out⟩

end Go.Proofs.YtpkjkegcdddimaaDoor

namespace Go.Proofs.YtpkjkegcdddimaaDoor
open Go.RowKit

theorem best_len {rows : List (List Int)} {b : Int} {n m : Nat} (mf : Nat → Nat → Bool) (h : TkOk rows b n m) : ∀ k, (bestTo mf b m rows k).2 < 50200 → (bestTo mf b m rows k).1.length = n
  | 0, hl => by exact absurd hl (by show ¬ (50200 : Int) < 50200; omega)
  | k + 1, hl => by
    have e : bestTo mf b m rows (k + 1) = bestStep mf b m rows (bestTo mf b m rows k) k := rfl
    rw [e] at hl ⊢
    unfold bestStep at hl ⊢
    by_cases hc : ((restsL (mf k) b m rows).getD 0 []).getD k 0 < (bestTo mf b m rows k).2
    · rw [if_pos hc]
      show (pathL b m _ k rows.length).length = n
      rw [pathL_length, h.len]
    · rw [if_neg hc] at hl ⊢
      exact best_len mf h k hl
theorem best_fin {rows : List (List Int)} {b : Int} {n m : Nat} (h : TkOk rows b n m) : ∀ k, k < m → (bestTo (fun _ _ => true) b m rows (k + 1)).2 < 50200
  | k, hk => by
    have e : bestTo (fun _ _ => true) b m rows (k + 1) = bestStep (fun _ _ => true) b m rows (bestTo (fun _ _ => true) b m rows k) k := rfl
    have h1 := rest_fin h (n - 1) 0 (by have := h.n0; omega) k hk
    have hn := h.n40
    unfold cellV at h1
    rw [e]
    unfold bestStep
    dsimp only
    split
    · dsimp only; omega
    · have := bestTo_le (fun _ _ => true) b m rows k
      omega
theorem tk_of {rows : List (List Int)} {b : Int} (h : taskE rows b = 0) : TkOk rows b rows.length (colsOf rows) := by
  obtain ⟨hg, hb⟩ := task_ok h
  obtain ⟨m, g1, g2, g3, g4, g5, g6⟩ := grid_ok hg
  have e : colsOf rows = m := g5
  rw [e]
  exact ⟨rfl, g1, g3, g2, g4, row_bounds g6, hb⟩
theorem RdGN.toGO {w : World} {A : Option Addr} {n : Nat} {rows : List (List Int)} (h : RdGN w A n rows) : RdG w A n rows := by
  refine ⟨h.1, fun hn => ?_⟩
  obtain ⟨ad, e, hlt, hc⟩ := h.2 hn
  refine ⟨ad, e, hlt, fun j hj => ?_⟩
  obtain ⟨B, m, c, h1, h2, h3, _⟩ := hc j hj
  exact ⟨B, m, c, h1, h2, h3⟩
theorem gridB_partsO {R C : Nat} {rows : List (List Int)} (h : gridB R C rows = true) : rows.length ≤ R + 2 ∧ ∀ j, j < rows.length → (rows.getD j []).length ≤ C + 2 := by
  unfold gridB at h
  rw [Bool.and_eq_true, decide_eq_true_eq, List.all_eq_true] at h
  exact ⟨h.1, fun j hj => by have := h.2 _ (getD_inO rows j hj); simpa using this⟩

set_option maxRecDepth 100000 in
set_option maxHeartbeats 4000000 in
theorem paths_wide (A : Option Addr) (n c : Nat) (b : Int) (rows : List (List Int)) (pitch : Int) (w : World) (hl : LaidSides w) (hr : RdGo w A n rows) (hgb : gridB 40 12 rows = false) :
    Calls Tryd.prog 6 #[.agg #[.slice A n c, .int .i64 b], .int .i64 pitch] w fun e w' => e = .returned (.bool true) ∧ Below w.heap.size w w' := by
  obtain ⟨W1, hW1⟩ : ∃ W, w.alloc (.cells #[.slice A n c, .int .i64 b] 58) = W := ⟨_, rfl⟩
  have hb1 : Below w.heap.size w W1 := by rw [← hW1]; exact (Below.refl _ _).alloc (Nat.le_refl _) _
  have k0 : Bk W1 w.heap.size 58 #[.slice A n c, .int .i64 b] := by rw [← hW1]; exact Bk.new _ _ _
  have HK : Hid (∀ W, Below W1.heap.size W1 W → (W.cell? ⟨w.heap.size, 0, none⟩ = some (.slice A n c) ∧ W.cell? ⟨w.heap.size, 1, none⟩ = some (.int .i64 b)) ∧ Below w.heap.size w W ∧ LaidSides W ∧ RdGo W A n rows) := Lib.hid (fun W hb => by
    have h0 := k0.later hb
    have hb2 := hb1.trans (hb.mono hb1.size)
    exact ⟨⟨by rw [h0.cell]; rfl, by rw [h0.cell]; rfl⟩, hb2, hl.later hb2, hr.below hb2⟩)
  have CST : Hid (∀ W, RdGo W A n rows → Calls Tryd.prog 21 #[.slice A n c] W fun e w' => e = .returned (.bool false) ∧ W = w') := Lib.hid (fun W h => by rw [← hgb]; exact strip_any A n c rows W h)
  clear hr hl hb1 k0 hgb 
  go_enter Tryd.func6, Tryd.ntmps6
  go_upto_region 1 with (fail)
  try rw [hW1]
  clear hW1
  obtain ⟨c0, c1⟩ := (HK.out _ (Below.refl _ _)).1
  go_wp2_with fail
  refine (awake_any _ (HK.out _ (Below.refl _ _)).2.2.1).mono ?_
  rintro e w2 ⟨rfl, hb2⟩
  have HB2 : Hid (Below W1.heap.size W1 w2) := Lib.hid hb2
  clear hb2 c0 c1
  obtain ⟨c0, c1⟩ := (HK.out _ (HB2.out)).1
  go_wp2_with fail
  refine (CST.out _ (HK.out _ HB2.out).2.2.2).mono ?_
  rintro e w' ⟨rfl, rfl⟩
  go_wp2
  go_ret
  exact ⟨rfl, (HK.out _ HB2.out).2.1⟩

set_option maxRecDepth 100000 in
set_option maxHeartbeats 4000000 in
theorem paths_many (A : Option Addr) (n c : Nat) (b : Int) (rows : List (List Int)) (pitch : Int) (w : World) (hl : LaidSides w) (hr : RdGo w A n rows) (hgb : gridB 40 12 rows = true) (hw : fromB 17 40 [(n : Int)] = true) :
    Calls Tryd.prog 6 #[.agg #[.slice A n c, .int .i64 b], .int .i64 pitch] w fun e w' => e = .returned (.bool true) ∧ Below w.heap.size w w' := by
  obtain ⟨W1, hW1⟩ : ∃ W, w.alloc (.cells #[.slice A n c, .int .i64 b] 58) = W := ⟨_, rfl⟩
  have hb1 : Below w.heap.size w W1 := by rw [← hW1]; exact (Below.refl _ _).alloc (Nat.le_refl _) _
  have k0 : Bk W1 w.heap.size 58 #[.slice A n c, .int .i64 b] := by rw [← hW1]; exact Bk.new _ _ _
  have HK : Hid (∀ W, Below W1.heap.size W1 W → (W.cell? ⟨w.heap.size, 0, none⟩ = some (.slice A n c) ∧ W.cell? ⟨w.heap.size, 1, none⟩ = some (.int .i64 b)) ∧ Below w.heap.size w W ∧ LaidSides W ∧ RdGo W A n rows) := Lib.hid (fun W hb => by
    have h0 := k0.later hb
    have hb2 := hb1.trans (hb.mono hb1.size)
    exact ⟨⟨by rw [h0.cell]; rfl, by rw [h0.cell]; rfl⟩, hb2, hl.later hb2, hr.below hb2⟩)
  have CWN : Hid (∀ W, Calls Tryd.prog 18 #[.int .i64 (n : Int), .int .i64 17, .int .i64 40] W fun e w' => e = .returned (.bool true) ∧ W = w') := Lib.hid (fun W => by
    have h := within_any (n : Int) 17 40 W
    rw [show fromB 17 40 [(n : Int)] = true from hw] at h
    exact h)
  clear hw
  have CST : Hid (∀ W, RdGo W A n rows → Calls Tryd.prog 21 #[.slice A n c] W fun e w' => e = .returned (.bool true) ∧ W = w') := Lib.hid (fun W h => by rw [← hgb]; exact strip_any A n c rows W h)
  clear hr hl hb1 k0 hgb 
  go_enter Tryd.func6, Tryd.ntmps6
  go_upto_region 1 with (fail)
  try rw [hW1]
  clear hW1
  obtain ⟨c0, c1⟩ := (HK.out _ (Below.refl _ _)).1
  go_wp2_with fail
  refine (awake_any _ (HK.out _ (Below.refl _ _)).2.2.1).mono ?_
  rintro e w2 ⟨rfl, hb2⟩
  have HB2 : Hid (Below W1.heap.size W1 w2) := Lib.hid hb2
  clear hb2 c0 c1
  obtain ⟨c0, c1⟩ := (HK.out _ (HB2.out)).1
  go_wp2_with fail
  refine (CST.out _ (HK.out _ HB2.out).2.2.2).mono ?_
  rintro e w' ⟨rfl, rfl⟩
  go_wp2_with fail
  refine (CWN.out _).mono ?_
  rintro e w' ⟨rfl, rfl⟩
  go_wp2
  go_ret
  exact ⟨rfl, (HK.out _ HB2.out).2.1⟩

set_option maxRecDepth 100000 in
set_option maxHeartbeats 4000000 in
theorem paths_err (A : Option Addr) (n c : Nat) (b : Int) (rows : List (List Int)) (pitch : Int) (w : World) (hl : LaidSides w) (hr : RdGo w A n rows) (hgb : gridB 40 12 rows = true) (hw : fromB 17 40 [(n : Int)] = false) (hm203 : ∀ j, j < n → (rows.getD j []).length ≤ 203) (hn42 : n ≤ 42) (D : Int) (hD : D ≠ 0)
    (CBP : Hid (∀ A' c' W, RdGN W A' n rows → Calls Tryd.prog 22 #[.agg #[.slice A' n c', .int .i64 b]] W fun e w' => (∃ A2 c2, e = .returned (.tuple #[.slice A2 0 c2, .int .i64 0, .int .i64 D]) ∧ RdI w' A2 0 []) ∧ Below W.heap.size W w'))
    (CTP : Hid (∀ A' c' W, RdGN W A' n rows → Calls Tryd.prog 24 #[.agg #[.slice A' n c', .int .i64 b], .int .i64 pitch] W fun e w' => (∃ A2 c2, e = .returned (.tuple #[.slice A2 0 c2, .int .i64 0, .int .i64 D]) ∧ RdI w' A2 0 []) ∧ Below W.heap.size W w'))
    (CTE : Hid (∀ W, RdGN W A n rows → Calls Tryd.prog 25 #[.agg #[.slice A n c, .int .i64 b]] W fun e w' => e = .returned (.int .i64 D) ∧ Below W.heap.size W w')) :
    Calls Tryd.prog 6 #[.agg #[.slice A n c, .int .i64 b], .int .i64 pitch] w fun e w' => e = .returned (.bool true) ∧ Below w.heap.size w w' := by
  obtain ⟨W1, hW1⟩ : ∃ W, w.alloc (.cells #[.slice A n c, .int .i64 b] 58) = W := ⟨_, rfl⟩
  have hb1 : Below w.heap.size w W1 := by rw [← hW1]; exact (Below.refl _ _).alloc (Nat.le_refl _) _
  have k0 : Bk W1 w.heap.size 58 #[.slice A n c, .int .i64 b] := by rw [← hW1]; exact Bk.new _ _ _
  have HK : Hid (∀ W, Below W1.heap.size W1 W → (W.cell? ⟨w.heap.size, 0, none⟩ = some (.slice A n c) ∧ W.cell? ⟨w.heap.size, 1, none⟩ = some (.int .i64 b)) ∧ Below w.heap.size w W ∧ LaidSides W ∧ RdGo W A n rows ∧ RdGN W A n rows) := Lib.hid (fun W hb => by
    have h0 := k0.later hb
    have hb2 := hb1.trans (hb.mono hb1.size)
    exact ⟨⟨by rw [h0.cell]; rfl, by rw [h0.cell]; rfl⟩, hb2, hl.later hb2, hr.below hb2, (hr.full hm203).below hb2⟩)
  have CWN : Hid (∀ W, Calls Tryd.prog 18 #[.int .i64 (n : Int), .int .i64 17, .int .i64 40] W fun e w' => e = .returned (.bool false) ∧ W = w') := Lib.hid (fun W => by
    have h := within_any (n : Int) 17 40 W
    rw [show fromB 17 40 [(n : Int)] = false from hw] at h
    exact h)
  clear hw
  have CCP : Hid (∀ W, RdGN W A n rows → Calls Tryd.prog 23 #[.agg #[.slice A n c, .int .i64 b]] W fun e w' => (∃ A' c', e = .returned (.agg #[.slice A' n c', .int .i64 b]) ∧ RdGN w' A' n rows) ∧ Below W.heap.size W w') := Lib.hid (fun W h => copyTask_any A n c rows b W h (by omega) hm203)
  have hDb : (D != 0) = true := by simpa using hD
  have hDD : (D == D) = true := by simp
  clear hD
  have CST : Hid (∀ W, RdGo W A n rows → Calls Tryd.prog 21 #[.slice A n c] W fun e w' => e = .returned (.bool true) ∧ W = w') := Lib.hid (fun W h => by rw [← hgb]; exact strip_any A n c rows W h)
  clear hr hl hb1 k0 hgb hm203
  go_enter Tryd.func6, Tryd.ntmps6
  go_upto_region 1 with (fail)
  try rw [hW1]
  clear hW1
  obtain ⟨c0, c1⟩ := (HK.out _ (Below.refl _ _)).1
  go_wp2_with fail
  refine (awake_any _ (HK.out _ (Below.refl _ _)).2.2.1).mono ?_
  rintro e w2 ⟨rfl, hb2⟩
  have HB2 : Hid (Below W1.heap.size W1 w2) := Lib.hid hb2
  clear hb2 c0 c1
  obtain ⟨c0, c1⟩ := (HK.out _ (HB2.out)).1
  go_wp2_with fail
  refine (CST.out _ (HK.out _ HB2.out).2.2.2.1).mono ?_
  rintro e w' ⟨rfl, rfl⟩
  go_wp2_with fail
  refine (CWN.out _).mono ?_
  rintro e w' ⟨rfl, rfl⟩
  go_wp2_with fail
  refine (CCP.out _ (HK.out _ HB2.out).2.2.2.2).mono ?_
  rintro e w3 ⟨⟨A3, d3, rfl, hrr⟩, hb⟩
  have HRR := Lib.hid hrr
  have HB3 := Lib.hid (HB2.out.trans (hb.mono HB2.out.size))
  clear hrr hb HB2 c0 c1
  go_wp2_with fail
  refine (CBP.out _ _ _ HRR.out).mono ?_
  rintro e w4 ⟨⟨AL, ALk, rfl, hrl⟩, hb⟩
  have HL4 := Lib.hid hrl
  have HB4 := Lib.hid (HB3.out.trans (hb.mono HB3.out.size))
  clear hrl hb HB3 HRR
  obtain ⟨c0, c1⟩ := (HK.out _ (HB4.out)).1
  go_wp2_with fail
  refine (CCP.out _ (HK.out _ HB4.out).2.2.2.2).mono ?_
  rintro e w5 ⟨⟨A5, d5, rfl, hrr⟩, hb⟩
  have HRR := Lib.hid hrr
  have HB5 := Lib.hid (HB4.out.trans (hb.mono HB4.out.size))
  have HL5 := Lib.hid (HL4.out.below hb)
  clear hrr hb HB4 c0 c1 HL4
  go_wp2_with fail
  refine (CTP.out _ _ _ HRR.out).mono ?_
  rintro e w6 ⟨⟨AX, AXk, rfl, hrl⟩, hb⟩
  have HX6 := Lib.hid hrl
  have HB6 := Lib.hid (HB5.out.trans (hb.mono HB5.out.size))
  have HL6 := Lib.hid (HL5.out.below hb)
  clear hrl hb HB5 HRR HL5
  obtain ⟨c0, c1⟩ := (HK.out _ (HB6.out)).1
  go_wp2_with fail
  refine (CTE.out _ (HK.out _ HB6.out).2.2.2.2).mono ?_
  rintro e w7 ⟨rfl, hb⟩
  have HB7 := Lib.hid (HB6.out.trans (hb.mono HB6.out.size))
  have HL7 := Lib.hid (HL6.out.below hb)
  have HX7 := Lib.hid (HX6.out.below hb)
  clear hb HB6 c0 c1 HL6 HX6
  obtain ⟨c0, c1⟩ := (HK.out _ (HB7.out)).1
  go_wp2
  go_ret
  exact ⟨rfl, (HK.out _ HB7.out).2.1⟩

set_option maxRecDepth 100000 in
set_option maxHeartbeats 4000000 in
theorem paths_pitch (A : Option Addr) (n c : Nat) (b : Int) (rows : List (List Int)) (pitch : Int) (w : World) (hl : LaidSides w) (hr : RdGo w A n rows) (hgb : gridB 40 12 rows = true) (hw : fromB 17 40 [(n : Int)] = false) (hm203 : ∀ j, j < n → (rows.getD j []).length ≤ 203) (hn42 : n ≤ 42) (k1 : Nat) (hk1 : k1 ≤ 1000) (m1 : Int) (L1 : List Int) (hp : fromB (-12) 12 [pitch] = false)
    (CBP : Hid (∀ A' c' W, RdGN W A' n rows → Calls Tryd.prog 22 #[.agg #[.slice A' n c', .int .i64 b]] W fun e w' => (∃ A2 c2, e = .returned (.tuple #[.slice A2 k1 c2, .int .i64 m1, .int .i64 0]) ∧ RdI w' A2 k1 L1) ∧ Below W.heap.size W w'))
    (CTP : Hid (∀ A' c' W, RdGN W A' n rows → Calls Tryd.prog 24 #[.agg #[.slice A' n c', .int .i64 b], .int .i64 pitch] W fun e w' => (∃ A2 c2, e = .returned (.tuple #[.slice A2 0 c2, .int .i64 0, .int .i64 2]) ∧ RdI w' A2 0 []) ∧ Below W.heap.size W w'))
    (CTE : Hid (∀ W, RdGN W A n rows → Calls Tryd.prog 25 #[.agg #[.slice A n c, .int .i64 b]] W fun e w' => e = .returned (.int .i64 0) ∧ Below W.heap.size W w'))
    (CBS : Hid (∀ W, RdGN W A n rows → Calls Tryd.prog 26 #[.agg #[.slice A n c, .int .i64 b]] W fun e w' => (∃ A2 c2, e = .returned (.tuple #[.slice A2 k1 c2, .int .i64 m1]) ∧ RdI w' A2 k1 L1) ∧ Below W.heap.size W w')) :
    Calls Tryd.prog 6 #[.agg #[.slice A n c, .int .i64 b], .int .i64 pitch] w fun e w' => e = .returned (.bool true) ∧ Below w.heap.size w w' := by
  obtain ⟨W1, hW1⟩ : ∃ W, w.alloc (.cells #[.slice A n c, .int .i64 b] 58) = W := ⟨_, rfl⟩
  have hb1 : Below w.heap.size w W1 := by rw [← hW1]; exact (Below.refl _ _).alloc (Nat.le_refl _) _
  have k0 : Bk W1 w.heap.size 58 #[.slice A n c, .int .i64 b] := by rw [← hW1]; exact Bk.new _ _ _
  have HK : Hid (∀ W, Below W1.heap.size W1 W → (W.cell? ⟨w.heap.size, 0, none⟩ = some (.slice A n c) ∧ W.cell? ⟨w.heap.size, 1, none⟩ = some (.int .i64 b)) ∧ Below w.heap.size w W ∧ LaidSides W ∧ RdGo W A n rows ∧ RdGN W A n rows) := Lib.hid (fun W hb => by
    have h0 := k0.later hb
    have hb2 := hb1.trans (hb.mono hb1.size)
    exact ⟨⟨by rw [h0.cell]; rfl, by rw [h0.cell]; rfl⟩, hb2, hl.later hb2, hr.below hb2, (hr.full hm203).below hb2⟩)
  have CWN : Hid (∀ W, Calls Tryd.prog 18 #[.int .i64 (n : Int), .int .i64 17, .int .i64 40] W fun e w' => e = .returned (.bool false) ∧ W = w') := Lib.hid (fun W => by
    have h := within_any (n : Int) 17 40 W
    rw [show fromB 17 40 [(n : Int)] = false from hw] at h
    exact h)
  clear hw
  have CCP : Hid (∀ W, RdGN W A n rows → Calls Tryd.prog 23 #[.agg #[.slice A n c, .int .i64 b]] W fun e w' => (∃ A' c', e = .returned (.agg #[.slice A' n c', .int .i64 b]) ∧ RdGN w' A' n rows) ∧ Below W.heap.size W w') := Lib.hid (fun W h => copyTask_any A n c rows b W h (by omega) hm203)
  have CWP : Hid (∀ W, Calls Tryd.prog 18 #[.int .i64 pitch, .int .i64 (-12), .int .i64 12] W fun e w' => e = .returned (.bool false) ∧ W = w') := Lib.hid (fun W => by rw [← hp]; exact within_any pitch (-12) 12 W)
  clear hp
  have hm1 : (m1 != m1) = false := bne_self_eq_false' _
  have hdec : decide (L1 = L1) = true := decide_eq_true rfl
  have CST : Hid (∀ W, RdGo W A n rows → Calls Tryd.prog 21 #[.slice A n c] W fun e w' => e = .returned (.bool true) ∧ W = w') := Lib.hid (fun W h => by rw [← hgb]; exact strip_any A n c rows W h)
  clear hr hl hb1 k0 hgb hm203
  go_enter Tryd.func6, Tryd.ntmps6
  go_upto_region 1 with (fail)
  try rw [hW1]
  clear hW1
  obtain ⟨c0, c1⟩ := (HK.out _ (Below.refl _ _)).1
  go_wp2_with fail
  refine (awake_any _ (HK.out _ (Below.refl _ _)).2.2.1).mono ?_
  rintro e w2 ⟨rfl, hb2⟩
  have HB2 : Hid (Below W1.heap.size W1 w2) := Lib.hid hb2
  clear hb2 c0 c1
  obtain ⟨c0, c1⟩ := (HK.out _ (HB2.out)).1
  go_wp2_with fail
  refine (CST.out _ (HK.out _ HB2.out).2.2.2.1).mono ?_
  rintro e w' ⟨rfl, rfl⟩
  go_wp2_with fail
  refine (CWN.out _).mono ?_
  rintro e w' ⟨rfl, rfl⟩
  go_wp2_with fail
  refine (CCP.out _ (HK.out _ HB2.out).2.2.2.2).mono ?_
  rintro e w3 ⟨⟨A3, d3, rfl, hrr⟩, hb⟩
  have HRR := Lib.hid hrr
  have HB3 := Lib.hid (HB2.out.trans (hb.mono HB2.out.size))
  clear hrr hb HB2 c0 c1
  go_wp2_with fail
  refine (CBP.out _ _ _ HRR.out).mono ?_
  rintro e w4 ⟨⟨AL, ALk, rfl, hrl⟩, hb⟩
  have HL4 := Lib.hid hrl
  have HB4 := Lib.hid (HB3.out.trans (hb.mono HB3.out.size))
  clear hrl hb HB3 HRR
  obtain ⟨c0, c1⟩ := (HK.out _ (HB4.out)).1
  go_wp2_with fail
  refine (CCP.out _ (HK.out _ HB4.out).2.2.2.2).mono ?_
  rintro e w5 ⟨⟨A5, d5, rfl, hrr⟩, hb⟩
  have HRR := Lib.hid hrr
  have HB5 := Lib.hid (HB4.out.trans (hb.mono HB4.out.size))
  have HL5 := Lib.hid (HL4.out.below hb)
  clear hrr hb HB4 c0 c1 HL4
  go_wp2_with fail
  refine (CTP.out _ _ _ HRR.out).mono ?_
  rintro e w6 ⟨⟨AX, AXk, rfl, hrl⟩, hb⟩
  have HX6 := Lib.hid hrl
  have HB6 := Lib.hid (HB5.out.trans (hb.mono HB5.out.size))
  have HL6 := Lib.hid (HL5.out.below hb)
  clear hrl hb HB5 HRR HL5
  obtain ⟨c0, c1⟩ := (HK.out _ (HB6.out)).1
  go_wp2_with fail
  refine (CTE.out _ (HK.out _ HB6.out).2.2.2.2).mono ?_
  rintro e w7 ⟨rfl, hb⟩
  have HB7 := Lib.hid (HB6.out.trans (hb.mono HB6.out.size))
  have HL7 := Lib.hid (HL6.out.below hb)
  have HX7 := Lib.hid (HX6.out.below hb)
  clear hb HB6 c0 c1 HL6 HX6
  obtain ⟨c0, c1⟩ := (HK.out _ (HB7.out)).1
  go_wp2_with fail
  refine (CBS.out _ (HK.out _ HB7.out).2.2.2.2).mono ?_
  rintro e w8 ⟨⟨AW, AWk, rfl, hrl⟩, hb⟩
  have HW8 := Lib.hid hrl
  have HB8 := Lib.hid (HB7.out.trans (hb.mono HB7.out.size))
  have HL8 := Lib.hid (HL7.out.below hb)
  have HX8 := Lib.hid (HX7.out.below hb)
  clear hrl hb HB7 HL7 HX7 c0 c1
  go_wp2_with fail
  refine (ints_any _ _ _ _ _ _ _ _ _ HL8.out HW8.out (by omega) (by omega)).mono ?_
  rintro e w' ⟨rfl, j1, rfl⟩
  obtain ⟨w9, hw9⟩ : ∃ W, w8.drewN j1 = W := ⟨_, rfl⟩
  have HB9 : Hid (Below W1.heap.size W1 w9) := Lib.hid (by rw [← hw9]; exact belowDrewN HB8.out j1)
  have hx9 : Below w8.heap.size w8 w9 := by rw [← hw9]; exact belowDrewN (Below.refl _ _) j1
  have HX9 := Lib.hid (HX8.out.below hx9)
  rw [hw9]
  clear hw9 hx9 HB8 HL8 HX8 HW8
  obtain ⟨c0, c1⟩ := (HK.out _ (HB9.out)).1
  go_wp2_with fail
  refine (CWP.out _).mono ?_
  rintro e w' ⟨rfl, rfl⟩
  go_wp2
  go_ret
  exact ⟨rfl, (HK.out _ HB9.out).2.1⟩

set_option maxRecDepth 100000 in
set_option maxHeartbeats 4000000 in
theorem paths_turn (A : Option Addr) (n c : Nat) (b : Int) (rows : List (List Int)) (pitch : Int) (w : World) (hl : LaidSides w) (hr : RdGo w A n rows) (hgb : gridB 40 12 rows = true) (hw : fromB 17 40 [(n : Int)] = false) (hm203 : ∀ j, j < n → (rows.getD j []).length ≤ 203) (hn42 : n ≤ 42) (k1 : Nat) (hk1 : k1 ≤ 1000) (m1 : Int) (L1 : List Int) (k2 : Nat) (hk2 : k2 ≤ 1000) (m2 : Int) (L2 : List Int) (hp : fromB (-12) 12 [pitch] = true)
    (CBP : Hid (∀ A' c' W, RdGN W A' n rows → Calls Tryd.prog 22 #[.agg #[.slice A' n c', .int .i64 b]] W fun e w' => (∃ A2 c2, e = .returned (.tuple #[.slice A2 k1 c2, .int .i64 m1, .int .i64 0]) ∧ RdI w' A2 k1 L1) ∧ Below W.heap.size W w'))
    (CTP : Hid (∀ A' c' W, RdGN W A' n rows → Calls Tryd.prog 24 #[.agg #[.slice A' n c', .int .i64 b], .int .i64 pitch] W fun e w' => (∃ A2 c2, e = .returned (.tuple #[.slice A2 k2 c2, .int .i64 m2, .int .i64 0]) ∧ RdI w' A2 k2 L2) ∧ Below W.heap.size W w'))
    (CTE : Hid (∀ W, RdGN W A n rows → Calls Tryd.prog 25 #[.agg #[.slice A n c, .int .i64 b]] W fun e w' => e = .returned (.int .i64 0) ∧ Below W.heap.size W w'))
    (CBS : Hid (∀ W, RdGN W A n rows → Calls Tryd.prog 26 #[.agg #[.slice A n c, .int .i64 b]] W fun e w' => (∃ A2 c2, e = .returned (.tuple #[.slice A2 k1 c2, .int .i64 m1]) ∧ RdI w' A2 k1 L1) ∧ Below W.heap.size W w'))
    (CTN : Hid (∀ W, RdGN W A n rows → Calls Tryd.prog 28 #[.agg #[.slice A n c, .int .i64 b], .int .i64 pitch] W fun e w' => (∃ A2 c2, e = .returned (.tuple #[.slice A2 k2 c2, .int .i64 m2, .bool true]) ∧ RdI w' A2 k2 L2) ∧ Below W.heap.size W w')) :
    Calls Tryd.prog 6 #[.agg #[.slice A n c, .int .i64 b], .int .i64 pitch] w fun e w' => e = .returned (.bool true) ∧ Below w.heap.size w w' := by
  obtain ⟨W1, hW1⟩ : ∃ W, w.alloc (.cells #[.slice A n c, .int .i64 b] 58) = W := ⟨_, rfl⟩
  have hb1 : Below w.heap.size w W1 := by rw [← hW1]; exact (Below.refl _ _).alloc (Nat.le_refl _) _
  have k0 : Bk W1 w.heap.size 58 #[.slice A n c, .int .i64 b] := by rw [← hW1]; exact Bk.new _ _ _
  have HK : Hid (∀ W, Below W1.heap.size W1 W → (W.cell? ⟨w.heap.size, 0, none⟩ = some (.slice A n c) ∧ W.cell? ⟨w.heap.size, 1, none⟩ = some (.int .i64 b)) ∧ Below w.heap.size w W ∧ LaidSides W ∧ RdGo W A n rows ∧ RdGN W A n rows) := Lib.hid (fun W hb => by
    have h0 := k0.later hb
    have hb2 := hb1.trans (hb.mono hb1.size)
    exact ⟨⟨by rw [h0.cell]; rfl, by rw [h0.cell]; rfl⟩, hb2, hl.later hb2, hr.below hb2, (hr.full hm203).below hb2⟩)
  have CWN : Hid (∀ W, Calls Tryd.prog 18 #[.int .i64 (n : Int), .int .i64 17, .int .i64 40] W fun e w' => e = .returned (.bool false) ∧ W = w') := Lib.hid (fun W => by
    have h := within_any (n : Int) 17 40 W
    rw [show fromB 17 40 [(n : Int)] = false from hw] at h
    exact h)
  clear hw
  have CCP : Hid (∀ W, RdGN W A n rows → Calls Tryd.prog 23 #[.agg #[.slice A n c, .int .i64 b]] W fun e w' => (∃ A' c', e = .returned (.agg #[.slice A' n c', .int .i64 b]) ∧ RdGN w' A' n rows) ∧ Below W.heap.size W w') := Lib.hid (fun W h => copyTask_any A n c rows b W h (by omega) hm203)
  have CWP : Hid (∀ W, Calls Tryd.prog 18 #[.int .i64 pitch, .int .i64 (-12), .int .i64 12] W fun e w' => e = .returned (.bool true) ∧ W = w') := Lib.hid (fun W => by rw [← hp]; exact within_any pitch (-12) 12 W)
  clear hp
  have hm1 : (m1 != m1) = false := bne_self_eq_false' _
  have hdec : decide (L1 = L1) = true := decide_eq_true rfl
  have hm2 : (m2 == m2) = true := by simp
  have hdec2 : decide (L2 = L2) = true := decide_eq_true rfl
  have CST : Hid (∀ W, RdGo W A n rows → Calls Tryd.prog 21 #[.slice A n c] W fun e w' => e = .returned (.bool true) ∧ W = w') := Lib.hid (fun W h => by rw [← hgb]; exact strip_any A n c rows W h)
  clear hr hl hb1 k0 hgb hm203
  go_enter Tryd.func6, Tryd.ntmps6
  go_upto_region 1 with (fail)
  try rw [hW1]
  clear hW1
  obtain ⟨c0, c1⟩ := (HK.out _ (Below.refl _ _)).1
  go_wp2_with fail
  refine (awake_any _ (HK.out _ (Below.refl _ _)).2.2.1).mono ?_
  rintro e w2 ⟨rfl, hb2⟩
  have HB2 : Hid (Below W1.heap.size W1 w2) := Lib.hid hb2
  clear hb2 c0 c1
  obtain ⟨c0, c1⟩ := (HK.out _ (HB2.out)).1
  go_wp2_with fail
  refine (CST.out _ (HK.out _ HB2.out).2.2.2.1).mono ?_
  rintro e w' ⟨rfl, rfl⟩
  go_wp2_with fail
  refine (CWN.out _).mono ?_
  rintro e w' ⟨rfl, rfl⟩
  go_wp2_with fail
  refine (CCP.out _ (HK.out _ HB2.out).2.2.2.2).mono ?_
  rintro e w3 ⟨⟨A3, d3, rfl, hrr⟩, hb⟩
  have HRR := Lib.hid hrr
  have HB3 := Lib.hid (HB2.out.trans (hb.mono HB2.out.size))
  clear hrr hb HB2 c0 c1
  go_wp2_with fail
  refine (CBP.out _ _ _ HRR.out).mono ?_
  rintro e w4 ⟨⟨AL, ALk, rfl, hrl⟩, hb⟩
  have HL4 := Lib.hid hrl
  have HB4 := Lib.hid (HB3.out.trans (hb.mono HB3.out.size))
  clear hrl hb HB3 HRR
  obtain ⟨c0, c1⟩ := (HK.out _ (HB4.out)).1
  go_wp2_with fail
  refine (CCP.out _ (HK.out _ HB4.out).2.2.2.2).mono ?_
  rintro e w5 ⟨⟨A5, d5, rfl, hrr⟩, hb⟩
  have HRR := Lib.hid hrr
  have HB5 := Lib.hid (HB4.out.trans (hb.mono HB4.out.size))
  have HL5 := Lib.hid (HL4.out.below hb)
  clear hrr hb HB4 c0 c1 HL4
  go_wp2_with fail
  refine (CTP.out _ _ _ HRR.out).mono ?_
  rintro e w6 ⟨⟨AX, AXk, rfl, hrl⟩, hb⟩
  have HX6 := Lib.hid hrl
  have HB6 := Lib.hid (HB5.out.trans (hb.mono HB5.out.size))
  have HL6 := Lib.hid (HL5.out.below hb)
  clear hrl hb HB5 HRR HL5
  obtain ⟨c0, c1⟩ := (HK.out _ (HB6.out)).1
  go_wp2_with fail
  refine (CTE.out _ (HK.out _ HB6.out).2.2.2.2).mono ?_
  rintro e w7 ⟨rfl, hb⟩
  have HB7 := Lib.hid (HB6.out.trans (hb.mono HB6.out.size))
  have HL7 := Lib.hid (HL6.out.below hb)
  have HX7 := Lib.hid (HX6.out.below hb)
  clear hb HB6 c0 c1 HL6 HX6
  obtain ⟨c0, c1⟩ := (HK.out _ (HB7.out)).1
  go_wp2_with fail
  refine (CBS.out _ (HK.out _ HB7.out).2.2.2.2).mono ?_
  rintro e w8 ⟨⟨AW, AWk, rfl, hrl⟩, hb⟩
  have HW8 := Lib.hid hrl
  have HB8 := Lib.hid (HB7.out.trans (hb.mono HB7.out.size))
  have HL8 := Lib.hid (HL7.out.below hb)
  have HX8 := Lib.hid (HX7.out.below hb)
  clear hrl hb HB7 HL7 HX7 c0 c1
  go_wp2_with fail
  refine (ints_any _ _ _ _ _ _ _ _ _ HL8.out HW8.out (by omega) (by omega)).mono ?_
  rintro e w' ⟨rfl, j1, rfl⟩
  obtain ⟨w9, hw9⟩ : ∃ W, w8.drewN j1 = W := ⟨_, rfl⟩
  have HB9 : Hid (Below W1.heap.size W1 w9) := Lib.hid (by rw [← hw9]; exact belowDrewN HB8.out j1)
  have hx9 : Below w8.heap.size w8 w9 := by rw [← hw9]; exact belowDrewN (Below.refl _ _) j1
  have HX9 := Lib.hid (HX8.out.below hx9)
  rw [hw9]
  clear hw9 hx9 HB8 HL8 HX8 HW8
  obtain ⟨c0, c1⟩ := (HK.out _ (HB9.out)).1
  go_wp2_with fail
  refine (CWP.out _).mono ?_
  rintro e w' ⟨rfl, rfl⟩
  go_wp2_with fail
  refine (CTN.out _ (HK.out _ HB9.out).2.2.2.2).mono ?_
  rintro e w10 ⟨⟨AT, ATk, rfl, hrl⟩, hb⟩
  have HT10 := Lib.hid hrl
  have HB10 := Lib.hid (HB9.out.trans (hb.mono HB9.out.size))
  have HX10 := Lib.hid (HX9.out.below hb)
  clear hrl hb HB9 HX9 c0 c1
  go_wp2_with fail
  refine (ints_any _ _ _ _ _ _ _ _ _ HX10.out HT10.out (by omega) (by omega)).mono ?_
  rintro e w' ⟨rfl, j2, rfl⟩
  have HB11 : Hid (Below W1.heap.size W1 (w10.drewN j2)) := Lib.hid (belowDrewN HB10.out j2)
  go_wp2
  go_ret
  exact ⟨rfl, (HK.out _ HB11.out).2.1⟩

set_option maxRecDepth 100000 in
set_option maxHeartbeats 4000000 in
theorem paths_none (A : Option Addr) (n c : Nat) (b : Int) (rows : List (List Int)) (pitch : Int) (w : World) (hl : LaidSides w) (hr : RdGo w A n rows) (hgb : gridB 40 12 rows = true) (hw : fromB 17 40 [(n : Int)] = false) (hm203 : ∀ j, j < n → (rows.getD j []).length ≤ 203) (hn42 : n ≤ 42) (k1 : Nat) (hk1 : k1 ≤ 1000) (m1 : Int) (L1 : List Int) (hp : fromB (-12) 12 [pitch] = true) (k3 : Nat) (m3 : Int) (L3 : List Int)
    (CBP : Hid (∀ A' c' W, RdGN W A' n rows → Calls Tryd.prog 22 #[.agg #[.slice A' n c', .int .i64 b]] W fun e w' => (∃ A2 c2, e = .returned (.tuple #[.slice A2 k1 c2, .int .i64 m1, .int .i64 0]) ∧ RdI w' A2 k1 L1) ∧ Below W.heap.size W w'))
    (CTP : Hid (∀ A' c' W, RdGN W A' n rows → Calls Tryd.prog 24 #[.agg #[.slice A' n c', .int .i64 b], .int .i64 pitch] W fun e w' => (∃ A2 c2, e = .returned (.tuple #[.slice A2 0 c2, .int .i64 0, .int .i64 12]) ∧ RdI w' A2 0 []) ∧ Below W.heap.size W w'))
    (CTE : Hid (∀ W, RdGN W A n rows → Calls Tryd.prog 25 #[.agg #[.slice A n c, .int .i64 b]] W fun e w' => e = .returned (.int .i64 0) ∧ Below W.heap.size W w'))
    (CBS : Hid (∀ W, RdGN W A n rows → Calls Tryd.prog 26 #[.agg #[.slice A n c, .int .i64 b]] W fun e w' => (∃ A2 c2, e = .returned (.tuple #[.slice A2 k1 c2, .int .i64 m1]) ∧ RdI w' A2 k1 L1) ∧ Below W.heap.size W w'))
    (CTN : Hid (∀ W, RdGN W A n rows → Calls Tryd.prog 28 #[.agg #[.slice A n c, .int .i64 b], .int .i64 pitch] W fun e w' => (∃ A2 c2, e = .returned (.tuple #[.slice A2 k3 c2, .int .i64 m3, .bool false]) ∧ RdI w' A2 k3 L3) ∧ Below W.heap.size W w')) :
    Calls Tryd.prog 6 #[.agg #[.slice A n c, .int .i64 b], .int .i64 pitch] w fun e w' => e = .returned (.bool true) ∧ Below w.heap.size w w' := by
  obtain ⟨W1, hW1⟩ : ∃ W, w.alloc (.cells #[.slice A n c, .int .i64 b] 58) = W := ⟨_, rfl⟩
  have hb1 : Below w.heap.size w W1 := by rw [← hW1]; exact (Below.refl _ _).alloc (Nat.le_refl _) _
  have k0 : Bk W1 w.heap.size 58 #[.slice A n c, .int .i64 b] := by rw [← hW1]; exact Bk.new _ _ _
  have HK : Hid (∀ W, Below W1.heap.size W1 W → (W.cell? ⟨w.heap.size, 0, none⟩ = some (.slice A n c) ∧ W.cell? ⟨w.heap.size, 1, none⟩ = some (.int .i64 b)) ∧ Below w.heap.size w W ∧ LaidSides W ∧ RdGo W A n rows ∧ RdGN W A n rows) := Lib.hid (fun W hb => by
    have h0 := k0.later hb
    have hb2 := hb1.trans (hb.mono hb1.size)
    exact ⟨⟨by rw [h0.cell]; rfl, by rw [h0.cell]; rfl⟩, hb2, hl.later hb2, hr.below hb2, (hr.full hm203).below hb2⟩)
  have CWN : Hid (∀ W, Calls Tryd.prog 18 #[.int .i64 (n : Int), .int .i64 17, .int .i64 40] W fun e w' => e = .returned (.bool false) ∧ W = w') := Lib.hid (fun W => by
    have h := within_any (n : Int) 17 40 W
    rw [show fromB 17 40 [(n : Int)] = false from hw] at h
    exact h)
  clear hw
  have CCP : Hid (∀ W, RdGN W A n rows → Calls Tryd.prog 23 #[.agg #[.slice A n c, .int .i64 b]] W fun e w' => (∃ A' c', e = .returned (.agg #[.slice A' n c', .int .i64 b]) ∧ RdGN w' A' n rows) ∧ Below W.heap.size W w') := Lib.hid (fun W h => copyTask_any A n c rows b W h (by omega) hm203)
  have CWP : Hid (∀ W, Calls Tryd.prog 18 #[.int .i64 pitch, .int .i64 (-12), .int .i64 12] W fun e w' => e = .returned (.bool true) ∧ W = w') := Lib.hid (fun W => by rw [← hp]; exact within_any pitch (-12) 12 W)
  clear hp
  have hm1 : (m1 != m1) = false := bne_self_eq_false' _
  have hdec : decide (L1 = L1) = true := decide_eq_true rfl
  have CST : Hid (∀ W, RdGo W A n rows → Calls Tryd.prog 21 #[.slice A n c] W fun e w' => e = .returned (.bool true) ∧ W = w') := Lib.hid (fun W h => by rw [← hgb]; exact strip_any A n c rows W h)
  clear hr hl hb1 k0 hgb hm203
  go_enter Tryd.func6, Tryd.ntmps6
  go_upto_region 1 with (fail)
  try rw [hW1]
  clear hW1
  obtain ⟨c0, c1⟩ := (HK.out _ (Below.refl _ _)).1
  go_wp2_with fail
  refine (awake_any _ (HK.out _ (Below.refl _ _)).2.2.1).mono ?_
  rintro e w2 ⟨rfl, hb2⟩
  have HB2 : Hid (Below W1.heap.size W1 w2) := Lib.hid hb2
  clear hb2 c0 c1
  obtain ⟨c0, c1⟩ := (HK.out _ (HB2.out)).1
  go_wp2_with fail
  refine (CST.out _ (HK.out _ HB2.out).2.2.2.1).mono ?_
  rintro e w' ⟨rfl, rfl⟩
  go_wp2_with fail
  refine (CWN.out _).mono ?_
  rintro e w' ⟨rfl, rfl⟩
  go_wp2_with fail
  refine (CCP.out _ (HK.out _ HB2.out).2.2.2.2).mono ?_
  rintro e w3 ⟨⟨A3, d3, rfl, hrr⟩, hb⟩
  have HRR := Lib.hid hrr
  have HB3 := Lib.hid (HB2.out.trans (hb.mono HB2.out.size))
  clear hrr hb HB2 c0 c1
  go_wp2_with fail
  refine (CBP.out _ _ _ HRR.out).mono ?_
  rintro e w4 ⟨⟨AL, ALk, rfl, hrl⟩, hb⟩
  have HL4 := Lib.hid hrl
  have HB4 := Lib.hid (HB3.out.trans (hb.mono HB3.out.size))
  clear hrl hb HB3 HRR
  obtain ⟨c0, c1⟩ := (HK.out _ (HB4.out)).1
  go_wp2_with fail
  refine (CCP.out _ (HK.out _ HB4.out).2.2.2.2).mono ?_
  rintro e w5 ⟨⟨A5, d5, rfl, hrr⟩, hb⟩
  have HRR := Lib.hid hrr
  have HB5 := Lib.hid (HB4.out.trans (hb.mono HB4.out.size))
  have HL5 := Lib.hid (HL4.out.below hb)
  clear hrr hb HB4 c0 c1 HL4
  go_wp2_with fail
  refine (CTP.out _ _ _ HRR.out).mono ?_
  rintro e w6 ⟨⟨AX, AXk, rfl, hrl⟩, hb⟩
  have HX6 := Lib.hid hrl
  have HB6 := Lib.hid (HB5.out.trans (hb.mono HB5.out.size))
  have HL6 := Lib.hid (HL5.out.below hb)
  clear hrl hb HB5 HRR HL5
  obtain ⟨c0, c1⟩ := (HK.out _ (HB6.out)).1
  go_wp2_with fail
  refine (CTE.out _ (HK.out _ HB6.out).2.2.2.2).mono ?_
  rintro e w7 ⟨rfl, hb⟩
  have HB7 := Lib.hid (HB6.out.trans (hb.mono HB6.out.size))
  have HL7 := Lib.hid (HL6.out.below hb)
  have HX7 := Lib.hid (HX6.out.below hb)
  clear hb HB6 c0 c1 HL6 HX6
  obtain ⟨c0, c1⟩ := (HK.out _ (HB7.out)).1
  go_wp2_with fail
  refine (CBS.out _ (HK.out _ HB7.out).2.2.2.2).mono ?_
  rintro e w8 ⟨⟨AW, AWk, rfl, hrl⟩, hb⟩
  have HW8 := Lib.hid hrl
  have HB8 := Lib.hid (HB7.out.trans (hb.mono HB7.out.size))
  have HL8 := Lib.hid (HL7.out.below hb)
  have HX8 := Lib.hid (HX7.out.below hb)
  clear hrl hb HB7 HL7 HX7 c0 c1
  go_wp2_with fail
  refine (ints_any _ _ _ _ _ _ _ _ _ HL8.out HW8.out (by omega) (by omega)).mono ?_
  rintro e w' ⟨rfl, j1, rfl⟩
  obtain ⟨w9, hw9⟩ : ∃ W, w8.drewN j1 = W := ⟨_, rfl⟩
  have HB9 : Hid (Below W1.heap.size W1 w9) := Lib.hid (by rw [← hw9]; exact belowDrewN HB8.out j1)
  have hx9 : Below w8.heap.size w8 w9 := by rw [← hw9]; exact belowDrewN (Below.refl _ _) j1
  have HX9 := Lib.hid (HX8.out.below hx9)
  rw [hw9]
  clear hw9 hx9 HB8 HL8 HX8 HW8
  obtain ⟨c0, c1⟩ := (HK.out _ (HB9.out)).1
  go_wp2_with fail
  refine (CWP.out _).mono ?_
  rintro e w' ⟨rfl, rfl⟩
  go_wp2_with fail
  refine (CTN.out _ (HK.out _ HB9.out).2.2.2.2).mono ?_
  rintro e w10 ⟨⟨AT, ATk, rfl, hrl⟩, hb⟩
  have HT10 := Lib.hid hrl
  have HB10 := Lib.hid (HB9.out.trans (hb.mono HB9.out.size))
  have HX10 := Lib.hid (HX9.out.below hb)
  clear hrl hb HB9 HX9 c0 c1
  go_wp2
  go_ret
  exact ⟨rfl, (HK.out _ HB10.out).2.1⟩

theorem res3 {w w' : World} {E m : Int} {xs : List Int} {e : Ending} (h : OwnRes3 w E m xs e w') : (∃ A2 c2, e = .returned (.tuple #[.slice A2 xs.length c2, .int .i64 m, .int .i64 E]) ∧ RdI w' A2 xs.length xs) ∧ Below w.heap.size w w' := by
  obtain ⟨⟨v, he, ho⟩, hb⟩ := h
  obtain ⟨A, c, e2, _, hr, _⟩ := rd_ownN ho
  exact ⟨⟨A, c, by rw [he, e2], hr⟩, hb⟩
theorem paths_walk (A : Option Addr) (n c : Nat) (b : Int) (rows : List (List Int)) (pitch : Int) (w : World) (hl : LaidSides w) (hr : RdGo w A n rows) :
    Calls Tryd.prog 6 #[.agg #[.slice A n c, .int .i64 b], .int .i64 pitch] w fun e w' => e = .returned (.bool true) ∧ Below w.heap.size w w' := by
  cases hgb : gridB 40 12 rows with
  | false => exact paths_wide A n c b rows pitch w hl hr hgb
  | true =>
    obtain ⟨h1, h2⟩ := gridB_partsO hgb
    rw [hr.1] at h1 h2
    have hm203 : ∀ j, j < n → (rows.getD j []).length ≤ 203 := fun j hj => by have := h2 j hj; omega
    cases hw : fromB 17 40 [(n : Int)] with
    | true => exact paths_many A n c b rows pitch w hl hr hgb hw
    | false =>
      have CBP := Lib.hid (fun A' c' W (h : RdGN W A' n rows) => (BestPath_any A' n c' rows b W h.toGO (by omega)).mono (fun e w' h => res3 h))
      have CTP := Lib.hid (fun A' c' W (h : RdGN W A' n rows) => (TurnPath_any A' n c' rows b pitch W h.toGO (by omega)).mono (fun e w' h => res3 h))
      have CTE := Lib.hid (fun W (h : RdGN W A n rows) => refTaskErr_any A n c rows b W h.toGO (by omega))
      by_cases hE : taskE rows b = 0
      · have ht := tk_of hE
        rw [hr.1] at ht
        have hn0 := ht.n0
        obtain ⟨ad, rfl, _⟩ := hr.2 hn0
        have hbl : bestL rows b = bestTo (fun _ _ => true) b (colsOf rows) rows (colsOf rows) := if_pos hE
        have hfin : (bestTo (fun _ _ => true) b (colsOf rows) rows (colsOf rows)).2 < 50200 := by
          have := best_fin ht (colsOf rows - 1) (by have := ht.m0; omega)
          rwa [show colsOf rows - 1 + 1 = colsOf rows by have := ht.m0; omega] at this
        have hbs : bst (bestTo (fun _ _ => true) b (colsOf rows) rows (colsOf rows)) = (bestTo (fun _ _ => true) b (colsOf rows) rows (colsOf rows)).2 := if_pos hfin
        have CBS := Lib.hid (fun W (h : RdGN W (some ad) n rows) => refBest_any ad n c rows b (colsOf rows) W h ht)
        have hk1 : (bestTo (fun _ _ => true) b (colsOf rows) rows (colsOf rows)).1.length ≤ 1000 := by rw [best_len _ ht _ hfin]; omega
        rw [hE, hbl] at CBP
        rw [hE] at CTE
        rw [hbs] at CBS
        cases hp : fromB (-12) 12 [pitch] with
        | false =>
          have hte : turnE rows b pitch = 2 := by unfold turnE; rw [if_pos hE, hp]; rfl
          have htl : turnL rows b pitch = ([], 0) := if_neg (by rw [hte]; decide)
          rw [hte, htl] at CTP
          exact paths_pitch (some ad) n c b rows pitch w hl hr hgb hw hm203 h1 _ hk1 _ _ hp CBP CTP CTE CBS
        | true =>
          have hpb := fromB_one.1 hp
          have CTN := Lib.hid (fun W (h : RdGN W (some ad) n rows) => refTurn_any ad n c rows b (colsOf rows) pitch W h ht hpb)
          by_cases hf : (bestTo (fun f l => decide ((l : Int) = (f : Int) + pitch)) b (colsOf rows) rows (colsOf rows)).2 < 50200
          · have hlen := best_len _ ht _ hf
            have hte : turnE rows b pitch = 0 := by unfold turnE turnT; rw [if_pos hE, hp, if_pos rfl, if_neg (by rw [hlen]; omega)]
            have htl : turnL rows b pitch = bestTo (fun f l => decide ((l : Int) = (f : Int) + pitch)) b (colsOf rows) rows (colsOf rows) := by unfold turnL; rw [if_pos hte]; rfl
            have hbt : bst (bestTo (fun f l => decide ((l : Int) = (f : Int) + pitch)) b (colsOf rows) rows (colsOf rows)) = (bestTo (fun f l => decide ((l : Int) = (f : Int) + pitch)) b (colsOf rows) rows (colsOf rows)).2 := if_pos hf
            have hnn := bestTo_nonneg (fun f l => decide ((l : Int) = (f : Int) + pitch)) ht (colsOf rows) (Nat.le_refl _)
            rw [hte, htl] at CTP
            rw [hbt, decide_eq_true hnn] at CTN
            exact paths_turn (some ad) n c b rows pitch w hl hr hgb hw hm203 h1 _ hk1 _ _ _ (by rw [hlen]; omega) _ _ hp CBP CTP CTE CBS CTN
          · have hnil := bestTo_len (fun f l => decide ((l : Int) = (f : Int) + pitch)) b (colsOf rows) rows (colsOf rows) (by omega)
            have hte : turnE rows b pitch = 12 := by unfold turnE turnT; rw [if_pos hE, hp, if_pos rfl, if_pos (by rw [hnil]; rfl)]
            have htl : turnL rows b pitch = ([], 0) := if_neg (by rw [hte]; decide)
            have hbt : bst (bestTo (fun f l => decide ((l : Int) = (f : Int) + pitch)) b (colsOf rows) rows (colsOf rows)) = -1 := if_neg hf
            rw [hte, htl] at CTP
            rw [hbt, show decide ((0 : Int) ≤ -1) = false from rfl] at CTN
            exact paths_none (some ad) n c b rows pitch w hl hr hgb hw hm203 h1 _ hk1 _ _ hp _ _ _ CBP CTP CTE CBS CTN
      · have hbl : bestL rows b = ([], 0) := if_neg hE
        have hte : turnE rows b pitch = taskE rows b := if_neg hE
        have htl : turnL rows b pitch = ([], 0) := if_neg (by rw [hte]; exact hE)
        rw [hbl] at CBP
        rw [hte, htl] at CTP
        exact paths_err A n c b rows pitch w hl hr hgb hw hm203 h1 _ hE CBP CTP CTE

end Go.Proofs.YtpkjkegcdddimaaDoor

