import Derived.Test.YtofdjapbofagiaaDoorGF
import Derived.Test.YtofdjapbofagiaaDoorGJ
import Derived.Test.YtofdjapbofagiaaDoorV1
namespace Go.Proofs.YtofdjapbofagiaaDoor
open Go.RowKit

/-- A row of numbers of a grid, where it lies. -/
theorem rows_at {w : World} {ad : Addr} {n m : Nat} {p : List (List Int)} (hr : RdG w (some ad) n p) (hb : ∀ r ∈ p, r.length = m) (j t : Nat) (hj : j < n) (ht : t < m) :
    ∃ bd c, w.cell? (ad.add j) = some (.slice (some bd) m c) ∧ w.cell? (bd.add t) = some (.int .i64 ((p.getD j []).getD t 0)) := by
  obtain ⟨ad', e, hlt, hc⟩ := hr.2 (by omega)
  cases e
  obtain ⟨B, m', c, h1, h2, _⟩ := hc j hj
  have hm := hb _ (getD_in p j [] (by rw [hr.1]; exact hj))
  obtain rfl : m' = m := by rw [← h2.1, hm]
  obtain ⟨bd, rfl, hbb, hcb⟩ := h2.2 (by omega)
  exact ⟨bd, c, h1, hcb t ht⟩
theorem cell_fail {rows : List (List Int)} {b : Int} {m : Nat} {p : List (List Int)} {r q d : Nat} (hr : 0 < r) (hd : d < m) (h1 : q ≤ d + 1) (h2 : d ≤ q + 1) (hq : q < m) (hpl : (p.getD (r - 1) []).length = m) (hpb : ∀ x ∈ p.getD (r - 1) [], -1000000 ≤ x ∧ x ≤ 1000000) (hb : 0 ≤ b ∧ b ≤ 1000) (h : cellV rows r q + cellV p (r - 1) d + (if (d : Int) = (q : Int) then 0 else b) < cellV p r q) : cellF rows b m p r q = 19 := by
  have hl := (chp_least (p.getD (r - 1) []) b 1000000 q m hq hpl hb.1 (by omega) hpb).2.2.2 (d : Int) (mem_nbrs (by omega) (by omega) (by omega) (by omega))
  unfold chSum at hl
  rw [Int.toNat_natCast] at hl
  unfold cellF mpF
  rw [if_neg (show ¬ r = 0 by omega)]
  rw [if_pos]
  unfold cellV at h ⊢
  omega
theorem cell_pass {rows : List (List Int)} {b : Int} {m : Nat} {p : List (List Int)} {r q : Nat} (hr : 0 < r) (hq : q < m) (hpl : (p.getD (r - 1) []).length = m) (hpb : ∀ x ∈ p.getD (r - 1) [], -1000000 ≤ x ∧ x ≤ 1000000) (hb : 0 ≤ b ∧ b ≤ 1000) (h : ∀ d : Nat, d < m → q ≤ d + 1 → d ≤ q + 1 → cellV p r q ≤ cellV rows r q + cellV p (r - 1) d + (if (d : Int) = (q : Int) then 0 else b)) : cellF rows b m p r q = 0 := by
  obtain ⟨x, hx, e⟩ := (chp_least (p.getD (r - 1) []) b 1000000 q m hq hpl hb.1 (by omega) hpb).1
  have hn := nbrs_near hq hx
  obtain ⟨d, rfl⟩ : ∃ d : Nat, x = (d : Int) := ⟨x.toNat, by omega⟩
  have h1 := h d (by omega) (by omega) (by omega)
  unfold chSum at e
  rw [Int.toNat_natCast] at e
  unfold cellF mpF
  rw [if_neg (show ¬ r = 0 by omega), e]
  rw [if_neg]
  unfold cellV at h1 ⊢
  omega

set_option maxRecDepth 100000 in
set_option maxHeartbeats 16000000 in
theorem refPricesErr_same (ad : Addr) (n c m c' : Nat) (B : Option Addr) (rows : List (List Int)) (b : Int) (PA : Option Addr) (cp : Nat) (p : List (List Int)) (w : World) (hr : RdG w (some ad) n rows) (hn : 0 < n ∧ n ≤ 1000000) (hm : 0 < m ∧ m ≤ 1000000) (hadb : ad.block < w.heap.size) (hck : w.cell? ad = some (.slice B m c')) (hp : RdG w PA n p) (hbb : 0 ≤ b ∧ b ≤ 1000) (hg : ∀ r ∈ rows, r.length = m ∧ ∀ x ∈ r, 0 ≤ x ∧ x ≤ 255) :
    Calls Tryd.prog 38 #[.agg #[.slice (some ad) n c, .int .i64 b], .slice PA n cp] w fun e w' => e = .returned (.int .i64 (pricesE rows b n m p)) ∧ Below w.heap.size w w' := by
  have hb0 : Below w.heap.size w (w.alloc (.cells #[.slice (some ad) n c, .int .i64 b] 53)) := (Below.refl _ w).alloc (Nat.le_refl _) _
  have HR1 := Lib.hid (hr.below hb0)
  have HP1 := Lib.hid (hp.below hb0)
  have HB0 := Lib.hid hb0
  have HK : Hid ((w.alloc (.cells #[.slice (some ad) n c, .int .i64 b] 53)).cell? ad = some (.slice B m c')) := (hb0.cell hadb).trans hck
  have HN := Lib.hid (Bk.new w 53 #[.slice (some ad) n c, .int .i64 b])
  have HPL : Hid (p.length = n) := hp.1
  have hPE : pricesE rows b n m p = if rowsE m (-1000000) 1000000 p = 0 then firstF (rowF rows b m p) n else rowsE m (-1000000) 1000000 p := by unfold pricesE; rw [if_pos hp.1]
  obtain ⟨E, hE⟩ : ∃ E, pricesE rows b n m p = E := ⟨_, rfl⟩
  rw [hE] at hPE ⊢
  have HPE := Lib.hid hPE
  have HBB := Lib.hid hbb
  have HG := Lib.hid hg
  have hne : ((n : Int) != (n : Int)) = false := bne_self_eq_false' _
  have hnI : (0 : Int) < (n : Int) := by omega
  have hnb : n ≤ 1000000 := hn.2
  have hn0 : 0 < n := hn.1
  have hmb : m ≤ 1000000 := hm.2
  have hm0 : 0 < m := hm.1
  obtain ⟨W1, hW1⟩ : ∃ W, (w.alloc (.cells #[.slice (some ad) n c, .int .i64 b] 53)) = W := ⟨_, rfl⟩
  obtain ⟨g, hgw⟩ : ∃ g, w.heap.size = g := ⟨_, rfl⟩
  rw [hW1] at HR1 HP1 HB0 HK HN
  rw [hgw] at HN
  have HGW := Lib.hid hgw
  have HQ : Hid (∀ W, Below W1.heap.size W1 W → W.cell? ⟨g, 0, none⟩ = some (.slice (some ad) n c) ∧ W.cell? ⟨g, 1, none⟩ = some (.int .i64 b)) := fun W h => ⟨by rw [(HN.out.later h).cell]; rfl, by rw [(HN.out.later h).cell]; rfl⟩
  have n0 := (HQ.out _ (Below.refl _ _)).1
  have k0 := HK.out
  clear hr hp hb0 hck hadb hbb hg hPE hE hn hm
  go_enter Tryd.func38, Tryd.ntmps38
  try simp only [hgw]
  go_wp2
  clear hW1 hne n0 k0
  go_loop [6] (fun i => ∃ r : Nat, r ≤ n ∧ i = .int .i64 (r : Int) ∧ Hid (rowsE m (-1000000) 1000000 p = rowsE m (-1000000) 1000000 (p.drop r))) (fun i => n - (intOf i).toNat)
  case atStart => exact ⟨0, Nat.zero_le _, rfl, rfl⟩
  case round =>
    obtain ⟨r, hr, rfl, HE2⟩ := hrel
    by_cases hlt : r < n
    · have hrI : (r : Int) < (n : Int) := by omega
      have hr0 : (0 : Int) ≤ (r : Int) := by omega
      obtain ⟨pd, hPA, hpdb, hc⟩ := HP1.out.2 (by omega)
      subst hPA
      obtain ⟨Br, mr, cr, hck, hrow, hmr⟩ := hc r hlt
      have hst := rowsE_step m (-1000000) 1000000 p r (by rw [HPL.out]; exact hlt)
      obtain ⟨xs, hxs⟩ : ∃ xs, p.getD r [] = xs := ⟨_, rfl⟩
      rw [hxs] at hrow hst
      have HST := Lib.hid hst
      have HROW := Lib.hid hrow
      have HXL : Hid (xs.length = mr) := hrow.1
      clear hc hst hxs hrow
      by_cases hmm : mr = m
      · subst hmm
        have hmq : ((mr : Int) != (mr : Int)) = false := bne_self_eq_false' _
        go_wp2
        go_loop [7] (fun i => ∃ t : Nat, t ≤ mr ∧ i = .int .i64 (t : Int) ∧ Hid (fromB (-1000000) 1000000 xs = fromB (-1000000) 1000000 (xs.drop t))) (fun i => mr - (intOf i).toNat)
        case atStart => exact ⟨0, Nat.zero_le _, rfl, rfl⟩
        case round =>
          obtain ⟨t, ht, rfl, HF⟩ := hrel
          by_cases htl : t < mr
          · have htI : (t : Int) < (mr : Int) := by omega
            have ht0 : (0 : Int) ≤ (t : Int) := by omega
            obtain ⟨bd, hbd, _, hcb⟩ := HROW.out.2 (by omega)
            have y1 := hcb t htl
            clear hcb
            subst hbd
            have hfs := fromB_step (-1000000) 1000000 xs t (by rw [HXL.out]; exact htl)
            obtain ⟨y, hy⟩ : ∃ y, xs.getD t 0 = y := ⟨_, rfl⟩
            rw [hy] at y1 hfs
            have HFS := Lib.hid hfs
            clear hfs hy
            by_cases hin : -1000000 ≤ y ∧ y ≤ 1000000
            · have CW : Hid (∀ W, Calls Tryd.prog 30 #[.int .i64 y, .int .i64 (-1000000), .int .i64 1000000] W fun e w' => e = .returned (.bool true) ∧ W = w') := fun W => by
                have h := within_any y (-1000000) 1000000 W
                rw [fromB_one.2 hin] at h
                exact h
              have HF2 : Hid (fromB (-1000000) 1000000 xs = fromB (-1000000) 1000000 (xs.drop (t + 1))) := by show _ = _; rw [HF.out, HFS.out, decide_eq_true hin.1, decide_eq_true hin.2]; rfl
              clear hin
              go_wp2_with fail
              refine (CW.out _).mono ?_
              rintro e w' ⟨rfl, rfl⟩
              go_wp2
              go_round
              case rel => exact ⟨t + 1, by omega, by go_num, HF2.out⟩
              case measure => simp [intOf]; omega
            · have CW : Hid (∀ W, Calls Tryd.prog 30 #[.int .i64 y, .int .i64 (-1000000), .int .i64 1000000] W fun e w' => e = .returned (.bool false) ∧ W = w') := fun W => by
                have h := within_any y (-1000000) 1000000 W
                rw [show fromB (-1000000) 1000000 [y] = false by rw [Bool.eq_false_iff]; intro e; exact hin (fromB_one.1 e)] at h
                exact h
              have HF2 : Hid (fromB (-1000000) 1000000 xs = false) := by
                show _ = _
                rw [HF.out, HFS.out]
                by_cases h1 : -1000000 ≤ y
                · rw [show decide (y ≤ 1000000) = false from decide_eq_false (by omega)]; simp
                · rw [show decide ((-1000000 : Int) ≤ y) = false from decide_eq_false (by omega)]; simp
              have HE3 : Hid (E = 2) := by
                show _ = _
                have h1 : rowE mr (-1000000) 1000000 xs = 2 := by unfold rowE; rw [if_pos HXL.out, HF2.out]; rfl
                have h2 : rowsE mr (-1000000) 1000000 p = 2 := by rw [HE2.out, HST.out, h1]; rfl
                rw [HPE.out, h2]; rfl
              clear hin
              go_wp2_with fail
              refine (CW.out _).mono ?_
              rintro e w' ⟨rfl, rfl⟩
              go_wp2
              go_ret
              refine ⟨by rw [HE3.out]; rfl, ?_⟩
              first | exact HB0.out | (rw [← HGW.out]; exact HB0.out)
          · obtain rfl : mr = t := by omega
            have HF2 : Hid (rowE mr (-1000000) 1000000 xs = 0) := by
              show _ = _
              unfold rowE
              rw [if_pos HXL.out, HF.out, List.drop_eq_nil_of_le (by rw [HXL.out]; exact Nat.le_refl _)]
              rfl
            have HE3 : Hid (rowsE mr (-1000000) 1000000 p = rowsE mr (-1000000) 1000000 (p.drop (r + 1))) := by show _ = _; rw [HE2.out, HST.out, if_pos HF2.out]
            clear HF
            go_wp2
            go_round
            case rel => exact ⟨r + 1, by omega, by go_num, HE3.out⟩
            case measure => simp [intOf]; omega
      · have hmq : ((mr : Int) != (m : Int)) = true := by rw [bne_iff_ne]; omega
        have HE3 : Hid (E = 10) := by
          show _ = _
          have h1 : rowE m (-1000000) 1000000 xs = 10 := by unfold rowE; rw [if_neg (by rw [HXL.out]; exact hmm)]
          have h2 : rowsE m (-1000000) 1000000 p = 10 := by rw [HE2.out, HST.out, h1]; rfl
          rw [HPE.out, h2]; rfl
        go_wp2
        go_ret
        refine ⟨by rw [HE3.out]; rfl, ?_⟩
        first | exact HB0.out | (rw [← HGW.out]; exact HB0.out)
    · obtain rfl : n = r := by omega
      have hre : rowsE m (-1000000) 1000000 p = 0 := by rw [HE2.out, List.drop_eq_nil_of_le (by rw [HPL.out]; exact Nat.le_refl _)]; rfl
      have HEE : Hid (E = firstF (rowF rows b m p) n) := by show _ = _; rw [HPE.out, if_pos hre]
      have hpg : ∀ r ∈ p, r.length = m ∧ ∀ x ∈ r, -1000000 ≤ x ∧ x ≤ 1000000 := fun r hr => ⟨(rowsE_zero hre r hr).1, fromB_all (rowsE_zero hre r hr).2⟩
      have HPG := Lib.hid hpg
      obtain ⟨pd, hPA, hpdb, _⟩ := HP1.out.2 hn0
      subst hPA
      clear hre hpg HE2 hlt hr
      go_wp2
      go_loopw [8] (fun i wr => ∃ r : Nat, r ≤ n ∧ i = .int .i64 (r : Int) ∧ Hid (firstF (rowF rows b m p) r = 0) ∧ Hid (Below W1.heap.size W1 wr)) (fun i _ => n - (intOf i).toNat)
      case atStart => exact ⟨0, Nat.zero_le _, rfl, rfl, Below.refl _ _⟩
      case round =>
        obtain ⟨r, hr, rfl, HF, HX⟩ := hrel
        obtain ⟨wo, hwo⟩ : ∃ W, W = wr := ⟨_, rfl⟩
        subst hwo
        by_cases hlt : r < n
        · have hrI : (r : Int) < (n : Int) := by omega
          have hr0 : (0 : Int) ≤ (r : Int) := by omega
          go_wp2
          go_loopw [9] (fun i wq => ∃ q : Nat, q ≤ m ∧ i = .int .i64 (q : Int) ∧ Hid (firstF (cellF rows b m p r) q = 0) ∧ Hid (Below W1.heap.size W1 wq)) (fun i _ => m - (intOf i).toNat)
          case atStart => exact ⟨0, Nat.zero_le _, rfl, rfl, HX.out⟩
          case round =>
            obtain ⟨q, hq, rfl, HFC, HY⟩ := hrel
            obtain ⟨wi, hwi⟩ : ∃ W, W = wr := ⟨_, rfl⟩
            subst hwi
            by_cases hqm : q < m
            · have hqI : (q : Int) < (m : Int) := by omega
              have hq0 : (0 : Int) ≤ (q : Int) := by omega
              obtain ⟨g0, g1⟩ := HQ.out _ HY.out
              obtain ⟨lo, hlo⟩ : ∃ lo, q - 1 = lo := ⟨_, rfl⟩
              by_cases h0 : r = 0
              · subst h0
                obtain ⟨b0, c0, k1, k2⟩ := rows_at (HP1.out.below HY.out) (fun r hr => (HPG.out r hr).1) 0 q hn0 hqm
                obtain ⟨d0, e0, k3, k4⟩ := rows_at (HR1.out.below HY.out) (fun r hr => (HG.out r hr).1) 0 q hn0 hqm
                rw [addZ] at k1 k3
                have HCF : Hid (cellF rows b m p 0 q = if cellV rows 0 q < cellV p 0 q then 19 else 0) := by show _ = _; unfold cellF mpF; rw [if_pos rfl, Int.add_zero]
                obtain ⟨x, hx⟩ : ∃ x, (p.getD 0 []).getD q 0 = x := ⟨_, rfl⟩
                obtain ⟨v, hv⟩ : ∃ v, (rows.getD 0 []).getD q 0 = v := ⟨_, rfl⟩
                rw [show cellV rows 0 q = v from hv, show cellV p 0 q = x from hx] at HCF
                rw [hx] at k2
                rw [hv] at k4
                have HS0 : Hid ((fun w' : World => w'.cell? pd = some (.slice (some b0) m c0) ∧ w'.cell? (b0.add q) = some (.int .i64 x) ∧ w'.cell? ⟨g, 0, none⟩ = some (.slice (some ad) n c) ∧ w'.cell? ad = some (.slice (some d0) m e0) ∧ w'.cell? (d0.add q) = some (.int .i64 v) ∧ Below wi.heap.size wi w') wi.drew) := ⟨k1, k2, g0, k3, k4, (Below.refl _ _).drew⟩
                have hrq : (((0 : Nat) : Int) == 0) = true := rfl
                clear hx hv k1 k2 k3 k4
                by_cases hgt : v < x
                · have hdc : decide (v < x) = true := decide_eq_true hgt
                  have HE3 : Hid (E = 19) := by
                    show _ = _
                    have h1 : rowF rows b m p 0 = 19 := firstF_stop HFC.out (HCF.out.trans (if_pos hgt)) (by decide) hqm
                    rw [HEE.out]
                    exact firstF_stop HF.out h1 (by decide) hlt
                  go_wp2
                  refine wp_region_held_drew (S := (fun w' : World => w'.cell? pd = some (.slice (some b0) m c0) ∧ w'.cell? (b0.add q) = some (.int .i64 x) ∧ w'.cell? ⟨g, 0, none⟩ = some (.slice (some ad) n c) ∧ w'.cell? ad = some (.slice (some d0) m e0) ∧ w'.cell? (d0.add q) = some (.int .i64 v) ∧ Below wi.heap.size wi w')) (by kernel_rfl) ?_ ?_
                  · exact HS0.out
                  intro hHeld
                  refine wpAnyH_take (i := 0) (v := ?_) rfl (by kernel_rfl) (by kernel_rfl) (by kernel_rfl) (fun _ _ _ h => h) (Or.inl ⟨by rfl, ?_⟩) (by assumption) ?_
                  rotate_left
                  · intro w hSw; (try dsimp only at hSw); go_simp; (try (with_reducible rfl))
                  try simp only [List.getElem_toArray, List.getElem_cons_succ, List.getElem_cons_zero, Act.put, List.setIfInBounds_toArray, List.set_cons_zero, List.set_cons_succ]
                  refine wpAnyH_take (i := 1) (v := ?_) rfl (by kernel_rfl) (by kernel_rfl) (by kernel_rfl) (fun _ _ _ h => h) (Or.inl ⟨by rfl, ?_⟩) (by assumption) ?_
                  rotate_left
                  · intro w hSw; (try dsimp only at hSw); go_simp; (try (with_reducible rfl))
                  try simp only [List.getElem_toArray, List.getElem_cons_succ, List.getElem_cons_zero, Act.put, List.setIfInBounds_toArray, List.set_cons_zero, List.set_cons_succ]
                  refine wpAnyH_take (i := 2) (v := ?_) rfl (by kernel_rfl) (by kernel_rfl) (by kernel_rfl) (fun _ _ _ h => h) (Or.inl ⟨by rfl, ?_⟩) (by assumption) ?_
                  rotate_left
                  · intro w hSw; (try dsimp only at hSw); go_simp; (try (with_reducible rfl))
                  try simp only [List.getElem_toArray, List.getElem_cons_succ, List.getElem_cons_zero, Act.put, List.setIfInBounds_toArray, List.set_cons_zero, List.set_cons_succ]
                  refine wpAnyH_take (i := 3) (v := ?_) rfl (by kernel_rfl) (by kernel_rfl) (by kernel_rfl) (fun _ _ _ h => h) (Or.inl ⟨by rfl, ?_⟩) (by assumption) ?_
                  rotate_left
                  · intro w hSw; (try dsimp only at hSw); go_simp; (try (with_reducible rfl))
                  try simp only [List.getElem_toArray, List.getElem_cons_succ, List.getElem_cons_zero, Act.put, List.setIfInBounds_toArray, List.set_cons_zero, List.set_cons_succ]
                  refine wpAnyH_take (i := 4) (v := ?_) rfl (by kernel_rfl) (by kernel_rfl) (by kernel_rfl) (fun _ _ _ h => h) (Or.inl ⟨by rfl, ?_⟩) (by assumption) ?_
                  rotate_left
                  · intro w hSw; (try dsimp only at hSw); go_simp; (try (with_reducible rfl))
                  try simp only [List.getElem_toArray, List.getElem_cons_succ, List.getElem_cons_zero, Act.put, List.setIfInBounds_toArray, List.set_cons_zero, List.set_cons_succ]
                  refine wpAnyH_take (i := 5) (v := ?_) rfl (by kernel_rfl) (by kernel_rfl) (by kernel_rfl) (fun _ _ _ h => h) (Or.inl ⟨by rfl, ?_⟩) (by assumption) ?_
                  rotate_left
                  · intro w hSw; (try dsimp only at hSw); go_simp; (try (with_reducible rfl))
                  try simp only [List.getElem_toArray, List.getElem_cons_succ, List.getElem_cons_zero, Act.put, List.setIfInBounds_toArray, List.set_cons_zero, List.set_cons_succ]
                  refine wpAnyH_take (i := 6) (v := ?_) rfl (by kernel_rfl) (by kernel_rfl) (by kernel_rfl) (fun _ _ _ h => h) (Or.inl ⟨by rfl, ?_⟩) (by assumption) ?_
                  rotate_left
                  · intro w hSw; (try dsimp only at hSw); go_simp; (try (with_reducible rfl))
                  try simp only [List.getElem_toArray, List.getElem_cons_succ, List.getElem_cons_zero, Act.put, List.setIfInBounds_toArray, List.set_cons_zero, List.set_cons_succ]
                  refine wpAnyH_take (i := 7) (v := ?_) rfl (by kernel_rfl) (by kernel_rfl) (by kernel_rfl) (fun _ _ _ h => h) (Or.inl ⟨by rfl, ?_⟩) (by assumption) ?_
                  rotate_left
                  · intro w hSw; (try dsimp only at hSw); go_simp; (try (with_reducible rfl))
                  try simp only [List.getElem_toArray, List.getElem_cons_succ, List.getElem_cons_zero, Act.put, List.setIfInBounds_toArray, List.set_cons_zero, List.set_cons_succ]
                  refine wpAnyH_take (i := 8) (v := ?_) rfl (by kernel_rfl) (by kernel_rfl) (by kernel_rfl) (fun _ _ _ h => h) (Or.inl ⟨by rfl, ?_⟩) (by assumption) ?_
                  rotate_left
                  · intro w hSw; (try dsimp only at hSw); go_simp; (try (with_reducible rfl))
                  try simp only [List.getElem_toArray, List.getElem_cons_succ, List.getElem_cons_zero, Act.put, List.setIfInBounds_toArray, List.set_cons_zero, List.set_cons_succ]
                  refine wpAnyH_take (i := 9) (v := ?_) rfl (by kernel_rfl) (by kernel_rfl) (by kernel_rfl) (fun _ _ _ h => h) (Or.inl ⟨by rfl, ?_⟩) (by assumption) ?_
                  rotate_left
                  · intro w hSw; (try dsimp only at hSw); go_simp; (try (with_reducible rfl))
                  try simp only [List.getElem_toArray, List.getElem_cons_succ, List.getElem_cons_zero, Act.put, List.setIfInBounds_toArray, List.set_cons_zero, List.set_cons_succ]
                  refine wpAnyH_take (i := 10) (v := ?_) rfl (by kernel_rfl) (by kernel_rfl) (by kernel_rfl) (fun _ _ _ h => h) (Or.inl ⟨by rfl, ?_⟩) (by assumption) ?_
                  rotate_left
                  · intro w hSw; (try dsimp only at hSw); go_simp; (try (with_reducible rfl))
                  try simp only [List.getElem_toArray, List.getElem_cons_succ, List.getElem_cons_zero, Act.put, List.setIfInBounds_toArray, List.set_cons_zero, List.set_cons_succ]
                  refine wpAnyH_take (i := 11) (v := ?_) rfl (by kernel_rfl) (by kernel_rfl) (by kernel_rfl) (fun _ _ _ h => h) (Or.inl ⟨by rfl, ?_⟩) (by assumption) ?_
                  rotate_left
                  · intro w hSw; (try dsimp only at hSw); go_simp; (try (with_reducible rfl))
                  try simp only [List.getElem_toArray, List.getElem_cons_succ, List.getElem_cons_zero, Act.put, List.setIfInBounds_toArray, List.set_cons_zero, List.set_cons_succ]
                  refine wpAnyH_take (i := 12) (v := ?_) rfl (by kernel_rfl) (by kernel_rfl) (by kernel_rfl) (fun _ _ _ h => h) (Or.inl ⟨by rfl, ?_⟩) (by assumption) ?_
                  rotate_left
                  · intro w hSw; (try dsimp only at hSw); go_simp; (try (with_reducible rfl))
                  try simp only [List.getElem_toArray, List.getElem_cons_succ, List.getElem_cons_zero, Act.put, List.setIfInBounds_toArray, List.set_cons_zero, List.set_cons_succ]
                  refine wpAnyH_take (i := 13) (v := ?_) rfl (by kernel_rfl) (by kernel_rfl) (by kernel_rfl) (fun _ _ _ h => h) (Or.inl ⟨by rfl, ?_⟩) (by assumption) ?_
                  rotate_left
                  · intro w hSw; (try dsimp only at hSw); go_simp; (try (with_reducible rfl))
                  try simp only [List.getElem_toArray, List.getElem_cons_succ, List.getElem_cons_zero, Act.put, List.setIfInBounds_toArray, List.set_cons_zero, List.set_cons_succ]
                  refine wpAnyH_take (i := 14) (v := ?_) rfl (by kernel_rfl) (by kernel_rfl) (by kernel_rfl) (fun _ _ _ h => h) (Or.inl ⟨by rfl, ?_⟩) (by assumption) ?_
                  rotate_left
                  · intro w hSw; (try dsimp only at hSw); go_simp; (try (with_reducible rfl))
                  try simp only [List.getElem_toArray, List.getElem_cons_succ, List.getElem_cons_zero, Act.put, List.setIfInBounds_toArray, List.set_cons_zero, List.set_cons_succ]
                  refine wpAnyH_take (i := 15) (v := ?_) rfl (by kernel_rfl) (by kernel_rfl) (by kernel_rfl) (fun _ _ _ h => h) (Or.inl ⟨by rfl, ?_⟩) (by assumption) ?_
                  rotate_left
                  · intro w hSw; (try dsimp only at hSw); go_simp; (try (with_reducible rfl))
                  try simp only [List.getElem_toArray, List.getElem_cons_succ, List.getElem_cons_zero, Act.put, List.setIfInBounds_toArray, List.set_cons_zero, List.set_cons_succ]
                  refine wpAnyH_take (i := 16) (v := ?_) rfl (by kernel_rfl) (by kernel_rfl) (by kernel_rfl) (fun _ _ _ h => h) (Or.inl ⟨by rfl, ?_⟩) (by assumption) ?_
                  rotate_left
                  · intro w hSw; (try dsimp only at hSw); go_simp; (try (with_reducible rfl))
                  try simp only [List.getElem_toArray, List.getElem_cons_succ, List.getElem_cons_zero, Act.put, List.setIfInBounds_toArray, List.set_cons_zero, List.set_cons_succ]
                  refine wpAnyH_take (i := 17) (v := ?_) rfl (by kernel_rfl) (by kernel_rfl) (by kernel_rfl) (fun _ _ _ h => h) (Or.inl ⟨by rfl, ?_⟩) (by assumption) ?_
                  rotate_left
                  · intro w hSw; (try dsimp only at hSw); go_simp; (try (with_reducible rfl))
                  try simp only [List.getElem_toArray, List.getElem_cons_succ, List.getElem_cons_zero, Act.put, List.setIfInBounds_toArray, List.set_cons_zero, List.set_cons_succ]
                  refine wpAnyH_done (by kernel_rfl) ?_ _
                  clear hHeld HS0
                  go_wp2
                  go_ret
                  refine ⟨by rw [HE3.out]; rfl, ?_⟩
                  have h := HB0.out.trans (HY.out.mono HB0.out.size).drew
                  first | exact h | (rw [← HGW.out]; exact h)
                · have hdc : decide (v < x) = false := decide_eq_false hgt
                  have HF2 : Hid (firstF (cellF rows b m p 0) (q + 1) = 0) := by show _ = _; rw [firstF_step HFC.out, HCF.out, if_neg hgt]
                  go_wp2
                  refine wp_region_held_drew (S := (fun w' : World => w'.cell? pd = some (.slice (some b0) m c0) ∧ w'.cell? (b0.add q) = some (.int .i64 x) ∧ w'.cell? ⟨g, 0, none⟩ = some (.slice (some ad) n c) ∧ w'.cell? ad = some (.slice (some d0) m e0) ∧ w'.cell? (d0.add q) = some (.int .i64 v) ∧ Below wi.heap.size wi w')) (by kernel_rfl) ?_ ?_
                  · exact HS0.out
                  intro hHeld
                  refine wpAnyH_take (i := 0) (v := ?_) rfl (by kernel_rfl) (by kernel_rfl) (by kernel_rfl) (fun _ _ _ h => h) (Or.inl ⟨by rfl, ?_⟩) (by assumption) ?_
                  rotate_left
                  · intro w hSw; (try dsimp only at hSw); go_simp; (try (with_reducible rfl))
                  try simp only [List.getElem_toArray, List.getElem_cons_succ, List.getElem_cons_zero, Act.put, List.setIfInBounds_toArray, List.set_cons_zero, List.set_cons_succ]
                  refine wpAnyH_take (i := 1) (v := ?_) rfl (by kernel_rfl) (by kernel_rfl) (by kernel_rfl) (fun _ _ _ h => h) (Or.inl ⟨by rfl, ?_⟩) (by assumption) ?_
                  rotate_left
                  · intro w hSw; (try dsimp only at hSw); go_simp; (try (with_reducible rfl))
                  try simp only [List.getElem_toArray, List.getElem_cons_succ, List.getElem_cons_zero, Act.put, List.setIfInBounds_toArray, List.set_cons_zero, List.set_cons_succ]
                  refine wpAnyH_take (i := 2) (v := ?_) rfl (by kernel_rfl) (by kernel_rfl) (by kernel_rfl) (fun _ _ _ h => h) (Or.inl ⟨by rfl, ?_⟩) (by assumption) ?_
                  rotate_left
                  · intro w hSw; (try dsimp only at hSw); go_simp; (try (with_reducible rfl))
                  try simp only [List.getElem_toArray, List.getElem_cons_succ, List.getElem_cons_zero, Act.put, List.setIfInBounds_toArray, List.set_cons_zero, List.set_cons_succ]
                  refine wpAnyH_take (i := 3) (v := ?_) rfl (by kernel_rfl) (by kernel_rfl) (by kernel_rfl) (fun _ _ _ h => h) (Or.inl ⟨by rfl, ?_⟩) (by assumption) ?_
                  rotate_left
                  · intro w hSw; (try dsimp only at hSw); go_simp; (try (with_reducible rfl))
                  try simp only [List.getElem_toArray, List.getElem_cons_succ, List.getElem_cons_zero, Act.put, List.setIfInBounds_toArray, List.set_cons_zero, List.set_cons_succ]
                  refine wpAnyH_take (i := 4) (v := ?_) rfl (by kernel_rfl) (by kernel_rfl) (by kernel_rfl) (fun _ _ _ h => h) (Or.inl ⟨by rfl, ?_⟩) (by assumption) ?_
                  rotate_left
                  · intro w hSw; (try dsimp only at hSw); go_simp; (try (with_reducible rfl))
                  try simp only [List.getElem_toArray, List.getElem_cons_succ, List.getElem_cons_zero, Act.put, List.setIfInBounds_toArray, List.set_cons_zero, List.set_cons_succ]
                  refine wpAnyH_take (i := 5) (v := ?_) rfl (by kernel_rfl) (by kernel_rfl) (by kernel_rfl) (fun _ _ _ h => h) (Or.inl ⟨by rfl, ?_⟩) (by assumption) ?_
                  rotate_left
                  · intro w hSw; (try dsimp only at hSw); go_simp; (try (with_reducible rfl))
                  try simp only [List.getElem_toArray, List.getElem_cons_succ, List.getElem_cons_zero, Act.put, List.setIfInBounds_toArray, List.set_cons_zero, List.set_cons_succ]
                  refine wpAnyH_take (i := 6) (v := ?_) rfl (by kernel_rfl) (by kernel_rfl) (by kernel_rfl) (fun _ _ _ h => h) (Or.inl ⟨by rfl, ?_⟩) (by assumption) ?_
                  rotate_left
                  · intro w hSw; (try dsimp only at hSw); go_simp; (try (with_reducible rfl))
                  try simp only [List.getElem_toArray, List.getElem_cons_succ, List.getElem_cons_zero, Act.put, List.setIfInBounds_toArray, List.set_cons_zero, List.set_cons_succ]
                  refine wpAnyH_take (i := 7) (v := ?_) rfl (by kernel_rfl) (by kernel_rfl) (by kernel_rfl) (fun _ _ _ h => h) (Or.inl ⟨by rfl, ?_⟩) (by assumption) ?_
                  rotate_left
                  · intro w hSw; (try dsimp only at hSw); go_simp; (try (with_reducible rfl))
                  try simp only [List.getElem_toArray, List.getElem_cons_succ, List.getElem_cons_zero, Act.put, List.setIfInBounds_toArray, List.set_cons_zero, List.set_cons_succ]
                  refine wpAnyH_take (i := 8) (v := ?_) rfl (by kernel_rfl) (by kernel_rfl) (by kernel_rfl) (fun _ _ _ h => h) (Or.inl ⟨by rfl, ?_⟩) (by assumption) ?_
                  rotate_left
                  · intro w hSw; (try dsimp only at hSw); go_simp; (try (with_reducible rfl))
                  try simp only [List.getElem_toArray, List.getElem_cons_succ, List.getElem_cons_zero, Act.put, List.setIfInBounds_toArray, List.set_cons_zero, List.set_cons_succ]
                  refine wpAnyH_take (i := 9) (v := ?_) rfl (by kernel_rfl) (by kernel_rfl) (by kernel_rfl) (fun _ _ _ h => h) (Or.inl ⟨by rfl, ?_⟩) (by assumption) ?_
                  rotate_left
                  · intro w hSw; (try dsimp only at hSw); go_simp; (try (with_reducible rfl))
                  try simp only [List.getElem_toArray, List.getElem_cons_succ, List.getElem_cons_zero, Act.put, List.setIfInBounds_toArray, List.set_cons_zero, List.set_cons_succ]
                  refine wpAnyH_take (i := 10) (v := ?_) rfl (by kernel_rfl) (by kernel_rfl) (by kernel_rfl) (fun _ _ _ h => h) (Or.inl ⟨by rfl, ?_⟩) (by assumption) ?_
                  rotate_left
                  · intro w hSw; (try dsimp only at hSw); go_simp; (try (with_reducible rfl))
                  try simp only [List.getElem_toArray, List.getElem_cons_succ, List.getElem_cons_zero, Act.put, List.setIfInBounds_toArray, List.set_cons_zero, List.set_cons_succ]
                  refine wpAnyH_take (i := 11) (v := ?_) rfl (by kernel_rfl) (by kernel_rfl) (by kernel_rfl) (fun _ _ _ h => h) (Or.inl ⟨by rfl, ?_⟩) (by assumption) ?_
                  rotate_left
                  · intro w hSw; (try dsimp only at hSw); go_simp; (try (with_reducible rfl))
                  try simp only [List.getElem_toArray, List.getElem_cons_succ, List.getElem_cons_zero, Act.put, List.setIfInBounds_toArray, List.set_cons_zero, List.set_cons_succ]
                  refine wpAnyH_take (i := 12) (v := ?_) rfl (by kernel_rfl) (by kernel_rfl) (by kernel_rfl) (fun _ _ _ h => h) (Or.inl ⟨by rfl, ?_⟩) (by assumption) ?_
                  rotate_left
                  · intro w hSw; (try dsimp only at hSw); go_simp; (try (with_reducible rfl))
                  try simp only [List.getElem_toArray, List.getElem_cons_succ, List.getElem_cons_zero, Act.put, List.setIfInBounds_toArray, List.set_cons_zero, List.set_cons_succ]
                  refine wpAnyH_take (i := 13) (v := ?_) rfl (by kernel_rfl) (by kernel_rfl) (by kernel_rfl) (fun _ _ _ h => h) (Or.inl ⟨by rfl, ?_⟩) (by assumption) ?_
                  rotate_left
                  · intro w hSw; (try dsimp only at hSw); go_simp; (try (with_reducible rfl))
                  try simp only [List.getElem_toArray, List.getElem_cons_succ, List.getElem_cons_zero, Act.put, List.setIfInBounds_toArray, List.set_cons_zero, List.set_cons_succ]
                  refine wpAnyH_take (i := 14) (v := ?_) rfl (by kernel_rfl) (by kernel_rfl) (by kernel_rfl) (fun _ _ _ h => h) (Or.inl ⟨by rfl, ?_⟩) (by assumption) ?_
                  rotate_left
                  · intro w hSw; (try dsimp only at hSw); go_simp; (try (with_reducible rfl))
                  try simp only [List.getElem_toArray, List.getElem_cons_succ, List.getElem_cons_zero, Act.put, List.setIfInBounds_toArray, List.set_cons_zero, List.set_cons_succ]
                  refine wpAnyH_take (i := 15) (v := ?_) rfl (by kernel_rfl) (by kernel_rfl) (by kernel_rfl) (fun _ _ _ h => h) (Or.inl ⟨by rfl, ?_⟩) (by assumption) ?_
                  rotate_left
                  · intro w hSw; (try dsimp only at hSw); go_simp; (try (with_reducible rfl))
                  try simp only [List.getElem_toArray, List.getElem_cons_succ, List.getElem_cons_zero, Act.put, List.setIfInBounds_toArray, List.set_cons_zero, List.set_cons_succ]
                  refine wpAnyH_take (i := 16) (v := ?_) rfl (by kernel_rfl) (by kernel_rfl) (by kernel_rfl) (fun _ _ _ h => h) (Or.inl ⟨by rfl, ?_⟩) (by assumption) ?_
                  rotate_left
                  · intro w hSw; (try dsimp only at hSw); go_simp; (try (with_reducible rfl))
                  try simp only [List.getElem_toArray, List.getElem_cons_succ, List.getElem_cons_zero, Act.put, List.setIfInBounds_toArray, List.set_cons_zero, List.set_cons_succ]
                  refine wpAnyH_take (i := 17) (v := ?_) rfl (by kernel_rfl) (by kernel_rfl) (by kernel_rfl) (fun _ _ _ h => h) (Or.inl ⟨by rfl, ?_⟩) (by assumption) ?_
                  rotate_left
                  · intro w hSw; (try dsimp only at hSw); go_simp; (try (with_reducible rfl))
                  try simp only [List.getElem_toArray, List.getElem_cons_succ, List.getElem_cons_zero, Act.put, List.setIfInBounds_toArray, List.set_cons_zero, List.set_cons_succ]
                  refine wpAnyH_done (by kernel_rfl) ?_ _
                  clear hHeld HS0
                  by_cases hq2 : (0 : Int) < (q : Int) - 1
                  · have hlo1 : decide ((lo : Int) ≤ (m : Int) - 1) = true := decide_eq_true (by omega)
                    have hlo2 : decide ((lo : Int) ≤ (q : Int) + 1) = true := decide_eq_true (by omega)
                    have HYD : Hid (Below W1.heap.size W1 wi.drew) := HY.out.drew
                    go_wp2
                    go_loopw [10] (fun s wq => s = .int .i64 (lo : Int) ∧ Hid (Below W1.heap.size W1 wq)) (fun _ _ => 0)
                    case atStart => exact ⟨by rw [show ((lo : Nat) : Int) = (q : Int) - 1 by omega], HYD.out⟩
                    case round =>
                      obtain ⟨rfl, HZ⟩ := hrel
                      have hlo3 : (lo : Int) ≤ (m : Int) - 1 := by omega
                      have hlo4 : (lo : Int) ≤ (q : Int) + 1 := by omega
                      have hl0 : (0 : Int) ≤ (lo : Int) := by omega
                      have hz1 : decide ((0 : Int) < ((0 : Nat) : Int)) = false := by decide
                      have hz2 : decide ((0 : Int) < (0 : Int)) = false := by decide
                      have hz3 : decide ((0 : Nat) < (0 : Nat)) = false := by decide
                      have hz4 : ¬ (0 : Int) < ((0 : Nat) : Int) := by omega
                      by_cases hmn : (m : Int) - 1 < (q : Int) + 1
                      · go_wp2
                        go_roundw
                        case rel => exact ⟨q + 1, by omega, by go_num, HF2.out⟩
                        case measure => simp [intOf]; omega
                      · go_wp2
                        go_roundw
                        case rel => exact ⟨q + 1, by omega, by go_num, HF2.out⟩
                        case measure => simp [intOf]; omega
                  · have hlo1 : decide ((lo : Int) ≤ (m : Int) - 1) = true := decide_eq_true (by omega)
                    have hlo2 : decide ((lo : Int) ≤ (q : Int) + 1) = true := decide_eq_true (by omega)
                    have HYD : Hid (Below W1.heap.size W1 wi.drew) := HY.out.drew
                    go_wp2
                    go_loopw [10] (fun s wq => s = .int .i64 (lo : Int) ∧ Hid (Below W1.heap.size W1 wq)) (fun _ _ => 0)
                    case atStart => exact ⟨by rw [show ((lo : Nat) : Int) = 0 by omega], HYD.out⟩
                    case round =>
                      obtain ⟨rfl, HZ⟩ := hrel
                      have hlo3 : (lo : Int) ≤ (m : Int) - 1 := by omega
                      have hlo4 : (lo : Int) ≤ (q : Int) + 1 := by omega
                      have hl0 : (0 : Int) ≤ (lo : Int) := by omega
                      have hz1 : decide ((0 : Int) < ((0 : Nat) : Int)) = false := by decide
                      have hz2 : decide ((0 : Int) < (0 : Int)) = false := by decide
                      have hz3 : decide ((0 : Nat) < (0 : Nat)) = false := by decide
                      have hz4 : ¬ (0 : Int) < ((0 : Nat) : Int) := by omega
                      by_cases hmn : (m : Int) - 1 < (q : Int) + 1
                      · go_wp2
                        go_roundw
                        case rel => exact ⟨q + 1, by omega, by go_num, HF2.out⟩
                        case measure => simp [intOf]; omega
                      · go_wp2
                        go_roundw
                        case rel => exact ⟨q + 1, by omega, by go_num, HF2.out⟩
                        case measure => simp [intOf]; omega
              · have hs : ∃ s, r = s + 1 := ⟨r - 1, by omega⟩
                obtain ⟨s, hrs⟩ := hs
                obtain ⟨hi, hhi⟩ : ∃ hi, min (q + 1) (m - 1) = hi := ⟨_, rfl⟩
                have hpq := HPG.out _ (getD_in p s [] (by rw [HPL.out]; omega))
                have HPQ : Hid ((p.getD (r - 1) []).length = m ∧ ∀ x ∈ p.getD (r - 1) [], -1000000 ≤ x ∧ x ≤ 1000000) := by show _ ∧ _; rw [show r - 1 = s by omega]; exact hpq
                obtain ⟨br, cr, k1, k2⟩ := rows_at (HP1.out.below HY.out) (fun r hr => (HPG.out r hr).1) r q hlt hqm
                obtain ⟨dr, er, k3, k4, hv0, hv1, _, _⟩ := grid_at (HR1.out.below HY.out) HG.out r q hlt hqm
                obtain ⟨x, hx⟩ : ∃ x, (p.getD r []).getD q 0 = x := ⟨_, rfl⟩
                obtain ⟨v, hv⟩ : ∃ v, (rows.getD r []).getD q 0 = v := ⟨_, rfl⟩
                have HXE : Hid (cellV p r q = x ∧ cellV rows r q = v) := ⟨hx, hv⟩
                have hxb : -1000000 ≤ x ∧ x ≤ 1000000 := by
                  have h := HPG.out _ (getD_in p r [] (by rw [HPL.out]; exact hlt))
                  rw [← hx]
                  exact h.2 _ (getD_in _ q 0 (by rw [h.1]; exact hqm))
                rw [hx] at k2
                rw [hv] at k4 hv0 hv1
                have HK1 : Hid (∀ W, Below wi.heap.size wi W → W.cell? (pd.add r) = some (.slice (some br) m cr) ∧ W.cell? (br.add q) = some (.int .i64 x) ∧ W.cell? (ad.add r) = some (.slice (some dr) m er) ∧ W.cell? (dr.add q) = some (.int .i64 v)) := fun W h => ⟨(h.cell (World.block_lt_of_cell? _ _ k1)).trans k1, (h.cell (World.block_lt_of_cell? _ _ k2)).trans k2, (h.cell (World.block_lt_of_cell? _ _ k3)).trans k3, (h.cell (World.block_lt_of_cell? _ _ k4)).trans k4⟩
                have hrq : ((r : Int) == 0) = false := by rw [beq_eq_false_iff_ne]; omega
                have hrp : (0 : Int) < (r : Int) := by omega
                have hrd : decide ((0 : Int) < (r : Int)) = true := decide_eq_true (by omega)
                have hrd2 : decide (0 < r) = true := decide_eq_true (by omega)
                have HRP : Hid (0 < r ∧ r = s + 1) := ⟨by omega, hrs⟩
                have hr00 : ¬ r = 0 := h0
                have hw1 : IntKind.i64.wrap ((r : Int) - 1) = (s : Int) := by rw [show (r : Int) - 1 = (s : Int) by omega]; exact IntWalk.i64_in _ (by omega)
                have hs0 : (0 : Int) ≤ (s : Int) := by omega
                have hsn : (s : Int) < (n : Int) := by omega
                clear hpq hx hv k1 k2 k3 k4 hrs
                by_cases hq2 : (0 : Int) < (q : Int) - 1
                · go_wp2
                  refine wp_region_held_drew (S := (fun w' : World => Below wi.heap.size wi w')) (by kernel_rfl) ?_ ?_
                  · exact (Below.refl _ _).drew
                  intro hHeld
                  refine wpAnyH_take (i := 0) (v := ?_) rfl (by kernel_rfl) (by kernel_rfl) (by kernel_rfl) (fun _ _ _ h => h) (Or.inl ⟨by rfl, ?_⟩) (by assumption) ?_
                  rotate_left
                  · intro w hSw; (try dsimp only at hSw); go_simp; (try (with_reducible rfl))
                  try simp only [List.getElem_toArray, List.getElem_cons_succ, List.getElem_cons_zero, Act.put, List.setIfInBounds_toArray, List.set_cons_zero, List.set_cons_succ]
                  refine wpAnyH_take (i := 1) (v := ?_) rfl (by kernel_rfl) (by kernel_rfl) (by kernel_rfl) (fun _ _ _ h => h) (Or.inl ⟨by rfl, ?_⟩) (by assumption) ?_
                  rotate_left
                  · intro w hSw; (try dsimp only at hSw); go_simp; (try (with_reducible rfl))
                  try simp only [List.getElem_toArray, List.getElem_cons_succ, List.getElem_cons_zero, Act.put, List.setIfInBounds_toArray, List.set_cons_zero, List.set_cons_succ]
                  refine wpAnyH_take (i := 2) (v := ?_) rfl (by kernel_rfl) (by kernel_rfl) (by kernel_rfl) (fun _ _ _ h => h) (Or.inl ⟨by rfl, ?_⟩) (by assumption) ?_
                  rotate_left
                  · intro w hSw; (try dsimp only at hSw); go_simp; (try (with_reducible rfl))
                  try simp only [List.getElem_toArray, List.getElem_cons_succ, List.getElem_cons_zero, Act.put, List.setIfInBounds_toArray, List.set_cons_zero, List.set_cons_succ]
                  refine wpAnyH_take (i := 3) (v := undef) rfl (by kernel_rfl) (by kernel_rfl) (by kernel_rfl) (fun _ _ _ h => h) (Or.inr ⟨by rfl, rfl⟩) (by assumption) ?_
                  try simp only [List.getElem_toArray, List.getElem_cons_succ, List.getElem_cons_zero, Act.put, List.setIfInBounds_toArray, List.set_cons_zero, List.set_cons_succ]
                  refine wpAnyH_take (i := 4) (v := undef) rfl (by kernel_rfl) (by kernel_rfl) (by kernel_rfl) (fun _ _ _ h => h) (Or.inr ⟨by rfl, rfl⟩) (by assumption) ?_
                  try simp only [List.getElem_toArray, List.getElem_cons_succ, List.getElem_cons_zero, Act.put, List.setIfInBounds_toArray, List.set_cons_zero, List.set_cons_succ]
                  refine wpAnyH_take (i := 5) (v := undef) rfl (by kernel_rfl) (by kernel_rfl) (by kernel_rfl) (fun _ _ _ h => h) (Or.inr ⟨by rfl, rfl⟩) (by assumption) ?_
                  try simp only [List.getElem_toArray, List.getElem_cons_succ, List.getElem_cons_zero, Act.put, List.setIfInBounds_toArray, List.set_cons_zero, List.set_cons_succ]
                  refine wpAnyH_take (i := 6) (v := undef) rfl (by kernel_rfl) (by kernel_rfl) (by kernel_rfl) (fun _ _ _ h => h) (Or.inr ⟨by rfl, rfl⟩) (by assumption) ?_
                  try simp only [List.getElem_toArray, List.getElem_cons_succ, List.getElem_cons_zero, Act.put, List.setIfInBounds_toArray, List.set_cons_zero, List.set_cons_succ]
                  refine wpAnyH_take (i := 7) (v := undef) rfl (by kernel_rfl) (by kernel_rfl) (by kernel_rfl) (fun _ _ _ h => h) (Or.inr ⟨by rfl, rfl⟩) (by assumption) ?_
                  try simp only [List.getElem_toArray, List.getElem_cons_succ, List.getElem_cons_zero, Act.put, List.setIfInBounds_toArray, List.set_cons_zero, List.set_cons_succ]
                  refine wpAnyH_take (i := 8) (v := undef) rfl (by kernel_rfl) (by kernel_rfl) (by kernel_rfl) (fun _ _ _ h => h) (Or.inr ⟨by rfl, rfl⟩) (by assumption) ?_
                  try simp only [List.getElem_toArray, List.getElem_cons_succ, List.getElem_cons_zero, Act.put, List.setIfInBounds_toArray, List.set_cons_zero, List.set_cons_succ]
                  refine wpAnyH_take (i := 9) (v := undef) rfl (by kernel_rfl) (by kernel_rfl) (by kernel_rfl) (fun _ _ _ h => h) (Or.inr ⟨by rfl, rfl⟩) (by assumption) ?_
                  try simp only [List.getElem_toArray, List.getElem_cons_succ, List.getElem_cons_zero, Act.put, List.setIfInBounds_toArray, List.set_cons_zero, List.set_cons_succ]
                  refine wpAnyH_take (i := 10) (v := undef) rfl (by kernel_rfl) (by kernel_rfl) (by kernel_rfl) (fun _ _ _ h => h) (Or.inr ⟨by rfl, rfl⟩) (by assumption) ?_
                  try simp only [List.getElem_toArray, List.getElem_cons_succ, List.getElem_cons_zero, Act.put, List.setIfInBounds_toArray, List.set_cons_zero, List.set_cons_succ]
                  refine wpAnyH_take (i := 11) (v := undef) rfl (by kernel_rfl) (by kernel_rfl) (by kernel_rfl) (fun _ _ _ h => h) (Or.inr ⟨by rfl, rfl⟩) (by assumption) ?_
                  try simp only [List.getElem_toArray, List.getElem_cons_succ, List.getElem_cons_zero, Act.put, List.setIfInBounds_toArray, List.set_cons_zero, List.set_cons_succ]
                  refine wpAnyH_take (i := 12) (v := undef) rfl (by kernel_rfl) (by kernel_rfl) (by kernel_rfl) (fun _ _ _ h => h) (Or.inr ⟨by rfl, rfl⟩) (by assumption) ?_
                  try simp only [List.getElem_toArray, List.getElem_cons_succ, List.getElem_cons_zero, Act.put, List.setIfInBounds_toArray, List.set_cons_zero, List.set_cons_succ]
                  refine wpAnyH_take (i := 13) (v := undef) rfl (by kernel_rfl) (by kernel_rfl) (by kernel_rfl) (fun _ _ _ h => h) (Or.inr ⟨by rfl, rfl⟩) (by assumption) ?_
                  try simp only [List.getElem_toArray, List.getElem_cons_succ, List.getElem_cons_zero, Act.put, List.setIfInBounds_toArray, List.set_cons_zero, List.set_cons_succ]
                  refine wpAnyH_take (i := 14) (v := undef) rfl (by kernel_rfl) (by kernel_rfl) (by kernel_rfl) (fun _ _ _ h => h) (Or.inr ⟨by rfl, rfl⟩) (by assumption) ?_
                  try simp only [List.getElem_toArray, List.getElem_cons_succ, List.getElem_cons_zero, Act.put, List.setIfInBounds_toArray, List.set_cons_zero, List.set_cons_succ]
                  refine wpAnyH_take (i := 15) (v := undef) rfl (by kernel_rfl) (by kernel_rfl) (by kernel_rfl) (fun _ _ _ h => h) (Or.inr ⟨by rfl, rfl⟩) (by assumption) ?_
                  try simp only [List.getElem_toArray, List.getElem_cons_succ, List.getElem_cons_zero, Act.put, List.setIfInBounds_toArray, List.set_cons_zero, List.set_cons_succ]
                  refine wpAnyH_take (i := 16) (v := undef) rfl (by kernel_rfl) (by kernel_rfl) (by kernel_rfl) (fun _ _ _ h => h) (Or.inr ⟨by rfl, rfl⟩) (by assumption) ?_
                  try simp only [List.getElem_toArray, List.getElem_cons_succ, List.getElem_cons_zero, Act.put, List.setIfInBounds_toArray, List.set_cons_zero, List.set_cons_succ]
                  refine wpAnyH_take (i := 17) (v := ?_) rfl (by kernel_rfl) (by kernel_rfl) (by kernel_rfl) (fun _ _ _ h => h) (Or.inl ⟨by rfl, ?_⟩) (by assumption) ?_
                  rotate_left
                  · intro w hSw; (try dsimp only at hSw); go_simp; (try (with_reducible rfl))
                  try simp only [List.getElem_toArray, List.getElem_cons_succ, List.getElem_cons_zero, Act.put, List.setIfInBounds_toArray, List.set_cons_zero, List.set_cons_succ]
                  refine wpAnyH_done (by kernel_rfl) ?_ _
                  clear hHeld
                  have HYD : Hid (Below W1.heap.size W1 wi.drew ∧ Below wi.heap.size wi wi.drew) := ⟨HY.out.drew, (Below.refl _ _).drew⟩
                  go_wp2
                  go_loopw [10] (fun s wq => ∃ d : Nat, lo ≤ d ∧ d ≤ hi + 1 ∧ s = .int .i64 (d : Int) ∧ Hid (∀ j : Nat, lo ≤ j → j < d → x ≤ v + cellV p (r - 1) j + (if (j : Int) = (q : Int) then 0 else b)) ∧ Hid (Below W1.heap.size W1 wq ∧ Below wi.heap.size wi wq)) (fun s _ => hi + 1 - (intOf s).toNat)
                  case atStart => exact ⟨lo, Nat.le_refl _, by omega, by rw [show ((lo : Nat) : Int) = (q : Int) - 1 by omega], fun j h1 h2 => absurd h2 (by omega), HYD.out⟩
                  case round =>
                    obtain ⟨d, hd1, hd2, rfl, HAL, HZ⟩ := hrel
                    obtain ⟨wj, hwj⟩ : ∃ W, W = wr := ⟨_, rfl⟩
                    subst hwj
                    have hd0 : (0 : Int) ≤ (d : Int) := by omega
                    by_cases hdh : d ≤ hi
                    · have hdm : d < m := by omega
                      have hdI : (d : Int) < (m : Int) := by omega
                      obtain ⟨j1, j2, j3, j4⟩ := HK1.out _ HZ.out.2
                      obtain ⟨g0, g1⟩ := HQ.out _ HZ.out.1
                      obtain ⟨bs, cs, k5, k6⟩ := rows_at (HP1.out.below HZ.out.1) (fun r hr => (HPG.out r hr).1) s d (by omega) hdm
                      obtain ⟨y, hy⟩ : ∃ y, (p.getD s []).getD d 0 = y := ⟨_, rfl⟩
                      have HYE : Hid (cellV p (r - 1) d = y) := by show _ = _; unfold cellV; rw [show r - 1 = s by have := HRP.out.2; omega]; exact hy
                      have hyb : -1000000 ≤ y ∧ y ≤ 1000000 := by
                        have h := HPG.out _ (getD_in p s [] (by rw [HPL.out]; omega))
                        rw [← hy]
                        exact h.2 _ (getD_in _ d 0 (by rw [h.1]; exact hdm))
                      rw [hy] at k6
                      obtain ⟨e, he⟩ : ∃ e, (if (d : Int) = (q : Int) then 0 else b) = e := ⟨_, rfl⟩
                      have heb : 0 ≤ e ∧ e ≤ 1000 := by have := HBB.out; rw [← he]; split <;> omega
                      have HEQ := Lib.hid he
                      have hw2 : IntKind.i64.wrap (v + y) = v + y := IntWalk.i64_in _ (by omega)
                      have hw3 : IntKind.i64.wrap (v + y + e) = v + y + e := IntWalk.i64_in _ (by omega)
                      have HS2 : Hid ((fun w' : World => w'.cell? (pd.add r) = some (.slice (some br) m cr) ∧ w'.cell? (br.add q) = some (.int .i64 x) ∧ w'.cell? ⟨g, 0, none⟩ = some (.slice (some ad) n c) ∧ w'.cell? ⟨g, 1, none⟩ = some (.int .i64 b) ∧ w'.cell? (ad.add r) = some (.slice (some dr) m er) ∧ w'.cell? (dr.add q) = some (.int .i64 v) ∧ w'.cell? (pd.add s) = some (.slice (some bs) m cs) ∧ w'.cell? (bs.add d) = some (.int .i64 y) ∧ Below wj.heap.size wj w') wj.drew) := ⟨j1, j2, g0, g1, j3, j4, k5, k6, (Below.refl _ _).drew⟩
                      have CB : Hid (∀ W', (fun w' : World => w'.cell? (pd.add r) = some (.slice (some br) m cr) ∧ w'.cell? (br.add q) = some (.int .i64 x) ∧ w'.cell? ⟨g, 0, none⟩ = some (.slice (some ad) n c) ∧ w'.cell? ⟨g, 1, none⟩ = some (.int .i64 b) ∧ w'.cell? (ad.add r) = some (.slice (some dr) m er) ∧ w'.cell? (dr.add q) = some (.int .i64 v) ∧ w'.cell? (pd.add s) = some (.slice (some bs) m cs) ∧ w'.cell? (bs.add d) = some (.int .i64 y) ∧ Below wj.heap.size wj w') W' → Calls Tryd.prog 56 #[.agg #[.slice (some ad) n c, .int .i64 b], .int .i64 (d : Int), .int .i64 (q : Int)] W' fun e' w' => e' = .returned (.int .i64 e) ∧ (fun w' : World => w'.cell? (pd.add r) = some (.slice (some br) m cr) ∧ w'.cell? (br.add q) = some (.int .i64 x) ∧ w'.cell? ⟨g, 0, none⟩ = some (.slice (some ad) n c) ∧ w'.cell? ⟨g, 1, none⟩ = some (.int .i64 b) ∧ w'.cell? (ad.add r) = some (.slice (some dr) m er) ∧ w'.cell? (dr.add q) = some (.int .i64 v) ∧ w'.cell? (pd.add s) = some (.slice (some bs) m cs) ∧ w'.cell? (bs.add d) = some (.int .i64 y) ∧ Below wj.heap.size wj w') w') := by
                        rintro W' ⟨a1, a2, a3, a4, a5, a6, a7, a8, a9⟩
                        refine (refBend_any (.slice (some ad) n c) b (d : Int) (q : Int) W' ⟨_, _, _, rfl⟩).mono ?_
                        rintro e' w' ⟨he', rfl⟩
                        exact ⟨by rw [he', HEQ.out], cellA _ a1, cellA _ a2, cellA _ a3, cellA _ a4, cellA _ a5, cellA _ a6, cellA _ a7, cellA _ a8, a9.alloc a9.size _⟩
                      have hmq1 : decide ((d : Int) ≤ (m : Int) - 1) = true := decide_eq_true (by omega)
                      have hmq2 : decide ((d : Int) ≤ (q : Int) + 1) = true := decide_eq_true (by omega)
                      have hdr : 0 < r ∧ q ≤ d + 1 ∧ d ≤ q + 1 := by omega
                      have HDR := Lib.hid hdr
                      clear hy he j1 j2 j3 j4 g0 g1 k5 k6 hdr
                      by_cases hgt : v + y + e < x
                      · have hdc : decide (v + y + e < x) = true := decide_eq_true hgt
                        have HE3 : Hid (E = 19) := by
                          show _ = _
                          have h0 := cell_fail (rows := rows) (p := p) (r := r) HDR.out.1 hdm HDR.out.2.1 HDR.out.2.2 hqm HPQ.out.1 HPQ.out.2 HBB.out (by rw [HXE.out.1, HXE.out.2, HYE.out, HEQ.out]; exact hgt)
                          have h1 : rowF rows b m p r = 19 := firstF_stop HFC.out h0 (by decide) hqm
                          rw [HEE.out]
                          exact firstF_stop HF.out h1 (by decide) hlt
                        by_cases hmn : (m : Int) - 1 < (q : Int) + 1
                        all_goals
                          go_wp2
                          refine wp_region_held_drew (S := (fun w' : World => w'.cell? (pd.add r) = some (.slice (some br) m cr) ∧ w'.cell? (br.add q) = some (.int .i64 x) ∧ w'.cell? ⟨g, 0, none⟩ = some (.slice (some ad) n c) ∧ w'.cell? ⟨g, 1, none⟩ = some (.int .i64 b) ∧ w'.cell? (ad.add r) = some (.slice (some dr) m er) ∧ w'.cell? (dr.add q) = some (.int .i64 v) ∧ w'.cell? (pd.add s) = some (.slice (some bs) m cs) ∧ w'.cell? (bs.add d) = some (.int .i64 y) ∧ Below wj.heap.size wj w')) (by kernel_rfl) ?_ ?_
                          · first | exact hs2 | exact HS2.out
                          intro hHeld
                          refine wpAnyH_take (i := 0) (v := ?_) rfl (by kernel_rfl) (by kernel_rfl) (by kernel_rfl) (fun _ _ _ h => h) (Or.inl ⟨by rfl, ?_⟩) (by assumption) ?_
                          rotate_left
                          · intro w hSw; (try dsimp only at hSw); go_simp; (try (with_reducible rfl))
                          try simp only [List.getElem_toArray, List.getElem_cons_succ, List.getElem_cons_zero, Act.put, List.setIfInBounds_toArray, List.set_cons_zero, List.set_cons_succ]
                          refine wpAnyH_take (i := 1) (v := ?_) rfl (by kernel_rfl) (by kernel_rfl) (by kernel_rfl) (fun _ _ _ h => h) (Or.inl ⟨by rfl, ?_⟩) (by assumption) ?_
                          rotate_left
                          · intro w hSw; (try dsimp only at hSw); go_simp; (try (with_reducible rfl))
                          try simp only [List.getElem_toArray, List.getElem_cons_succ, List.getElem_cons_zero, Act.put, List.setIfInBounds_toArray, List.set_cons_zero, List.set_cons_succ]
                          refine wpAnyH_take (i := 2) (v := ?_) rfl (by kernel_rfl) (by kernel_rfl) (by kernel_rfl) (fun _ _ _ h => h) (Or.inl ⟨by rfl, ?_⟩) (by assumption) ?_
                          rotate_left
                          · intro w hSw; (try dsimp only at hSw); go_simp; (try (with_reducible rfl))
                          try simp only [List.getElem_toArray, List.getElem_cons_succ, List.getElem_cons_zero, Act.put, List.setIfInBounds_toArray, List.set_cons_zero, List.set_cons_succ]
                          refine wpAnyH_take (i := 3) (v := ?_) rfl (by kernel_rfl) (by kernel_rfl) (by kernel_rfl) (fun _ _ _ h => h) (Or.inl ⟨by rfl, ?_⟩) (by assumption) ?_
                          rotate_left
                          · intro w hSw; (try dsimp only at hSw); go_simp; (try (with_reducible rfl))
                          try simp only [List.getElem_toArray, List.getElem_cons_succ, List.getElem_cons_zero, Act.put, List.setIfInBounds_toArray, List.set_cons_zero, List.set_cons_succ]
                          refine wpAnyH_take (i := 4) (v := ?_) rfl (by kernel_rfl) (by kernel_rfl) (by kernel_rfl) (fun _ _ _ h => h) (Or.inl ⟨by rfl, ?_⟩) (by assumption) ?_
                          rotate_left
                          · intro w hSw; (try dsimp only at hSw); go_simp; (try (with_reducible rfl))
                          try simp only [List.getElem_toArray, List.getElem_cons_succ, List.getElem_cons_zero, Act.put, List.setIfInBounds_toArray, List.set_cons_zero, List.set_cons_succ]
                          refine wpAnyH_take (i := 5) (v := ?_) rfl (by kernel_rfl) (by kernel_rfl) (by kernel_rfl) (fun _ _ _ h => h) (Or.inl ⟨by rfl, ?_⟩) (by assumption) ?_
                          rotate_left
                          · intro w hSw; (try dsimp only at hSw); go_simp; (try (with_reducible rfl))
                          try simp only [List.getElem_toArray, List.getElem_cons_succ, List.getElem_cons_zero, Act.put, List.setIfInBounds_toArray, List.set_cons_zero, List.set_cons_succ]
                          refine wpAnyH_take (i := 6) (v := ?_) rfl (by kernel_rfl) (by kernel_rfl) (by kernel_rfl) (fun _ _ _ h => h) (Or.inl ⟨by rfl, ?_⟩) (by assumption) ?_
                          rotate_left
                          · intro w hSw; (try dsimp only at hSw); go_simp; (try (with_reducible rfl))
                          try simp only [List.getElem_toArray, List.getElem_cons_succ, List.getElem_cons_zero, Act.put, List.setIfInBounds_toArray, List.set_cons_zero, List.set_cons_succ]
                          refine wpAnyH_take (i := 7) (v := ?_) rfl (by kernel_rfl) (by kernel_rfl) (by kernel_rfl) (fun _ _ _ h => h) (Or.inl ⟨by rfl, ?_⟩) (by assumption) ?_
                          rotate_left
                          · intro w hSw; (try dsimp only at hSw); go_simp; (try (with_reducible rfl))
                          try simp only [List.getElem_toArray, List.getElem_cons_succ, List.getElem_cons_zero, Act.put, List.setIfInBounds_toArray, List.set_cons_zero, List.set_cons_succ]
                          refine wpAnyH_take (i := 8) (v := ?_) rfl (by kernel_rfl) (by kernel_rfl) (by kernel_rfl) (fun _ _ _ h => h) (Or.inl ⟨by rfl, ?_⟩) (by assumption) ?_
                          rotate_left
                          · intro w hSw; (try dsimp only at hSw); go_simp; (try (with_reducible rfl))
                          try simp only [List.getElem_toArray, List.getElem_cons_succ, List.getElem_cons_zero, Act.put, List.setIfInBounds_toArray, List.set_cons_zero, List.set_cons_succ]
                          refine wpAnyH_take (i := 9) (v := ?_) rfl (by kernel_rfl) (by kernel_rfl) (by kernel_rfl) (fun _ _ _ h => h) (Or.inl ⟨by rfl, ?_⟩) (by assumption) ?_
                          rotate_left
                          · intro w hSw; (try dsimp only at hSw); go_simp; (try (with_reducible rfl))
                          try simp only [List.getElem_toArray, List.getElem_cons_succ, List.getElem_cons_zero, Act.put, List.setIfInBounds_toArray, List.set_cons_zero, List.set_cons_succ]
                          refine wpAnyH_take (i := 10) (v := ?_) rfl (by kernel_rfl) (by kernel_rfl) (by kernel_rfl) (fun _ _ _ h => h) (Or.inl ⟨by rfl, ?_⟩) (by assumption) ?_
                          rotate_left
                          · intro w hSw; (try dsimp only at hSw); go_simp; (try (with_reducible rfl))
                          try simp only [List.getElem_toArray, List.getElem_cons_succ, List.getElem_cons_zero, Act.put, List.setIfInBounds_toArray, List.set_cons_zero, List.set_cons_succ]
                          refine wpAnyH_take (i := 11) (v := ?_) rfl (by kernel_rfl) (by kernel_rfl) (by kernel_rfl) (fun _ _ _ h => h) (Or.inl ⟨by rfl, ?_⟩) (by assumption) ?_
                          rotate_left
                          · intro w hSw; (try dsimp only at hSw); go_simp; (try (with_reducible rfl))
                          try simp only [List.getElem_toArray, List.getElem_cons_succ, List.getElem_cons_zero, Act.put, List.setIfInBounds_toArray, List.set_cons_zero, List.set_cons_succ]
                          refine wpAnyH_take (i := 12) (v := ?_) rfl (by kernel_rfl) (by kernel_rfl) (by kernel_rfl) (fun _ _ _ h => h) (Or.inl ⟨by rfl, ?_⟩) (by assumption) ?_
                          rotate_left
                          · intro w hSw; (try dsimp only at hSw); go_simp; (try (with_reducible rfl))
                          try simp only [List.getElem_toArray, List.getElem_cons_succ, List.getElem_cons_zero, Act.put, List.setIfInBounds_toArray, List.set_cons_zero, List.set_cons_succ]
                          refine wpAnyH_take (i := 13) (v := ?_) rfl (by kernel_rfl) (by kernel_rfl) (by kernel_rfl) (fun _ _ _ h => h) (Or.inl ⟨by rfl, ?_⟩) (by assumption) ?_
                          rotate_left
                          · intro w hSw; (try dsimp only at hSw); go_simp; (try (with_reducible rfl))
                          try simp only [List.getElem_toArray, List.getElem_cons_succ, List.getElem_cons_zero, Act.put, List.setIfInBounds_toArray, List.set_cons_zero, List.set_cons_succ]
                          refine wpAnyH_take (i := 14) (v := ?_) rfl (by kernel_rfl) (by kernel_rfl) (by kernel_rfl) (fun _ _ _ h => h) (Or.inl ⟨by rfl, ?_⟩) (by assumption) ?_
                          rotate_left
                          · intro w hSw; (try dsimp only at hSw); go_simp; (try (with_reducible rfl))
                          try simp only [List.getElem_toArray, List.getElem_cons_succ, List.getElem_cons_zero, Act.put, List.setIfInBounds_toArray, List.set_cons_zero, List.set_cons_succ]
                          refine wpAnyH_take (i := 15) (v := ?_) rfl (by kernel_rfl) (by kernel_rfl) (by kernel_rfl) (fun _ _ _ h => h) (Or.inl ⟨by rfl, ?_⟩) (by assumption) ?_
                          rotate_left
                          · intro w hSw; (try dsimp only at hSw); go_simp; (try (with_reducible rfl))
                          try simp only [List.getElem_toArray, List.getElem_cons_succ, List.getElem_cons_zero, Act.put, List.setIfInBounds_toArray, List.set_cons_zero, List.set_cons_succ]
                          refine wpAnyH_take (i := 16) (v := ?_) rfl (by kernel_rfl) (by kernel_rfl) (by kernel_rfl) (fun _ _ _ h => h) (Or.inl ⟨by rfl, ?_⟩) (by assumption) ?_
                          rotate_left
                          · intro w hSw; (try dsimp only at hSw); go_simp; (try (with_reducible rfl))
                          try simp only [List.getElem_toArray, List.getElem_cons_succ, List.getElem_cons_zero, Act.put, List.setIfInBounds_toArray, List.set_cons_zero, List.set_cons_succ]
                          refine wpAnyH_take (i := 17) (v := ?_) rfl (by kernel_rfl) (by kernel_rfl) (by kernel_rfl) (fun _ _ _ h => h) (Or.inl ⟨by rfl, ?_⟩) (by assumption) ?_
                          rotate_left
                          · intro w hSw; (try dsimp only at hSw); go_simp; (try (with_reducible rfl))
                          try simp only [List.getElem_toArray, List.getElem_cons_succ, List.getElem_cons_zero, Act.put, List.setIfInBounds_toArray, List.set_cons_zero, List.set_cons_succ]
                          refine wpAnyH_take (i := 18) (v := ?_) rfl (by kernel_rfl) (by kernel_rfl) (by kernel_rfl) (fun _ _ _ h => h) (Or.inl ⟨by rfl, ?_⟩) (by assumption) ?_
                          rotate_left
                          · intro w hSw; (try dsimp only at hSw); go_simp; (try (with_reducible rfl))
                          try simp only [List.getElem_toArray, List.getElem_cons_succ, List.getElem_cons_zero, Act.put, List.setIfInBounds_toArray, List.set_cons_zero, List.set_cons_succ]
                          refine wpAnyH_take (i := 19) (v := ?_) rfl (by kernel_rfl) (by kernel_rfl) (by kernel_rfl) (fun _ _ _ h => h) (Or.inl ⟨by rfl, ?_⟩) (by assumption) ?_
                          rotate_left
                          · intro w hSw; (try dsimp only at hSw); go_simp; (try (with_reducible rfl))
                          try simp only [List.getElem_toArray, List.getElem_cons_succ, List.getElem_cons_zero, Act.put, List.setIfInBounds_toArray, List.set_cons_zero, List.set_cons_succ]
                          refine wpAnyH_take (i := 20) (v := ?_) rfl (by kernel_rfl) (by kernel_rfl) (by kernel_rfl) (fun _ _ _ h => h) (Or.inl ⟨by rfl, ?_⟩) (by assumption) ?_
                          rotate_left
                          · intro w hSw; (try dsimp only at hSw); go_simp; (try (with_reducible rfl))
                          try simp only [List.getElem_toArray, List.getElem_cons_succ, List.getElem_cons_zero, Act.put, List.setIfInBounds_toArray, List.set_cons_zero, List.set_cons_succ]
                          refine wpAnyH_take (i := 21) (v := ?_) rfl (by kernel_rfl) (by kernel_rfl) (by kernel_rfl) (fun _ _ _ h => h) (Or.inl ⟨by rfl, ?_⟩) (by assumption) ?_
                          rotate_left
                          · intro w hSw; (try dsimp only at hSw); go_simp; (try (with_reducible rfl))
                          try simp only [List.getElem_toArray, List.getElem_cons_succ, List.getElem_cons_zero, Act.put, List.setIfInBounds_toArray, List.set_cons_zero, List.set_cons_succ]
                          refine wpAnyH_take (i := 22) (v := ?_) rfl (by kernel_rfl) (by kernel_rfl) (by kernel_rfl) (fun _ _ _ h => h) (Or.inl ⟨by rfl, ?_⟩) (by assumption) ?_
                          rotate_left
                          · intro w hSw; (try dsimp only at hSw); go_simp; (try (with_reducible rfl))
                          try simp only [List.getElem_toArray, List.getElem_cons_succ, List.getElem_cons_zero, Act.put, List.setIfInBounds_toArray, List.set_cons_zero, List.set_cons_succ]
                          refine wpAnyH_take (i := 23) (v := ?_) rfl (by kernel_rfl) (by kernel_rfl) (by kernel_rfl) (fun _ _ _ h => h) (Or.inl ⟨by rfl, ?_⟩) (by assumption) ?_
                          rotate_left
                          · intro w hSw; (try dsimp only at hSw); go_simp; (try (with_reducible rfl))
                          try simp only [List.getElem_toArray, List.getElem_cons_succ, List.getElem_cons_zero, Act.put, List.setIfInBounds_toArray, List.set_cons_zero, List.set_cons_succ]
                          refine wpAnyH_take (i := 24) (v := ?_) rfl (by kernel_rfl) (by kernel_rfl) (by kernel_rfl) (fun _ _ _ h => h) (Or.inl ⟨by rfl, ?_⟩) (by assumption) ?_
                          rotate_left
                          · intro w hSw; (try dsimp only at hSw); go_simp; (try (with_reducible rfl))
                          try simp only [List.getElem_toArray, List.getElem_cons_succ, List.getElem_cons_zero, Act.put, List.setIfInBounds_toArray, List.set_cons_zero, List.set_cons_succ]
                          refine wpAnyH_take (i := 25) (v := ?_) rfl (by kernel_rfl) (by kernel_rfl) (by kernel_rfl) (fun _ _ _ h => h) (Or.inl ⟨by rfl, ?_⟩) (by assumption) ?_
                          rotate_left
                          · intro w hSw; (try dsimp only at hSw); go_simp; (try (with_reducible rfl))
                          try simp only [List.getElem_toArray, List.getElem_cons_succ, List.getElem_cons_zero, Act.put, List.setIfInBounds_toArray, List.set_cons_zero, List.set_cons_succ]
                          refine wpAnyH_take (i := 26) (v := ?_) rfl (by kernel_rfl) (by kernel_rfl) (by kernel_rfl) (fun _ _ _ h => h) (Or.inl ⟨by rfl, ?_⟩) (by assumption) ?_
                          rotate_left
                          · intro w hSw; (try dsimp only at hSw); go_simp; (try (with_reducible rfl))
                          try simp only [List.getElem_toArray, List.getElem_cons_succ, List.getElem_cons_zero, Act.put, List.setIfInBounds_toArray, List.set_cons_zero, List.set_cons_succ]
                          refine wpAnyH_ready (rs := [27]) (by kernel_rfl) (by simp) ?_
                          refine AllReadyH.cons rfl (fun K hK => ?_) AllReadyH.nil
                          go_simp
                          go_at_call 56; refine (CB.out _ hHeld).mono ?_; rintro e w2 ⟨rfl, hs2⟩
                          go_wp2_with fail
                          refine hK.out _ _ ?_ (fun hHeld => ?_)
                          · clear hK K; first | exact hs2 | exact HS2.out
                          clear hK K
                          try simp only [List.getElem_toArray, List.getElem_cons_succ, List.getElem_cons_zero, Act.put, List.setIfInBounds_toArray, List.set_cons_zero, List.set_cons_succ]
                          refine wpAnyH_take (i := 28) (v := ?_) rfl (by kernel_rfl) (by kernel_rfl) (by kernel_rfl) (fun _ _ _ h => h) (Or.inl ⟨by rfl, ?_⟩) (by assumption) ?_
                          rotate_left
                          · intro w hSw; (try dsimp only at hSw); go_simp; (try (with_reducible rfl))
                          try simp only [List.getElem_toArray, List.getElem_cons_succ, List.getElem_cons_zero, Act.put, List.setIfInBounds_toArray, List.set_cons_zero, List.set_cons_succ]
                          refine wpAnyH_take (i := 29) (v := ?_) rfl (by kernel_rfl) (by kernel_rfl) (by kernel_rfl) (fun _ _ _ h => h) (Or.inl ⟨by rfl, ?_⟩) (by assumption) ?_
                          rotate_left
                          · intro w hSw; (try dsimp only at hSw); go_simp; (try (with_reducible rfl))
                          try simp only [List.getElem_toArray, List.getElem_cons_succ, List.getElem_cons_zero, Act.put, List.setIfInBounds_toArray, List.set_cons_zero, List.set_cons_succ]
                          refine wpAnyH_done (by kernel_rfl) ?_ _
                          obtain ⟨_, _, _, _, _, _, _, _, hbl⟩ := hHeld
                          have HX3 : Hid (Below w.heap.size w w2) := (HB0.out.trans (HZ.out.1.mono HB0.out.size)).trans (hbl.mono (HB0.out.trans (HZ.out.1.mono HB0.out.size)).size)
                          clear hbl HS2 CB hs2 hw2 hw3
                          go_wp2
                          go_ret
                          refine ⟨by rw [HE3.out]; rfl, ?_⟩
                          have h := HX3.out
                          first | exact h | (rw [← HGW.out]; exact h)
                      · have hdc : decide (v + y + e < x) = false := decide_eq_false hgt
                        have HAL2 : Hid (∀ j : Nat, lo ≤ j → j < d + 1 → x ≤ v + cellV p (r - 1) j + (if (j : Int) = (q : Int) then 0 else b)) := fun j h1 h2 => by
                          by_cases e1 : j = d
                          · subst e1; rw [HYE.out, HEQ.out]; omega
                          · exact HAL.out j h1 (by omega)
                        by_cases hmn : (m : Int) - 1 < (q : Int) + 1
                        all_goals
                          go_wp2
                          refine wp_region_held_drew (S := (fun w' : World => w'.cell? (pd.add r) = some (.slice (some br) m cr) ∧ w'.cell? (br.add q) = some (.int .i64 x) ∧ w'.cell? ⟨g, 0, none⟩ = some (.slice (some ad) n c) ∧ w'.cell? ⟨g, 1, none⟩ = some (.int .i64 b) ∧ w'.cell? (ad.add r) = some (.slice (some dr) m er) ∧ w'.cell? (dr.add q) = some (.int .i64 v) ∧ w'.cell? (pd.add s) = some (.slice (some bs) m cs) ∧ w'.cell? (bs.add d) = some (.int .i64 y) ∧ Below wj.heap.size wj w')) (by kernel_rfl) ?_ ?_
                          · first | exact hs2 | exact HS2.out
                          intro hHeld
                          refine wpAnyH_take (i := 0) (v := ?_) rfl (by kernel_rfl) (by kernel_rfl) (by kernel_rfl) (fun _ _ _ h => h) (Or.inl ⟨by rfl, ?_⟩) (by assumption) ?_
                          rotate_left
                          · intro w hSw; (try dsimp only at hSw); go_simp; (try (with_reducible rfl))
                          try simp only [List.getElem_toArray, List.getElem_cons_succ, List.getElem_cons_zero, Act.put, List.setIfInBounds_toArray, List.set_cons_zero, List.set_cons_succ]
                          refine wpAnyH_take (i := 1) (v := ?_) rfl (by kernel_rfl) (by kernel_rfl) (by kernel_rfl) (fun _ _ _ h => h) (Or.inl ⟨by rfl, ?_⟩) (by assumption) ?_
                          rotate_left
                          · intro w hSw; (try dsimp only at hSw); go_simp; (try (with_reducible rfl))
                          try simp only [List.getElem_toArray, List.getElem_cons_succ, List.getElem_cons_zero, Act.put, List.setIfInBounds_toArray, List.set_cons_zero, List.set_cons_succ]
                          refine wpAnyH_take (i := 2) (v := ?_) rfl (by kernel_rfl) (by kernel_rfl) (by kernel_rfl) (fun _ _ _ h => h) (Or.inl ⟨by rfl, ?_⟩) (by assumption) ?_
                          rotate_left
                          · intro w hSw; (try dsimp only at hSw); go_simp; (try (with_reducible rfl))
                          try simp only [List.getElem_toArray, List.getElem_cons_succ, List.getElem_cons_zero, Act.put, List.setIfInBounds_toArray, List.set_cons_zero, List.set_cons_succ]
                          refine wpAnyH_take (i := 3) (v := ?_) rfl (by kernel_rfl) (by kernel_rfl) (by kernel_rfl) (fun _ _ _ h => h) (Or.inl ⟨by rfl, ?_⟩) (by assumption) ?_
                          rotate_left
                          · intro w hSw; (try dsimp only at hSw); go_simp; (try (with_reducible rfl))
                          try simp only [List.getElem_toArray, List.getElem_cons_succ, List.getElem_cons_zero, Act.put, List.setIfInBounds_toArray, List.set_cons_zero, List.set_cons_succ]
                          refine wpAnyH_take (i := 4) (v := ?_) rfl (by kernel_rfl) (by kernel_rfl) (by kernel_rfl) (fun _ _ _ h => h) (Or.inl ⟨by rfl, ?_⟩) (by assumption) ?_
                          rotate_left
                          · intro w hSw; (try dsimp only at hSw); go_simp; (try (with_reducible rfl))
                          try simp only [List.getElem_toArray, List.getElem_cons_succ, List.getElem_cons_zero, Act.put, List.setIfInBounds_toArray, List.set_cons_zero, List.set_cons_succ]
                          refine wpAnyH_take (i := 5) (v := ?_) rfl (by kernel_rfl) (by kernel_rfl) (by kernel_rfl) (fun _ _ _ h => h) (Or.inl ⟨by rfl, ?_⟩) (by assumption) ?_
                          rotate_left
                          · intro w hSw; (try dsimp only at hSw); go_simp; (try (with_reducible rfl))
                          try simp only [List.getElem_toArray, List.getElem_cons_succ, List.getElem_cons_zero, Act.put, List.setIfInBounds_toArray, List.set_cons_zero, List.set_cons_succ]
                          refine wpAnyH_take (i := 6) (v := ?_) rfl (by kernel_rfl) (by kernel_rfl) (by kernel_rfl) (fun _ _ _ h => h) (Or.inl ⟨by rfl, ?_⟩) (by assumption) ?_
                          rotate_left
                          · intro w hSw; (try dsimp only at hSw); go_simp; (try (with_reducible rfl))
                          try simp only [List.getElem_toArray, List.getElem_cons_succ, List.getElem_cons_zero, Act.put, List.setIfInBounds_toArray, List.set_cons_zero, List.set_cons_succ]
                          refine wpAnyH_take (i := 7) (v := ?_) rfl (by kernel_rfl) (by kernel_rfl) (by kernel_rfl) (fun _ _ _ h => h) (Or.inl ⟨by rfl, ?_⟩) (by assumption) ?_
                          rotate_left
                          · intro w hSw; (try dsimp only at hSw); go_simp; (try (with_reducible rfl))
                          try simp only [List.getElem_toArray, List.getElem_cons_succ, List.getElem_cons_zero, Act.put, List.setIfInBounds_toArray, List.set_cons_zero, List.set_cons_succ]
                          refine wpAnyH_take (i := 8) (v := ?_) rfl (by kernel_rfl) (by kernel_rfl) (by kernel_rfl) (fun _ _ _ h => h) (Or.inl ⟨by rfl, ?_⟩) (by assumption) ?_
                          rotate_left
                          · intro w hSw; (try dsimp only at hSw); go_simp; (try (with_reducible rfl))
                          try simp only [List.getElem_toArray, List.getElem_cons_succ, List.getElem_cons_zero, Act.put, List.setIfInBounds_toArray, List.set_cons_zero, List.set_cons_succ]
                          refine wpAnyH_take (i := 9) (v := ?_) rfl (by kernel_rfl) (by kernel_rfl) (by kernel_rfl) (fun _ _ _ h => h) (Or.inl ⟨by rfl, ?_⟩) (by assumption) ?_
                          rotate_left
                          · intro w hSw; (try dsimp only at hSw); go_simp; (try (with_reducible rfl))
                          try simp only [List.getElem_toArray, List.getElem_cons_succ, List.getElem_cons_zero, Act.put, List.setIfInBounds_toArray, List.set_cons_zero, List.set_cons_succ]
                          refine wpAnyH_take (i := 10) (v := ?_) rfl (by kernel_rfl) (by kernel_rfl) (by kernel_rfl) (fun _ _ _ h => h) (Or.inl ⟨by rfl, ?_⟩) (by assumption) ?_
                          rotate_left
                          · intro w hSw; (try dsimp only at hSw); go_simp; (try (with_reducible rfl))
                          try simp only [List.getElem_toArray, List.getElem_cons_succ, List.getElem_cons_zero, Act.put, List.setIfInBounds_toArray, List.set_cons_zero, List.set_cons_succ]
                          refine wpAnyH_take (i := 11) (v := ?_) rfl (by kernel_rfl) (by kernel_rfl) (by kernel_rfl) (fun _ _ _ h => h) (Or.inl ⟨by rfl, ?_⟩) (by assumption) ?_
                          rotate_left
                          · intro w hSw; (try dsimp only at hSw); go_simp; (try (with_reducible rfl))
                          try simp only [List.getElem_toArray, List.getElem_cons_succ, List.getElem_cons_zero, Act.put, List.setIfInBounds_toArray, List.set_cons_zero, List.set_cons_succ]
                          refine wpAnyH_take (i := 12) (v := ?_) rfl (by kernel_rfl) (by kernel_rfl) (by kernel_rfl) (fun _ _ _ h => h) (Or.inl ⟨by rfl, ?_⟩) (by assumption) ?_
                          rotate_left
                          · intro w hSw; (try dsimp only at hSw); go_simp; (try (with_reducible rfl))
                          try simp only [List.getElem_toArray, List.getElem_cons_succ, List.getElem_cons_zero, Act.put, List.setIfInBounds_toArray, List.set_cons_zero, List.set_cons_succ]
                          refine wpAnyH_take (i := 13) (v := ?_) rfl (by kernel_rfl) (by kernel_rfl) (by kernel_rfl) (fun _ _ _ h => h) (Or.inl ⟨by rfl, ?_⟩) (by assumption) ?_
                          rotate_left
                          · intro w hSw; (try dsimp only at hSw); go_simp; (try (with_reducible rfl))
                          try simp only [List.getElem_toArray, List.getElem_cons_succ, List.getElem_cons_zero, Act.put, List.setIfInBounds_toArray, List.set_cons_zero, List.set_cons_succ]
                          refine wpAnyH_take (i := 14) (v := ?_) rfl (by kernel_rfl) (by kernel_rfl) (by kernel_rfl) (fun _ _ _ h => h) (Or.inl ⟨by rfl, ?_⟩) (by assumption) ?_
                          rotate_left
                          · intro w hSw; (try dsimp only at hSw); go_simp; (try (with_reducible rfl))
                          try simp only [List.getElem_toArray, List.getElem_cons_succ, List.getElem_cons_zero, Act.put, List.setIfInBounds_toArray, List.set_cons_zero, List.set_cons_succ]
                          refine wpAnyH_take (i := 15) (v := ?_) rfl (by kernel_rfl) (by kernel_rfl) (by kernel_rfl) (fun _ _ _ h => h) (Or.inl ⟨by rfl, ?_⟩) (by assumption) ?_
                          rotate_left
                          · intro w hSw; (try dsimp only at hSw); go_simp; (try (with_reducible rfl))
                          try simp only [List.getElem_toArray, List.getElem_cons_succ, List.getElem_cons_zero, Act.put, List.setIfInBounds_toArray, List.set_cons_zero, List.set_cons_succ]
                          refine wpAnyH_take (i := 16) (v := ?_) rfl (by kernel_rfl) (by kernel_rfl) (by kernel_rfl) (fun _ _ _ h => h) (Or.inl ⟨by rfl, ?_⟩) (by assumption) ?_
                          rotate_left
                          · intro w hSw; (try dsimp only at hSw); go_simp; (try (with_reducible rfl))
                          try simp only [List.getElem_toArray, List.getElem_cons_succ, List.getElem_cons_zero, Act.put, List.setIfInBounds_toArray, List.set_cons_zero, List.set_cons_succ]
                          refine wpAnyH_take (i := 17) (v := ?_) rfl (by kernel_rfl) (by kernel_rfl) (by kernel_rfl) (fun _ _ _ h => h) (Or.inl ⟨by rfl, ?_⟩) (by assumption) ?_
                          rotate_left
                          · intro w hSw; (try dsimp only at hSw); go_simp; (try (with_reducible rfl))
                          try simp only [List.getElem_toArray, List.getElem_cons_succ, List.getElem_cons_zero, Act.put, List.setIfInBounds_toArray, List.set_cons_zero, List.set_cons_succ]
                          refine wpAnyH_take (i := 18) (v := ?_) rfl (by kernel_rfl) (by kernel_rfl) (by kernel_rfl) (fun _ _ _ h => h) (Or.inl ⟨by rfl, ?_⟩) (by assumption) ?_
                          rotate_left
                          · intro w hSw; (try dsimp only at hSw); go_simp; (try (with_reducible rfl))
                          try simp only [List.getElem_toArray, List.getElem_cons_succ, List.getElem_cons_zero, Act.put, List.setIfInBounds_toArray, List.set_cons_zero, List.set_cons_succ]
                          refine wpAnyH_take (i := 19) (v := ?_) rfl (by kernel_rfl) (by kernel_rfl) (by kernel_rfl) (fun _ _ _ h => h) (Or.inl ⟨by rfl, ?_⟩) (by assumption) ?_
                          rotate_left
                          · intro w hSw; (try dsimp only at hSw); go_simp; (try (with_reducible rfl))
                          try simp only [List.getElem_toArray, List.getElem_cons_succ, List.getElem_cons_zero, Act.put, List.setIfInBounds_toArray, List.set_cons_zero, List.set_cons_succ]
                          refine wpAnyH_take (i := 20) (v := ?_) rfl (by kernel_rfl) (by kernel_rfl) (by kernel_rfl) (fun _ _ _ h => h) (Or.inl ⟨by rfl, ?_⟩) (by assumption) ?_
                          rotate_left
                          · intro w hSw; (try dsimp only at hSw); go_simp; (try (with_reducible rfl))
                          try simp only [List.getElem_toArray, List.getElem_cons_succ, List.getElem_cons_zero, Act.put, List.setIfInBounds_toArray, List.set_cons_zero, List.set_cons_succ]
                          refine wpAnyH_take (i := 21) (v := ?_) rfl (by kernel_rfl) (by kernel_rfl) (by kernel_rfl) (fun _ _ _ h => h) (Or.inl ⟨by rfl, ?_⟩) (by assumption) ?_
                          rotate_left
                          · intro w hSw; (try dsimp only at hSw); go_simp; (try (with_reducible rfl))
                          try simp only [List.getElem_toArray, List.getElem_cons_succ, List.getElem_cons_zero, Act.put, List.setIfInBounds_toArray, List.set_cons_zero, List.set_cons_succ]
                          refine wpAnyH_take (i := 22) (v := ?_) rfl (by kernel_rfl) (by kernel_rfl) (by kernel_rfl) (fun _ _ _ h => h) (Or.inl ⟨by rfl, ?_⟩) (by assumption) ?_
                          rotate_left
                          · intro w hSw; (try dsimp only at hSw); go_simp; (try (with_reducible rfl))
                          try simp only [List.getElem_toArray, List.getElem_cons_succ, List.getElem_cons_zero, Act.put, List.setIfInBounds_toArray, List.set_cons_zero, List.set_cons_succ]
                          refine wpAnyH_take (i := 23) (v := ?_) rfl (by kernel_rfl) (by kernel_rfl) (by kernel_rfl) (fun _ _ _ h => h) (Or.inl ⟨by rfl, ?_⟩) (by assumption) ?_
                          rotate_left
                          · intro w hSw; (try dsimp only at hSw); go_simp; (try (with_reducible rfl))
                          try simp only [List.getElem_toArray, List.getElem_cons_succ, List.getElem_cons_zero, Act.put, List.setIfInBounds_toArray, List.set_cons_zero, List.set_cons_succ]
                          refine wpAnyH_take (i := 24) (v := ?_) rfl (by kernel_rfl) (by kernel_rfl) (by kernel_rfl) (fun _ _ _ h => h) (Or.inl ⟨by rfl, ?_⟩) (by assumption) ?_
                          rotate_left
                          · intro w hSw; (try dsimp only at hSw); go_simp; (try (with_reducible rfl))
                          try simp only [List.getElem_toArray, List.getElem_cons_succ, List.getElem_cons_zero, Act.put, List.setIfInBounds_toArray, List.set_cons_zero, List.set_cons_succ]
                          refine wpAnyH_take (i := 25) (v := ?_) rfl (by kernel_rfl) (by kernel_rfl) (by kernel_rfl) (fun _ _ _ h => h) (Or.inl ⟨by rfl, ?_⟩) (by assumption) ?_
                          rotate_left
                          · intro w hSw; (try dsimp only at hSw); go_simp; (try (with_reducible rfl))
                          try simp only [List.getElem_toArray, List.getElem_cons_succ, List.getElem_cons_zero, Act.put, List.setIfInBounds_toArray, List.set_cons_zero, List.set_cons_succ]
                          refine wpAnyH_take (i := 26) (v := ?_) rfl (by kernel_rfl) (by kernel_rfl) (by kernel_rfl) (fun _ _ _ h => h) (Or.inl ⟨by rfl, ?_⟩) (by assumption) ?_
                          rotate_left
                          · intro w hSw; (try dsimp only at hSw); go_simp; (try (with_reducible rfl))
                          try simp only [List.getElem_toArray, List.getElem_cons_succ, List.getElem_cons_zero, Act.put, List.setIfInBounds_toArray, List.set_cons_zero, List.set_cons_succ]
                          refine wpAnyH_ready (rs := [27]) (by kernel_rfl) (by simp) ?_
                          refine AllReadyH.cons rfl (fun K hK => ?_) AllReadyH.nil
                          go_simp
                          go_at_call 56; refine (CB.out _ hHeld).mono ?_; rintro e w2 ⟨rfl, hs2⟩
                          go_wp2_with fail
                          refine hK.out _ _ ?_ (fun hHeld => ?_)
                          · clear hK K; first | exact hs2 | exact HS2.out
                          clear hK K
                          try simp only [List.getElem_toArray, List.getElem_cons_succ, List.getElem_cons_zero, Act.put, List.setIfInBounds_toArray, List.set_cons_zero, List.set_cons_succ]
                          refine wpAnyH_take (i := 28) (v := ?_) rfl (by kernel_rfl) (by kernel_rfl) (by kernel_rfl) (fun _ _ _ h => h) (Or.inl ⟨by rfl, ?_⟩) (by assumption) ?_
                          rotate_left
                          · intro w hSw; (try dsimp only at hSw); go_simp; (try (with_reducible rfl))
                          try simp only [List.getElem_toArray, List.getElem_cons_succ, List.getElem_cons_zero, Act.put, List.setIfInBounds_toArray, List.set_cons_zero, List.set_cons_succ]
                          refine wpAnyH_take (i := 29) (v := ?_) rfl (by kernel_rfl) (by kernel_rfl) (by kernel_rfl) (fun _ _ _ h => h) (Or.inl ⟨by rfl, ?_⟩) (by assumption) ?_
                          rotate_left
                          · intro w hSw; (try dsimp only at hSw); go_simp; (try (with_reducible rfl))
                          try simp only [List.getElem_toArray, List.getElem_cons_succ, List.getElem_cons_zero, Act.put, List.setIfInBounds_toArray, List.set_cons_zero, List.set_cons_succ]
                          refine wpAnyH_done (by kernel_rfl) ?_ _
                          obtain ⟨_, _, _, _, _, _, _, _, hbl⟩ := hHeld
                          have HX3 : Hid (Below W1.heap.size W1 w2 ∧ Below wi.heap.size wi w2) := ⟨HZ.out.1.trans (hbl.mono HZ.out.1.size), HZ.out.2.trans (hbl.mono HZ.out.2.size)⟩
                          clear hbl HS2 CB hs2 hw2 hw3
                          go_wp2
                          go_roundw
                          case rel => exact ⟨d + 1, by omega, by omega, by go_num, HAL2.out, HX3.out⟩
                          case measure => simp [intOf]; omega
                    · have hdx : d = hi + 1 := by omega
                      have HF2 : Hid (firstF (cellF rows b m p r) (q + 1) = 0) := by
                        show _ = _
                        rw [firstF_step HFC.out]
                        exact cell_pass HRP.out.1 hqm HPQ.out.1 HPQ.out.2 HBB.out (fun j h1 h2 h3 => by rw [HXE.out.1, HXE.out.2]; exact HAL.out j (by omega) (by omega))
                      by_cases hmn : (m : Int) - 1 < (q : Int) + 1
                      · have hmq1 : decide ((d : Int) ≤ (m : Int) - 1) = false := decide_eq_false (by omega)
                        have hmq3 : ¬ (d : Int) ≤ (m : Int) - 1 := by omega
                        go_wp2
                        go_roundw
                        case rel => exact ⟨q + 1, by omega, by go_num, HF2.out, HZ.out.1⟩
                        case measure => simp [intOf]; omega
                      · have hmq2 : decide ((d : Int) ≤ (q : Int) + 1) = false := decide_eq_false (by omega)
                        have hmq4 : ¬ (d : Int) ≤ (q : Int) + 1 := by omega
                        go_wp2
                        go_roundw
                        case rel => exact ⟨q + 1, by omega, by go_num, HF2.out, HZ.out.1⟩
                        case measure => simp [intOf]; omega
                · go_wp2
                  refine wp_region_held_drew (S := (fun w' : World => Below wi.heap.size wi w')) (by kernel_rfl) ?_ ?_
                  · exact (Below.refl _ _).drew
                  intro hHeld
                  refine wpAnyH_take (i := 0) (v := ?_) rfl (by kernel_rfl) (by kernel_rfl) (by kernel_rfl) (fun _ _ _ h => h) (Or.inl ⟨by rfl, ?_⟩) (by assumption) ?_
                  rotate_left
                  · intro w hSw; (try dsimp only at hSw); go_simp; (try (with_reducible rfl))
                  try simp only [List.getElem_toArray, List.getElem_cons_succ, List.getElem_cons_zero, Act.put, List.setIfInBounds_toArray, List.set_cons_zero, List.set_cons_succ]
                  refine wpAnyH_take (i := 1) (v := ?_) rfl (by kernel_rfl) (by kernel_rfl) (by kernel_rfl) (fun _ _ _ h => h) (Or.inl ⟨by rfl, ?_⟩) (by assumption) ?_
                  rotate_left
                  · intro w hSw; (try dsimp only at hSw); go_simp; (try (with_reducible rfl))
                  try simp only [List.getElem_toArray, List.getElem_cons_succ, List.getElem_cons_zero, Act.put, List.setIfInBounds_toArray, List.set_cons_zero, List.set_cons_succ]
                  refine wpAnyH_take (i := 2) (v := ?_) rfl (by kernel_rfl) (by kernel_rfl) (by kernel_rfl) (fun _ _ _ h => h) (Or.inl ⟨by rfl, ?_⟩) (by assumption) ?_
                  rotate_left
                  · intro w hSw; (try dsimp only at hSw); go_simp; (try (with_reducible rfl))
                  try simp only [List.getElem_toArray, List.getElem_cons_succ, List.getElem_cons_zero, Act.put, List.setIfInBounds_toArray, List.set_cons_zero, List.set_cons_succ]
                  refine wpAnyH_take (i := 3) (v := undef) rfl (by kernel_rfl) (by kernel_rfl) (by kernel_rfl) (fun _ _ _ h => h) (Or.inr ⟨by rfl, rfl⟩) (by assumption) ?_
                  try simp only [List.getElem_toArray, List.getElem_cons_succ, List.getElem_cons_zero, Act.put, List.setIfInBounds_toArray, List.set_cons_zero, List.set_cons_succ]
                  refine wpAnyH_take (i := 4) (v := undef) rfl (by kernel_rfl) (by kernel_rfl) (by kernel_rfl) (fun _ _ _ h => h) (Or.inr ⟨by rfl, rfl⟩) (by assumption) ?_
                  try simp only [List.getElem_toArray, List.getElem_cons_succ, List.getElem_cons_zero, Act.put, List.setIfInBounds_toArray, List.set_cons_zero, List.set_cons_succ]
                  refine wpAnyH_take (i := 5) (v := undef) rfl (by kernel_rfl) (by kernel_rfl) (by kernel_rfl) (fun _ _ _ h => h) (Or.inr ⟨by rfl, rfl⟩) (by assumption) ?_
                  try simp only [List.getElem_toArray, List.getElem_cons_succ, List.getElem_cons_zero, Act.put, List.setIfInBounds_toArray, List.set_cons_zero, List.set_cons_succ]
                  refine wpAnyH_take (i := 6) (v := undef) rfl (by kernel_rfl) (by kernel_rfl) (by kernel_rfl) (fun _ _ _ h => h) (Or.inr ⟨by rfl, rfl⟩) (by assumption) ?_
                  try simp only [List.getElem_toArray, List.getElem_cons_succ, List.getElem_cons_zero, Act.put, List.setIfInBounds_toArray, List.set_cons_zero, List.set_cons_succ]
                  refine wpAnyH_take (i := 7) (v := undef) rfl (by kernel_rfl) (by kernel_rfl) (by kernel_rfl) (fun _ _ _ h => h) (Or.inr ⟨by rfl, rfl⟩) (by assumption) ?_
                  try simp only [List.getElem_toArray, List.getElem_cons_succ, List.getElem_cons_zero, Act.put, List.setIfInBounds_toArray, List.set_cons_zero, List.set_cons_succ]
                  refine wpAnyH_take (i := 8) (v := undef) rfl (by kernel_rfl) (by kernel_rfl) (by kernel_rfl) (fun _ _ _ h => h) (Or.inr ⟨by rfl, rfl⟩) (by assumption) ?_
                  try simp only [List.getElem_toArray, List.getElem_cons_succ, List.getElem_cons_zero, Act.put, List.setIfInBounds_toArray, List.set_cons_zero, List.set_cons_succ]
                  refine wpAnyH_take (i := 9) (v := undef) rfl (by kernel_rfl) (by kernel_rfl) (by kernel_rfl) (fun _ _ _ h => h) (Or.inr ⟨by rfl, rfl⟩) (by assumption) ?_
                  try simp only [List.getElem_toArray, List.getElem_cons_succ, List.getElem_cons_zero, Act.put, List.setIfInBounds_toArray, List.set_cons_zero, List.set_cons_succ]
                  refine wpAnyH_take (i := 10) (v := undef) rfl (by kernel_rfl) (by kernel_rfl) (by kernel_rfl) (fun _ _ _ h => h) (Or.inr ⟨by rfl, rfl⟩) (by assumption) ?_
                  try simp only [List.getElem_toArray, List.getElem_cons_succ, List.getElem_cons_zero, Act.put, List.setIfInBounds_toArray, List.set_cons_zero, List.set_cons_succ]
                  refine wpAnyH_take (i := 11) (v := undef) rfl (by kernel_rfl) (by kernel_rfl) (by kernel_rfl) (fun _ _ _ h => h) (Or.inr ⟨by rfl, rfl⟩) (by assumption) ?_
                  try simp only [List.getElem_toArray, List.getElem_cons_succ, List.getElem_cons_zero, Act.put, List.setIfInBounds_toArray, List.set_cons_zero, List.set_cons_succ]
                  refine wpAnyH_take (i := 12) (v := undef) rfl (by kernel_rfl) (by kernel_rfl) (by kernel_rfl) (fun _ _ _ h => h) (Or.inr ⟨by rfl, rfl⟩) (by assumption) ?_
                  try simp only [List.getElem_toArray, List.getElem_cons_succ, List.getElem_cons_zero, Act.put, List.setIfInBounds_toArray, List.set_cons_zero, List.set_cons_succ]
                  refine wpAnyH_take (i := 13) (v := undef) rfl (by kernel_rfl) (by kernel_rfl) (by kernel_rfl) (fun _ _ _ h => h) (Or.inr ⟨by rfl, rfl⟩) (by assumption) ?_
                  try simp only [List.getElem_toArray, List.getElem_cons_succ, List.getElem_cons_zero, Act.put, List.setIfInBounds_toArray, List.set_cons_zero, List.set_cons_succ]
                  refine wpAnyH_take (i := 14) (v := undef) rfl (by kernel_rfl) (by kernel_rfl) (by kernel_rfl) (fun _ _ _ h => h) (Or.inr ⟨by rfl, rfl⟩) (by assumption) ?_
                  try simp only [List.getElem_toArray, List.getElem_cons_succ, List.getElem_cons_zero, Act.put, List.setIfInBounds_toArray, List.set_cons_zero, List.set_cons_succ]
                  refine wpAnyH_take (i := 15) (v := undef) rfl (by kernel_rfl) (by kernel_rfl) (by kernel_rfl) (fun _ _ _ h => h) (Or.inr ⟨by rfl, rfl⟩) (by assumption) ?_
                  try simp only [List.getElem_toArray, List.getElem_cons_succ, List.getElem_cons_zero, Act.put, List.setIfInBounds_toArray, List.set_cons_zero, List.set_cons_succ]
                  refine wpAnyH_take (i := 16) (v := undef) rfl (by kernel_rfl) (by kernel_rfl) (by kernel_rfl) (fun _ _ _ h => h) (Or.inr ⟨by rfl, rfl⟩) (by assumption) ?_
                  try simp only [List.getElem_toArray, List.getElem_cons_succ, List.getElem_cons_zero, Act.put, List.setIfInBounds_toArray, List.set_cons_zero, List.set_cons_succ]
                  refine wpAnyH_take (i := 17) (v := ?_) rfl (by kernel_rfl) (by kernel_rfl) (by kernel_rfl) (fun _ _ _ h => h) (Or.inl ⟨by rfl, ?_⟩) (by assumption) ?_
                  rotate_left
                  · intro w hSw; (try dsimp only at hSw); go_simp; (try (with_reducible rfl))
                  try simp only [List.getElem_toArray, List.getElem_cons_succ, List.getElem_cons_zero, Act.put, List.setIfInBounds_toArray, List.set_cons_zero, List.set_cons_succ]
                  refine wpAnyH_done (by kernel_rfl) ?_ _
                  clear hHeld
                  have HYD : Hid (Below W1.heap.size W1 wi.drew ∧ Below wi.heap.size wi wi.drew) := ⟨HY.out.drew, (Below.refl _ _).drew⟩
                  go_wp2
                  go_loopw [10] (fun s wq => ∃ d : Nat, lo ≤ d ∧ d ≤ hi + 1 ∧ s = .int .i64 (d : Int) ∧ Hid (∀ j : Nat, lo ≤ j → j < d → x ≤ v + cellV p (r - 1) j + (if (j : Int) = (q : Int) then 0 else b)) ∧ Hid (Below W1.heap.size W1 wq ∧ Below wi.heap.size wi wq)) (fun s _ => hi + 1 - (intOf s).toNat)
                  case atStart => exact ⟨lo, Nat.le_refl _, by omega, by rw [show ((lo : Nat) : Int) = 0 by omega], fun j h1 h2 => absurd h2 (by omega), HYD.out⟩
                  case round =>
                    obtain ⟨d, hd1, hd2, rfl, HAL, HZ⟩ := hrel
                    obtain ⟨wj, hwj⟩ : ∃ W, W = wr := ⟨_, rfl⟩
                    subst hwj
                    have hd0 : (0 : Int) ≤ (d : Int) := by omega
                    by_cases hdh : d ≤ hi
                    · have hdm : d < m := by omega
                      have hdI : (d : Int) < (m : Int) := by omega
                      obtain ⟨j1, j2, j3, j4⟩ := HK1.out _ HZ.out.2
                      obtain ⟨g0, g1⟩ := HQ.out _ HZ.out.1
                      obtain ⟨bs, cs, k5, k6⟩ := rows_at (HP1.out.below HZ.out.1) (fun r hr => (HPG.out r hr).1) s d (by omega) hdm
                      obtain ⟨y, hy⟩ : ∃ y, (p.getD s []).getD d 0 = y := ⟨_, rfl⟩
                      have HYE : Hid (cellV p (r - 1) d = y) := by show _ = _; unfold cellV; rw [show r - 1 = s by have := HRP.out.2; omega]; exact hy
                      have hyb : -1000000 ≤ y ∧ y ≤ 1000000 := by
                        have h := HPG.out _ (getD_in p s [] (by rw [HPL.out]; omega))
                        rw [← hy]
                        exact h.2 _ (getD_in _ d 0 (by rw [h.1]; exact hdm))
                      rw [hy] at k6
                      obtain ⟨e, he⟩ : ∃ e, (if (d : Int) = (q : Int) then 0 else b) = e := ⟨_, rfl⟩
                      have heb : 0 ≤ e ∧ e ≤ 1000 := by have := HBB.out; rw [← he]; split <;> omega
                      have HEQ := Lib.hid he
                      have hw2 : IntKind.i64.wrap (v + y) = v + y := IntWalk.i64_in _ (by omega)
                      have hw3 : IntKind.i64.wrap (v + y + e) = v + y + e := IntWalk.i64_in _ (by omega)
                      have HS2 : Hid ((fun w' : World => w'.cell? (pd.add r) = some (.slice (some br) m cr) ∧ w'.cell? (br.add q) = some (.int .i64 x) ∧ w'.cell? ⟨g, 0, none⟩ = some (.slice (some ad) n c) ∧ w'.cell? ⟨g, 1, none⟩ = some (.int .i64 b) ∧ w'.cell? (ad.add r) = some (.slice (some dr) m er) ∧ w'.cell? (dr.add q) = some (.int .i64 v) ∧ w'.cell? (pd.add s) = some (.slice (some bs) m cs) ∧ w'.cell? (bs.add d) = some (.int .i64 y) ∧ Below wj.heap.size wj w') wj.drew) := ⟨j1, j2, g0, g1, j3, j4, k5, k6, (Below.refl _ _).drew⟩
                      have CB : Hid (∀ W', (fun w' : World => w'.cell? (pd.add r) = some (.slice (some br) m cr) ∧ w'.cell? (br.add q) = some (.int .i64 x) ∧ w'.cell? ⟨g, 0, none⟩ = some (.slice (some ad) n c) ∧ w'.cell? ⟨g, 1, none⟩ = some (.int .i64 b) ∧ w'.cell? (ad.add r) = some (.slice (some dr) m er) ∧ w'.cell? (dr.add q) = some (.int .i64 v) ∧ w'.cell? (pd.add s) = some (.slice (some bs) m cs) ∧ w'.cell? (bs.add d) = some (.int .i64 y) ∧ Below wj.heap.size wj w') W' → Calls Tryd.prog 56 #[.agg #[.slice (some ad) n c, .int .i64 b], .int .i64 (d : Int), .int .i64 (q : Int)] W' fun e' w' => e' = .returned (.int .i64 e) ∧ (fun w' : World => w'.cell? (pd.add r) = some (.slice (some br) m cr) ∧ w'.cell? (br.add q) = some (.int .i64 x) ∧ w'.cell? ⟨g, 0, none⟩ = some (.slice (some ad) n c) ∧ w'.cell? ⟨g, 1, none⟩ = some (.int .i64 b) ∧ w'.cell? (ad.add r) = some (.slice (some dr) m er) ∧ w'.cell? (dr.add q) = some (.int .i64 v) ∧ w'.cell? (pd.add s) = some (.slice (some bs) m cs) ∧ w'.cell? (bs.add d) = some (.int .i64 y) ∧ Below wj.heap.size wj w') w') := by
                        rintro W' ⟨a1, a2, a3, a4, a5, a6, a7, a8, a9⟩
                        refine (refBend_any (.slice (some ad) n c) b (d : Int) (q : Int) W' ⟨_, _, _, rfl⟩).mono ?_
                        rintro e' w' ⟨he', rfl⟩
                        exact ⟨by rw [he', HEQ.out], cellA _ a1, cellA _ a2, cellA _ a3, cellA _ a4, cellA _ a5, cellA _ a6, cellA _ a7, cellA _ a8, a9.alloc a9.size _⟩
                      have hmq1 : decide ((d : Int) ≤ (m : Int) - 1) = true := decide_eq_true (by omega)
                      have hmq2 : decide ((d : Int) ≤ (q : Int) + 1) = true := decide_eq_true (by omega)
                      have hdr : 0 < r ∧ q ≤ d + 1 ∧ d ≤ q + 1 := by omega
                      have HDR := Lib.hid hdr
                      clear hy he j1 j2 j3 j4 g0 g1 k5 k6 hdr
                      by_cases hgt : v + y + e < x
                      · have hdc : decide (v + y + e < x) = true := decide_eq_true hgt
                        have HE3 : Hid (E = 19) := by
                          show _ = _
                          have h0 := cell_fail (rows := rows) (p := p) (r := r) HDR.out.1 hdm HDR.out.2.1 HDR.out.2.2 hqm HPQ.out.1 HPQ.out.2 HBB.out (by rw [HXE.out.1, HXE.out.2, HYE.out, HEQ.out]; exact hgt)
                          have h1 : rowF rows b m p r = 19 := firstF_stop HFC.out h0 (by decide) hqm
                          rw [HEE.out]
                          exact firstF_stop HF.out h1 (by decide) hlt
                        by_cases hmn : (m : Int) - 1 < (q : Int) + 1
                        all_goals
                          go_wp2
                          refine wp_region_held_drew (S := (fun w' : World => w'.cell? (pd.add r) = some (.slice (some br) m cr) ∧ w'.cell? (br.add q) = some (.int .i64 x) ∧ w'.cell? ⟨g, 0, none⟩ = some (.slice (some ad) n c) ∧ w'.cell? ⟨g, 1, none⟩ = some (.int .i64 b) ∧ w'.cell? (ad.add r) = some (.slice (some dr) m er) ∧ w'.cell? (dr.add q) = some (.int .i64 v) ∧ w'.cell? (pd.add s) = some (.slice (some bs) m cs) ∧ w'.cell? (bs.add d) = some (.int .i64 y) ∧ Below wj.heap.size wj w')) (by kernel_rfl) ?_ ?_
                          · first | exact hs2 | exact HS2.out
                          intro hHeld
                          refine wpAnyH_take (i := 0) (v := ?_) rfl (by kernel_rfl) (by kernel_rfl) (by kernel_rfl) (fun _ _ _ h => h) (Or.inl ⟨by rfl, ?_⟩) (by assumption) ?_
                          rotate_left
                          · intro w hSw; (try dsimp only at hSw); go_simp; (try (with_reducible rfl))
                          try simp only [List.getElem_toArray, List.getElem_cons_succ, List.getElem_cons_zero, Act.put, List.setIfInBounds_toArray, List.set_cons_zero, List.set_cons_succ]
                          refine wpAnyH_take (i := 1) (v := ?_) rfl (by kernel_rfl) (by kernel_rfl) (by kernel_rfl) (fun _ _ _ h => h) (Or.inl ⟨by rfl, ?_⟩) (by assumption) ?_
                          rotate_left
                          · intro w hSw; (try dsimp only at hSw); go_simp; (try (with_reducible rfl))
                          try simp only [List.getElem_toArray, List.getElem_cons_succ, List.getElem_cons_zero, Act.put, List.setIfInBounds_toArray, List.set_cons_zero, List.set_cons_succ]
                          refine wpAnyH_take (i := 2) (v := ?_) rfl (by kernel_rfl) (by kernel_rfl) (by kernel_rfl) (fun _ _ _ h => h) (Or.inl ⟨by rfl, ?_⟩) (by assumption) ?_
                          rotate_left
                          · intro w hSw; (try dsimp only at hSw); go_simp; (try (with_reducible rfl))
                          try simp only [List.getElem_toArray, List.getElem_cons_succ, List.getElem_cons_zero, Act.put, List.setIfInBounds_toArray, List.set_cons_zero, List.set_cons_succ]
                          refine wpAnyH_take (i := 3) (v := ?_) rfl (by kernel_rfl) (by kernel_rfl) (by kernel_rfl) (fun _ _ _ h => h) (Or.inl ⟨by rfl, ?_⟩) (by assumption) ?_
                          rotate_left
                          · intro w hSw; (try dsimp only at hSw); go_simp; (try (with_reducible rfl))
                          try simp only [List.getElem_toArray, List.getElem_cons_succ, List.getElem_cons_zero, Act.put, List.setIfInBounds_toArray, List.set_cons_zero, List.set_cons_succ]
                          refine wpAnyH_take (i := 4) (v := ?_) rfl (by kernel_rfl) (by kernel_rfl) (by kernel_rfl) (fun _ _ _ h => h) (Or.inl ⟨by rfl, ?_⟩) (by assumption) ?_
                          rotate_left
                          · intro w hSw; (try dsimp only at hSw); go_simp; (try (with_reducible rfl))
                          try simp only [List.getElem_toArray, List.getElem_cons_succ, List.getElem_cons_zero, Act.put, List.setIfInBounds_toArray, List.set_cons_zero, List.set_cons_succ]
                          refine wpAnyH_take (i := 5) (v := ?_) rfl (by kernel_rfl) (by kernel_rfl) (by kernel_rfl) (fun _ _ _ h => h) (Or.inl ⟨by rfl, ?_⟩) (by assumption) ?_
                          rotate_left
                          · intro w hSw; (try dsimp only at hSw); go_simp; (try (with_reducible rfl))
                          try simp only [List.getElem_toArray, List.getElem_cons_succ, List.getElem_cons_zero, Act.put, List.setIfInBounds_toArray, List.set_cons_zero, List.set_cons_succ]
                          refine wpAnyH_take (i := 6) (v := ?_) rfl (by kernel_rfl) (by kernel_rfl) (by kernel_rfl) (fun _ _ _ h => h) (Or.inl ⟨by rfl, ?_⟩) (by assumption) ?_
                          rotate_left
                          · intro w hSw; (try dsimp only at hSw); go_simp; (try (with_reducible rfl))
                          try simp only [List.getElem_toArray, List.getElem_cons_succ, List.getElem_cons_zero, Act.put, List.setIfInBounds_toArray, List.set_cons_zero, List.set_cons_succ]
                          refine wpAnyH_take (i := 7) (v := ?_) rfl (by kernel_rfl) (by kernel_rfl) (by kernel_rfl) (fun _ _ _ h => h) (Or.inl ⟨by rfl, ?_⟩) (by assumption) ?_
                          rotate_left
                          · intro w hSw; (try dsimp only at hSw); go_simp; (try (with_reducible rfl))
                          try simp only [List.getElem_toArray, List.getElem_cons_succ, List.getElem_cons_zero, Act.put, List.setIfInBounds_toArray, List.set_cons_zero, List.set_cons_succ]
                          refine wpAnyH_take (i := 8) (v := ?_) rfl (by kernel_rfl) (by kernel_rfl) (by kernel_rfl) (fun _ _ _ h => h) (Or.inl ⟨by rfl, ?_⟩) (by assumption) ?_
                          rotate_left
                          · intro w hSw; (try dsimp only at hSw); go_simp; (try (with_reducible rfl))
                          try simp only [List.getElem_toArray, List.getElem_cons_succ, List.getElem_cons_zero, Act.put, List.setIfInBounds_toArray, List.set_cons_zero, List.set_cons_succ]
                          refine wpAnyH_take (i := 9) (v := ?_) rfl (by kernel_rfl) (by kernel_rfl) (by kernel_rfl) (fun _ _ _ h => h) (Or.inl ⟨by rfl, ?_⟩) (by assumption) ?_
                          rotate_left
                          · intro w hSw; (try dsimp only at hSw); go_simp; (try (with_reducible rfl))
                          try simp only [List.getElem_toArray, List.getElem_cons_succ, List.getElem_cons_zero, Act.put, List.setIfInBounds_toArray, List.set_cons_zero, List.set_cons_succ]
                          refine wpAnyH_take (i := 10) (v := ?_) rfl (by kernel_rfl) (by kernel_rfl) (by kernel_rfl) (fun _ _ _ h => h) (Or.inl ⟨by rfl, ?_⟩) (by assumption) ?_
                          rotate_left
                          · intro w hSw; (try dsimp only at hSw); go_simp; (try (with_reducible rfl))
                          try simp only [List.getElem_toArray, List.getElem_cons_succ, List.getElem_cons_zero, Act.put, List.setIfInBounds_toArray, List.set_cons_zero, List.set_cons_succ]
                          refine wpAnyH_take (i := 11) (v := ?_) rfl (by kernel_rfl) (by kernel_rfl) (by kernel_rfl) (fun _ _ _ h => h) (Or.inl ⟨by rfl, ?_⟩) (by assumption) ?_
                          rotate_left
                          · intro w hSw; (try dsimp only at hSw); go_simp; (try (with_reducible rfl))
                          try simp only [List.getElem_toArray, List.getElem_cons_succ, List.getElem_cons_zero, Act.put, List.setIfInBounds_toArray, List.set_cons_zero, List.set_cons_succ]
                          refine wpAnyH_take (i := 12) (v := ?_) rfl (by kernel_rfl) (by kernel_rfl) (by kernel_rfl) (fun _ _ _ h => h) (Or.inl ⟨by rfl, ?_⟩) (by assumption) ?_
                          rotate_left
                          · intro w hSw; (try dsimp only at hSw); go_simp; (try (with_reducible rfl))
                          try simp only [List.getElem_toArray, List.getElem_cons_succ, List.getElem_cons_zero, Act.put, List.setIfInBounds_toArray, List.set_cons_zero, List.set_cons_succ]
                          refine wpAnyH_take (i := 13) (v := ?_) rfl (by kernel_rfl) (by kernel_rfl) (by kernel_rfl) (fun _ _ _ h => h) (Or.inl ⟨by rfl, ?_⟩) (by assumption) ?_
                          rotate_left
                          · intro w hSw; (try dsimp only at hSw); go_simp; (try (with_reducible rfl))
                          try simp only [List.getElem_toArray, List.getElem_cons_succ, List.getElem_cons_zero, Act.put, List.setIfInBounds_toArray, List.set_cons_zero, List.set_cons_succ]
                          refine wpAnyH_take (i := 14) (v := ?_) rfl (by kernel_rfl) (by kernel_rfl) (by kernel_rfl) (fun _ _ _ h => h) (Or.inl ⟨by rfl, ?_⟩) (by assumption) ?_
                          rotate_left
                          · intro w hSw; (try dsimp only at hSw); go_simp; (try (with_reducible rfl))
                          try simp only [List.getElem_toArray, List.getElem_cons_succ, List.getElem_cons_zero, Act.put, List.setIfInBounds_toArray, List.set_cons_zero, List.set_cons_succ]
                          refine wpAnyH_take (i := 15) (v := ?_) rfl (by kernel_rfl) (by kernel_rfl) (by kernel_rfl) (fun _ _ _ h => h) (Or.inl ⟨by rfl, ?_⟩) (by assumption) ?_
                          rotate_left
                          · intro w hSw; (try dsimp only at hSw); go_simp; (try (with_reducible rfl))
                          try simp only [List.getElem_toArray, List.getElem_cons_succ, List.getElem_cons_zero, Act.put, List.setIfInBounds_toArray, List.set_cons_zero, List.set_cons_succ]
                          refine wpAnyH_take (i := 16) (v := ?_) rfl (by kernel_rfl) (by kernel_rfl) (by kernel_rfl) (fun _ _ _ h => h) (Or.inl ⟨by rfl, ?_⟩) (by assumption) ?_
                          rotate_left
                          · intro w hSw; (try dsimp only at hSw); go_simp; (try (with_reducible rfl))
                          try simp only [List.getElem_toArray, List.getElem_cons_succ, List.getElem_cons_zero, Act.put, List.setIfInBounds_toArray, List.set_cons_zero, List.set_cons_succ]
                          refine wpAnyH_take (i := 17) (v := ?_) rfl (by kernel_rfl) (by kernel_rfl) (by kernel_rfl) (fun _ _ _ h => h) (Or.inl ⟨by rfl, ?_⟩) (by assumption) ?_
                          rotate_left
                          · intro w hSw; (try dsimp only at hSw); go_simp; (try (with_reducible rfl))
                          try simp only [List.getElem_toArray, List.getElem_cons_succ, List.getElem_cons_zero, Act.put, List.setIfInBounds_toArray, List.set_cons_zero, List.set_cons_succ]
                          refine wpAnyH_take (i := 18) (v := ?_) rfl (by kernel_rfl) (by kernel_rfl) (by kernel_rfl) (fun _ _ _ h => h) (Or.inl ⟨by rfl, ?_⟩) (by assumption) ?_
                          rotate_left
                          · intro w hSw; (try dsimp only at hSw); go_simp; (try (with_reducible rfl))
                          try simp only [List.getElem_toArray, List.getElem_cons_succ, List.getElem_cons_zero, Act.put, List.setIfInBounds_toArray, List.set_cons_zero, List.set_cons_succ]
                          refine wpAnyH_take (i := 19) (v := ?_) rfl (by kernel_rfl) (by kernel_rfl) (by kernel_rfl) (fun _ _ _ h => h) (Or.inl ⟨by rfl, ?_⟩) (by assumption) ?_
                          rotate_left
                          · intro w hSw; (try dsimp only at hSw); go_simp; (try (with_reducible rfl))
                          try simp only [List.getElem_toArray, List.getElem_cons_succ, List.getElem_cons_zero, Act.put, List.setIfInBounds_toArray, List.set_cons_zero, List.set_cons_succ]
                          refine wpAnyH_take (i := 20) (v := ?_) rfl (by kernel_rfl) (by kernel_rfl) (by kernel_rfl) (fun _ _ _ h => h) (Or.inl ⟨by rfl, ?_⟩) (by assumption) ?_
                          rotate_left
                          · intro w hSw; (try dsimp only at hSw); go_simp; (try (with_reducible rfl))
                          try simp only [List.getElem_toArray, List.getElem_cons_succ, List.getElem_cons_zero, Act.put, List.setIfInBounds_toArray, List.set_cons_zero, List.set_cons_succ]
                          refine wpAnyH_take (i := 21) (v := ?_) rfl (by kernel_rfl) (by kernel_rfl) (by kernel_rfl) (fun _ _ _ h => h) (Or.inl ⟨by rfl, ?_⟩) (by assumption) ?_
                          rotate_left
                          · intro w hSw; (try dsimp only at hSw); go_simp; (try (with_reducible rfl))
                          try simp only [List.getElem_toArray, List.getElem_cons_succ, List.getElem_cons_zero, Act.put, List.setIfInBounds_toArray, List.set_cons_zero, List.set_cons_succ]
                          refine wpAnyH_take (i := 22) (v := ?_) rfl (by kernel_rfl) (by kernel_rfl) (by kernel_rfl) (fun _ _ _ h => h) (Or.inl ⟨by rfl, ?_⟩) (by assumption) ?_
                          rotate_left
                          · intro w hSw; (try dsimp only at hSw); go_simp; (try (with_reducible rfl))
                          try simp only [List.getElem_toArray, List.getElem_cons_succ, List.getElem_cons_zero, Act.put, List.setIfInBounds_toArray, List.set_cons_zero, List.set_cons_succ]
                          refine wpAnyH_take (i := 23) (v := ?_) rfl (by kernel_rfl) (by kernel_rfl) (by kernel_rfl) (fun _ _ _ h => h) (Or.inl ⟨by rfl, ?_⟩) (by assumption) ?_
                          rotate_left
                          · intro w hSw; (try dsimp only at hSw); go_simp; (try (with_reducible rfl))
                          try simp only [List.getElem_toArray, List.getElem_cons_succ, List.getElem_cons_zero, Act.put, List.setIfInBounds_toArray, List.set_cons_zero, List.set_cons_succ]
                          refine wpAnyH_take (i := 24) (v := ?_) rfl (by kernel_rfl) (by kernel_rfl) (by kernel_rfl) (fun _ _ _ h => h) (Or.inl ⟨by rfl, ?_⟩) (by assumption) ?_
                          rotate_left
                          · intro w hSw; (try dsimp only at hSw); go_simp; (try (with_reducible rfl))
                          try simp only [List.getElem_toArray, List.getElem_cons_succ, List.getElem_cons_zero, Act.put, List.setIfInBounds_toArray, List.set_cons_zero, List.set_cons_succ]
                          refine wpAnyH_take (i := 25) (v := ?_) rfl (by kernel_rfl) (by kernel_rfl) (by kernel_rfl) (fun _ _ _ h => h) (Or.inl ⟨by rfl, ?_⟩) (by assumption) ?_
                          rotate_left
                          · intro w hSw; (try dsimp only at hSw); go_simp; (try (with_reducible rfl))
                          try simp only [List.getElem_toArray, List.getElem_cons_succ, List.getElem_cons_zero, Act.put, List.setIfInBounds_toArray, List.set_cons_zero, List.set_cons_succ]
                          refine wpAnyH_take (i := 26) (v := ?_) rfl (by kernel_rfl) (by kernel_rfl) (by kernel_rfl) (fun _ _ _ h => h) (Or.inl ⟨by rfl, ?_⟩) (by assumption) ?_
                          rotate_left
                          · intro w hSw; (try dsimp only at hSw); go_simp; (try (with_reducible rfl))
                          try simp only [List.getElem_toArray, List.getElem_cons_succ, List.getElem_cons_zero, Act.put, List.setIfInBounds_toArray, List.set_cons_zero, List.set_cons_succ]
                          refine wpAnyH_ready (rs := [27]) (by kernel_rfl) (by simp) ?_
                          refine AllReadyH.cons rfl (fun K hK => ?_) AllReadyH.nil
                          go_simp
                          go_at_call 56; refine (CB.out _ hHeld).mono ?_; rintro e w2 ⟨rfl, hs2⟩
                          go_wp2_with fail
                          refine hK.out _ _ ?_ (fun hHeld => ?_)
                          · clear hK K; first | exact hs2 | exact HS2.out
                          clear hK K
                          try simp only [List.getElem_toArray, List.getElem_cons_succ, List.getElem_cons_zero, Act.put, List.setIfInBounds_toArray, List.set_cons_zero, List.set_cons_succ]
                          refine wpAnyH_take (i := 28) (v := ?_) rfl (by kernel_rfl) (by kernel_rfl) (by kernel_rfl) (fun _ _ _ h => h) (Or.inl ⟨by rfl, ?_⟩) (by assumption) ?_
                          rotate_left
                          · intro w hSw; (try dsimp only at hSw); go_simp; (try (with_reducible rfl))
                          try simp only [List.getElem_toArray, List.getElem_cons_succ, List.getElem_cons_zero, Act.put, List.setIfInBounds_toArray, List.set_cons_zero, List.set_cons_succ]
                          refine wpAnyH_take (i := 29) (v := ?_) rfl (by kernel_rfl) (by kernel_rfl) (by kernel_rfl) (fun _ _ _ h => h) (Or.inl ⟨by rfl, ?_⟩) (by assumption) ?_
                          rotate_left
                          · intro w hSw; (try dsimp only at hSw); go_simp; (try (with_reducible rfl))
                          try simp only [List.getElem_toArray, List.getElem_cons_succ, List.getElem_cons_zero, Act.put, List.setIfInBounds_toArray, List.set_cons_zero, List.set_cons_succ]
                          refine wpAnyH_done (by kernel_rfl) ?_ _
                          obtain ⟨_, _, _, _, _, _, _, _, hbl⟩ := hHeld
                          have HX3 : Hid (Below w.heap.size w w2) := (HB0.out.trans (HZ.out.1.mono HB0.out.size)).trans (hbl.mono (HB0.out.trans (HZ.out.1.mono HB0.out.size)).size)
                          clear hbl HS2 CB hs2 hw2 hw3
                          go_wp2
                          go_ret
                          refine ⟨by rw [HE3.out]; rfl, ?_⟩
                          have h := HX3.out
                          first | exact h | (rw [← HGW.out]; exact h)
                      · have hdc : decide (v + y + e < x) = false := decide_eq_false hgt
                        have HAL2 : Hid (∀ j : Nat, lo ≤ j → j < d + 1 → x ≤ v + cellV p (r - 1) j + (if (j : Int) = (q : Int) then 0 else b)) := fun j h1 h2 => by
                          by_cases e1 : j = d
                          · subst e1; rw [HYE.out, HEQ.out]; omega
                          · exact HAL.out j h1 (by omega)
                        by_cases hmn : (m : Int) - 1 < (q : Int) + 1
                        all_goals
                          go_wp2
                          refine wp_region_held_drew (S := (fun w' : World => w'.cell? (pd.add r) = some (.slice (some br) m cr) ∧ w'.cell? (br.add q) = some (.int .i64 x) ∧ w'.cell? ⟨g, 0, none⟩ = some (.slice (some ad) n c) ∧ w'.cell? ⟨g, 1, none⟩ = some (.int .i64 b) ∧ w'.cell? (ad.add r) = some (.slice (some dr) m er) ∧ w'.cell? (dr.add q) = some (.int .i64 v) ∧ w'.cell? (pd.add s) = some (.slice (some bs) m cs) ∧ w'.cell? (bs.add d) = some (.int .i64 y) ∧ Below wj.heap.size wj w')) (by kernel_rfl) ?_ ?_
                          · first | exact hs2 | exact HS2.out
                          intro hHeld
                          refine wpAnyH_take (i := 0) (v := ?_) rfl (by kernel_rfl) (by kernel_rfl) (by kernel_rfl) (fun _ _ _ h => h) (Or.inl ⟨by rfl, ?_⟩) (by assumption) ?_
                          rotate_left
                          · intro w hSw; (try dsimp only at hSw); go_simp; (try (with_reducible rfl))
                          try simp only [List.getElem_toArray, List.getElem_cons_succ, List.getElem_cons_zero, Act.put, List.setIfInBounds_toArray, List.set_cons_zero, List.set_cons_succ]
                          refine wpAnyH_take (i := 1) (v := ?_) rfl (by kernel_rfl) (by kernel_rfl) (by kernel_rfl) (fun _ _ _ h => h) (Or.inl ⟨by rfl, ?_⟩) (by assumption) ?_
                          rotate_left
                          · intro w hSw; (try dsimp only at hSw); go_simp; (try (with_reducible rfl))
                          try simp only [List.getElem_toArray, List.getElem_cons_succ, List.getElem_cons_zero, Act.put, List.setIfInBounds_toArray, List.set_cons_zero, List.set_cons_succ]
                          refine wpAnyH_take (i := 2) (v := ?_) rfl (by kernel_rfl) (by kernel_rfl) (by kernel_rfl) (fun _ _ _ h => h) (Or.inl ⟨by rfl, ?_⟩) (by assumption) ?_
                          rotate_left
                          · intro w hSw; (try dsimp only at hSw); go_simp; (try (with_reducible rfl))
                          try simp only [List.getElem_toArray, List.getElem_cons_succ, List.getElem_cons_zero, Act.put, List.setIfInBounds_toArray, List.set_cons_zero, List.set_cons_succ]
                          refine wpAnyH_take (i := 3) (v := ?_) rfl (by kernel_rfl) (by kernel_rfl) (by kernel_rfl) (fun _ _ _ h => h) (Or.inl ⟨by rfl, ?_⟩) (by assumption) ?_
                          rotate_left
                          · intro w hSw; (try dsimp only at hSw); go_simp; (try (with_reducible rfl))
                          try simp only [List.getElem_toArray, List.getElem_cons_succ, List.getElem_cons_zero, Act.put, List.setIfInBounds_toArray, List.set_cons_zero, List.set_cons_succ]
                          refine wpAnyH_take (i := 4) (v := ?_) rfl (by kernel_rfl) (by kernel_rfl) (by kernel_rfl) (fun _ _ _ h => h) (Or.inl ⟨by rfl, ?_⟩) (by assumption) ?_
                          rotate_left
                          · intro w hSw; (try dsimp only at hSw); go_simp; (try (with_reducible rfl))
                          try simp only [List.getElem_toArray, List.getElem_cons_succ, List.getElem_cons_zero, Act.put, List.setIfInBounds_toArray, List.set_cons_zero, List.set_cons_succ]
                          refine wpAnyH_take (i := 5) (v := ?_) rfl (by kernel_rfl) (by kernel_rfl) (by kernel_rfl) (fun _ _ _ h => h) (Or.inl ⟨by rfl, ?_⟩) (by assumption) ?_
                          rotate_left
                          · intro w hSw; (try dsimp only at hSw); go_simp; (try (with_reducible rfl))
                          try simp only [List.getElem_toArray, List.getElem_cons_succ, List.getElem_cons_zero, Act.put, List.setIfInBounds_toArray, List.set_cons_zero, List.set_cons_succ]
                          refine wpAnyH_take (i := 6) (v := ?_) rfl (by kernel_rfl) (by kernel_rfl) (by kernel_rfl) (fun _ _ _ h => h) (Or.inl ⟨by rfl, ?_⟩) (by assumption) ?_
                          rotate_left
                          · intro w hSw; (try dsimp only at hSw); go_simp; (try (with_reducible rfl))
                          try simp only [List.getElem_toArray, List.getElem_cons_succ, List.getElem_cons_zero, Act.put, List.setIfInBounds_toArray, List.set_cons_zero, List.set_cons_succ]
                          refine wpAnyH_take (i := 7) (v := ?_) rfl (by kernel_rfl) (by kernel_rfl) (by kernel_rfl) (fun _ _ _ h => h) (Or.inl ⟨by rfl, ?_⟩) (by assumption) ?_
                          rotate_left
                          · intro w hSw; (try dsimp only at hSw); go_simp; (try (with_reducible rfl))
                          try simp only [List.getElem_toArray, List.getElem_cons_succ, List.getElem_cons_zero, Act.put, List.setIfInBounds_toArray, List.set_cons_zero, List.set_cons_succ]
                          refine wpAnyH_take (i := 8) (v := ?_) rfl (by kernel_rfl) (by kernel_rfl) (by kernel_rfl) (fun _ _ _ h => h) (Or.inl ⟨by rfl, ?_⟩) (by assumption) ?_
                          rotate_left
                          · intro w hSw; (try dsimp only at hSw); go_simp; (try (with_reducible rfl))
                          try simp only [List.getElem_toArray, List.getElem_cons_succ, List.getElem_cons_zero, Act.put, List.setIfInBounds_toArray, List.set_cons_zero, List.set_cons_succ]
                          refine wpAnyH_take (i := 9) (v := ?_) rfl (by kernel_rfl) (by kernel_rfl) (by kernel_rfl) (fun _ _ _ h => h) (Or.inl ⟨by rfl, ?_⟩) (by assumption) ?_
                          rotate_left
                          · intro w hSw; (try dsimp only at hSw); go_simp; (try (with_reducible rfl))
                          try simp only [List.getElem_toArray, List.getElem_cons_succ, List.getElem_cons_zero, Act.put, List.setIfInBounds_toArray, List.set_cons_zero, List.set_cons_succ]
                          refine wpAnyH_take (i := 10) (v := ?_) rfl (by kernel_rfl) (by kernel_rfl) (by kernel_rfl) (fun _ _ _ h => h) (Or.inl ⟨by rfl, ?_⟩) (by assumption) ?_
                          rotate_left
                          · intro w hSw; (try dsimp only at hSw); go_simp; (try (with_reducible rfl))
                          try simp only [List.getElem_toArray, List.getElem_cons_succ, List.getElem_cons_zero, Act.put, List.setIfInBounds_toArray, List.set_cons_zero, List.set_cons_succ]
                          refine wpAnyH_take (i := 11) (v := ?_) rfl (by kernel_rfl) (by kernel_rfl) (by kernel_rfl) (fun _ _ _ h => h) (Or.inl ⟨by rfl, ?_⟩) (by assumption) ?_
                          rotate_left
                          · intro w hSw; (try dsimp only at hSw); go_simp; (try (with_reducible rfl))
                          try simp only [List.getElem_toArray, List.getElem_cons_succ, List.getElem_cons_zero, Act.put, List.setIfInBounds_toArray, List.set_cons_zero, List.set_cons_succ]
                          refine wpAnyH_take (i := 12) (v := ?_) rfl (by kernel_rfl) (by kernel_rfl) (by kernel_rfl) (fun _ _ _ h => h) (Or.inl ⟨by rfl, ?_⟩) (by assumption) ?_
                          rotate_left
                          · intro w hSw; (try dsimp only at hSw); go_simp; (try (with_reducible rfl))
                          try simp only [List.getElem_toArray, List.getElem_cons_succ, List.getElem_cons_zero, Act.put, List.setIfInBounds_toArray, List.set_cons_zero, List.set_cons_succ]
                          refine wpAnyH_take (i := 13) (v := ?_) rfl (by kernel_rfl) (by kernel_rfl) (by kernel_rfl) (fun _ _ _ h => h) (Or.inl ⟨by rfl, ?_⟩) (by assumption) ?_
                          rotate_left
                          · intro w hSw; (try dsimp only at hSw); go_simp; (try (with_reducible rfl))
                          try simp only [List.getElem_toArray, List.getElem_cons_succ, List.getElem_cons_zero, Act.put, List.setIfInBounds_toArray, List.set_cons_zero, List.set_cons_succ]
                          refine wpAnyH_take (i := 14) (v := ?_) rfl (by kernel_rfl) (by kernel_rfl) (by kernel_rfl) (fun _ _ _ h => h) (Or.inl ⟨by rfl, ?_⟩) (by assumption) ?_
                          rotate_left
                          · intro w hSw; (try dsimp only at hSw); go_simp; (try (with_reducible rfl))
                          try simp only [List.getElem_toArray, List.getElem_cons_succ, List.getElem_cons_zero, Act.put, List.setIfInBounds_toArray, List.set_cons_zero, List.set_cons_succ]
                          refine wpAnyH_take (i := 15) (v := ?_) rfl (by kernel_rfl) (by kernel_rfl) (by kernel_rfl) (fun _ _ _ h => h) (Or.inl ⟨by rfl, ?_⟩) (by assumption) ?_
                          rotate_left
                          · intro w hSw; (try dsimp only at hSw); go_simp; (try (with_reducible rfl))
                          try simp only [List.getElem_toArray, List.getElem_cons_succ, List.getElem_cons_zero, Act.put, List.setIfInBounds_toArray, List.set_cons_zero, List.set_cons_succ]
                          refine wpAnyH_take (i := 16) (v := ?_) rfl (by kernel_rfl) (by kernel_rfl) (by kernel_rfl) (fun _ _ _ h => h) (Or.inl ⟨by rfl, ?_⟩) (by assumption) ?_
                          rotate_left
                          · intro w hSw; (try dsimp only at hSw); go_simp; (try (with_reducible rfl))
                          try simp only [List.getElem_toArray, List.getElem_cons_succ, List.getElem_cons_zero, Act.put, List.setIfInBounds_toArray, List.set_cons_zero, List.set_cons_succ]
                          refine wpAnyH_take (i := 17) (v := ?_) rfl (by kernel_rfl) (by kernel_rfl) (by kernel_rfl) (fun _ _ _ h => h) (Or.inl ⟨by rfl, ?_⟩) (by assumption) ?_
                          rotate_left
                          · intro w hSw; (try dsimp only at hSw); go_simp; (try (with_reducible rfl))
                          try simp only [List.getElem_toArray, List.getElem_cons_succ, List.getElem_cons_zero, Act.put, List.setIfInBounds_toArray, List.set_cons_zero, List.set_cons_succ]
                          refine wpAnyH_take (i := 18) (v := ?_) rfl (by kernel_rfl) (by kernel_rfl) (by kernel_rfl) (fun _ _ _ h => h) (Or.inl ⟨by rfl, ?_⟩) (by assumption) ?_
                          rotate_left
                          · intro w hSw; (try dsimp only at hSw); go_simp; (try (with_reducible rfl))
                          try simp only [List.getElem_toArray, List.getElem_cons_succ, List.getElem_cons_zero, Act.put, List.setIfInBounds_toArray, List.set_cons_zero, List.set_cons_succ]
                          refine wpAnyH_take (i := 19) (v := ?_) rfl (by kernel_rfl) (by kernel_rfl) (by kernel_rfl) (fun _ _ _ h => h) (Or.inl ⟨by rfl, ?_⟩) (by assumption) ?_
                          rotate_left
                          · intro w hSw; (try dsimp only at hSw); go_simp; (try (with_reducible rfl))
                          try simp only [List.getElem_toArray, List.getElem_cons_succ, List.getElem_cons_zero, Act.put, List.setIfInBounds_toArray, List.set_cons_zero, List.set_cons_succ]
                          refine wpAnyH_take (i := 20) (v := ?_) rfl (by kernel_rfl) (by kernel_rfl) (by kernel_rfl) (fun _ _ _ h => h) (Or.inl ⟨by rfl, ?_⟩) (by assumption) ?_
                          rotate_left
                          · intro w hSw; (try dsimp only at hSw); go_simp; (try (with_reducible rfl))
                          try simp only [List.getElem_toArray, List.getElem_cons_succ, List.getElem_cons_zero, Act.put, List.setIfInBounds_toArray, List.set_cons_zero, List.set_cons_succ]
                          refine wpAnyH_take (i := 21) (v := ?_) rfl (by kernel_rfl) (by kernel_rfl) (by kernel_rfl) (fun _ _ _ h => h) (Or.inl ⟨by rfl, ?_⟩) (by assumption) ?_
                          rotate_left
                          · intro w hSw; (try dsimp only at hSw); go_simp; (try (with_reducible rfl))
                          try simp only [List.getElem_toArray, List.getElem_cons_succ, List.getElem_cons_zero, Act.put, List.setIfInBounds_toArray, List.set_cons_zero, List.set_cons_succ]
                          refine wpAnyH_take (i := 22) (v := ?_) rfl (by kernel_rfl) (by kernel_rfl) (by kernel_rfl) (fun _ _ _ h => h) (Or.inl ⟨by rfl, ?_⟩) (by assumption) ?_
                          rotate_left
                          · intro w hSw; (try dsimp only at hSw); go_simp; (try (with_reducible rfl))
                          try simp only [List.getElem_toArray, List.getElem_cons_succ, List.getElem_cons_zero, Act.put, List.setIfInBounds_toArray, List.set_cons_zero, List.set_cons_succ]
                          refine wpAnyH_take (i := 23) (v := ?_) rfl (by kernel_rfl) (by kernel_rfl) (by kernel_rfl) (fun _ _ _ h => h) (Or.inl ⟨by rfl, ?_⟩) (by assumption) ?_
                          rotate_left
                          · intro w hSw; (try dsimp only at hSw); go_simp; (try (with_reducible rfl))
                          try simp only [List.getElem_toArray, List.getElem_cons_succ, List.getElem_cons_zero, Act.put, List.setIfInBounds_toArray, List.set_cons_zero, List.set_cons_succ]
                          refine wpAnyH_take (i := 24) (v := ?_) rfl (by kernel_rfl) (by kernel_rfl) (by kernel_rfl) (fun _ _ _ h => h) (Or.inl ⟨by rfl, ?_⟩) (by assumption) ?_
                          rotate_left
                          · intro w hSw; (try dsimp only at hSw); go_simp; (try (with_reducible rfl))
                          try simp only [List.getElem_toArray, List.getElem_cons_succ, List.getElem_cons_zero, Act.put, List.setIfInBounds_toArray, List.set_cons_zero, List.set_cons_succ]
                          refine wpAnyH_take (i := 25) (v := ?_) rfl (by kernel_rfl) (by kernel_rfl) (by kernel_rfl) (fun _ _ _ h => h) (Or.inl ⟨by rfl, ?_⟩) (by assumption) ?_
                          rotate_left
                          · intro w hSw; (try dsimp only at hSw); go_simp; (try (with_reducible rfl))
                          try simp only [List.getElem_toArray, List.getElem_cons_succ, List.getElem_cons_zero, Act.put, List.setIfInBounds_toArray, List.set_cons_zero, List.set_cons_succ]
                          refine wpAnyH_take (i := 26) (v := ?_) rfl (by kernel_rfl) (by kernel_rfl) (by kernel_rfl) (fun _ _ _ h => h) (Or.inl ⟨by rfl, ?_⟩) (by assumption) ?_
                          rotate_left
                          · intro w hSw; (try dsimp only at hSw); go_simp; (try (with_reducible rfl))
                          try simp only [List.getElem_toArray, List.getElem_cons_succ, List.getElem_cons_zero, Act.put, List.setIfInBounds_toArray, List.set_cons_zero, List.set_cons_succ]
                          refine wpAnyH_ready (rs := [27]) (by kernel_rfl) (by simp) ?_
                          refine AllReadyH.cons rfl (fun K hK => ?_) AllReadyH.nil
                          go_simp
                          go_at_call 56; refine (CB.out _ hHeld).mono ?_; rintro e w2 ⟨rfl, hs2⟩
                          go_wp2_with fail
                          refine hK.out _ _ ?_ (fun hHeld => ?_)
                          · clear hK K; first | exact hs2 | exact HS2.out
                          clear hK K
                          try simp only [List.getElem_toArray, List.getElem_cons_succ, List.getElem_cons_zero, Act.put, List.setIfInBounds_toArray, List.set_cons_zero, List.set_cons_succ]
                          refine wpAnyH_take (i := 28) (v := ?_) rfl (by kernel_rfl) (by kernel_rfl) (by kernel_rfl) (fun _ _ _ h => h) (Or.inl ⟨by rfl, ?_⟩) (by assumption) ?_
                          rotate_left
                          · intro w hSw; (try dsimp only at hSw); go_simp; (try (with_reducible rfl))
                          try simp only [List.getElem_toArray, List.getElem_cons_succ, List.getElem_cons_zero, Act.put, List.setIfInBounds_toArray, List.set_cons_zero, List.set_cons_succ]
                          refine wpAnyH_take (i := 29) (v := ?_) rfl (by kernel_rfl) (by kernel_rfl) (by kernel_rfl) (fun _ _ _ h => h) (Or.inl ⟨by rfl, ?_⟩) (by assumption) ?_
                          rotate_left
                          · intro w hSw; (try dsimp only at hSw); go_simp; (try (with_reducible rfl))
                          try simp only [List.getElem_toArray, List.getElem_cons_succ, List.getElem_cons_zero, Act.put, List.setIfInBounds_toArray, List.set_cons_zero, List.set_cons_succ]
                          refine wpAnyH_done (by kernel_rfl) ?_ _
                          obtain ⟨_, _, _, _, _, _, _, _, hbl⟩ := hHeld
                          have HX3 : Hid (Below W1.heap.size W1 w2 ∧ Below wi.heap.size wi w2) := ⟨HZ.out.1.trans (hbl.mono HZ.out.1.size), HZ.out.2.trans (hbl.mono HZ.out.2.size)⟩
                          clear hbl HS2 CB hs2 hw2 hw3
                          go_wp2
                          go_roundw
                          case rel => exact ⟨d + 1, by omega, by omega, by go_num, HAL2.out, HX3.out⟩
                          case measure => simp [intOf]; omega
                    · have hdx : d = hi + 1 := by omega
                      have HF2 : Hid (firstF (cellF rows b m p r) (q + 1) = 0) := by
                        show _ = _
                        rw [firstF_step HFC.out]
                        exact cell_pass HRP.out.1 hqm HPQ.out.1 HPQ.out.2 HBB.out (fun j h1 h2 h3 => by rw [HXE.out.1, HXE.out.2]; exact HAL.out j (by omega) (by omega))
                      by_cases hmn : (m : Int) - 1 < (q : Int) + 1
                      · have hmq1 : decide ((d : Int) ≤ (m : Int) - 1) = false := decide_eq_false (by omega)
                        have hmq3 : ¬ (d : Int) ≤ (m : Int) - 1 := by omega
                        go_wp2
                        go_roundw
                        case rel => exact ⟨q + 1, by omega, by go_num, HF2.out, HZ.out.1⟩
                        case measure => simp [intOf]; omega
                      · have hmq2 : decide ((d : Int) ≤ (q : Int) + 1) = false := decide_eq_false (by omega)
                        have hmq4 : ¬ (d : Int) ≤ (q : Int) + 1 := by omega
                        go_wp2
                        go_roundw
                        case rel => exact ⟨q + 1, by omega, by go_num, HF2.out, HZ.out.1⟩
                        case measure => simp [intOf]; omega
            · obtain rfl : m = q := by omega
              have HF2 : Hid (firstF (rowF rows b m p) (r + 1) = 0) := by show _ = _; rw [firstF_step HF.out]; exact HFC.out
              go_wp2
              go_roundw
              case rel => exact ⟨r + 1, by omega, by go_num, HF2.out, HY.out⟩
              case measure => simp [intOf]; omega
        · obtain rfl : n = r := by omega
          go_wp2
          go_ret
          refine ⟨by rw [HEE.out, HF.out]; rfl, ?_⟩
          have h := HB0.out.trans (HX.out.mono HB0.out.size)
          first | exact h | (rw [← HGW.out]; exact h)

end Go.Proofs.YtofdjapbofagiaaDoor
