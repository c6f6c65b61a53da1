import Derived.Test.YtjjflbnopphciabDoorTgaj
import Derived.BigQuiet
import Derived.Test.YtjjflbnopphciabDoorTgai
import Derived.Test.YtjjflbnopphciabDoorTgab
namespace Go.Proofs.YtjjflbnopphciabDoor
open Go.RowKit

theorem dataE_all (ds : List (List Int)) (h : ∀ i, i < ds.length → rangesE (ds.getD i []) (-32767) 32767 = 0) : dataE ds = 0 := by
  unfold dataE
  induction ds with
  | nil => rfl
  | cons a t ih =>
    simp only [List.map_cons, firstE]
    have h0 : rangesE a (-32767) 32767 = 0 := by simpa using h 0 (by simp)
    rw [if_pos h0]
    exact ih fun i hi => by simpa using h (i + 1) (by simpa using hi)
theorem own_rdiU {w : World} {base : Nat} {v : Value} {n : Nat} {xs : List Int} (h : w.ownsRow base 3 1 v n (xs.map (Value.int .i64))) :
    ∃ A c, v = .slice A n c ∧ RdI w A n xs ∧ (A = none → n = 0 ∧ c = 0) ∧ (∀ a, A = some a → base ≤ a.block) := by
  obtain ⟨A, c, rfl, h1, h2, h3⟩ := rd_own_c h
  exact ⟨A, c, rfl, h3, (fun e => by
    subst e
    rcases h.2 with ⟨e, h0⟩ | ⟨g, cap, cur, e, _⟩
    · injection e with _ e2 e3; exact ⟨h0, e3⟩
    · injection e with e1; cases e1), ownFromT h⟩
set_option maxRecDepth 100000 in
set_option maxHeartbeats 16000000 in
theorem refRestored_main (ad : Addr) (B C D : Option Addr) (n m l r0 ca cb cc cd : Nat) (ds ps : List (List Int)) (ld lp : List Int) (w : World) (hA : RdD w (some ad) n ds) (hB : RdD w B m ps) (hC : RdI w C l ld) (hD : RdI w D r0 lp) (hE : grpE n m ds ps ld lp = 0) (hr : r0 ≤ 1000000) :
    Calls Tryd.prog 16 #[.agg #[.slice (some ad) n ca, .slice B m cb, .slice C l cc, .slice D r0 cd]] w (RstRes w (rstR n m l ds ps ld lp)) := by
  obtain ⟨hg1, hg2, hg3⟩ := grp_parts hE
  obtain ⟨hn1, hn12, hm1, hm4, hld, hlp⟩ := grp1_shape hg1
  have hlL : ld.length = l := hC.1
  have HASC : Hid (AscI n (-1) ld ∧ AscI m (-1) lp) := ⟨AscI_of hld, AscI_of hlp⟩
  have HKA : Hid (AscI m (-1) (kepL lp m)) := kepL_asc lp m m (Nat.le_refl _)
  have HKL : Hid ((kepL lp m).length ≤ m) := kepL_len lp m
  have HPS : Hid (∀ r k, r < (kepL lp m).length → k < 8 → 0 ≤ dc ps ((kepL lp m).getD r 0).toNat k ∧ dc ps ((kepL lp m).getD r 0).toNat k ≤ 65536) := fun r k hr hk => ps_kept hB.2.1 hB.1 hE r k hr hk
  have HCB : Hid (BndD (listD n (clrD ds ld ld.length n))) := clr_bnd hA.2.1 hA.1 hE
  have HRW : Hid (rowsE ds (-32767) 32767 (kepL ld n) = 0) := hg2
  have HKM : Hid (∀ z ∈ kepL lp m, 0 ≤ z ∧ z < m) := fun z hz => by have := (kepL_mem lp m z).1 hz; omega
  have HRS : Hid (rstR n m l ds ps ld lp = (if (kepL lp m).length < l then ([], 28) else if expB (resD ds ps ld (kepL lp m) l n) ps n (kepL lp m) = true then (resD ds ps ld (kepL lp m) l n, 0) else ([], 13))) := by show _ = _; unfold rstR; rw [if_pos hE]
  have HLL := Lib.hid hlL
  have HD8 := Lib.hid hA.2.1
  have HP8 := Lib.hid hB.2.1
  have HPM := Lib.hid hB.1
  obtain ⟨i0, hi, hz0, hz1, hz2⟩ := info_parts intInfo
  obtain ⟨j0, hj, hy0, hy1, hy2⟩ := info_parts arr8Info
  obtain ⟨i1, hi1, hu0, hu1, hu2⟩ := info_parts rowsInfo
  obtain ⟨w1, hw1⟩ : ∃ W, (w.alloc (.cells #[.slice (some ad) n ca, .slice B m cb, .slice C l cc, .slice D r0 cd] 33)) = W := ⟨_, rfl⟩
  have b1 : Below w.heap.size w w1 := by rw [← hw1]; exact (Below.refl _ _).alloc (Nat.le_refl _) _
  have X1 : Hid (Bk w1 w.heap.size 33 #[.slice (some ad) n ca, .slice B m cb, .slice C l cc, .slice D r0 cd]) := by show Bk _ _ _ _; rw [← hw1]; exact Bk.new _ _ _
  have hs1 : w.heap.size < w1.heap.size := by rw [← hw1]; simp
  have B1 := Lib.hid b1
  have HW1 := Lib.hid hw1
  have RA := Lib.hid (hA.below b1)
  have RB := Lib.hid (hB.below b1)
  have RC := Lib.hid (hC.below b1)
  have RD := Lib.hid (hD.below b1)
  clear b1 hw1 hA hB hC hD hE hg1 hg2 hg3 hld hlp hlL
  obtain ⟨ks, hks⟩ : ∃ ks, kepL lp m = ks := ⟨_, rfl⟩
  have HKS := Lib.hid hks
  rw [hks] at HKA HKL HPS HKM HRS
  clear hks
  go_enter Tryd.func16, Tryd.ntmps16
  go_upto_region 3 with fail
  rw [show (w.alloc (.cells #[.slice (some ad) n ca, .slice B m cb, .slice C l cc, .slice D r0 cd] 33)) = w1 from HW1.out]
  clear HW1
  go_loopw [4, 5] (fun s i wr => ∃ k : Nat, k ≤ m ∧ i = .int .i64 k ∧ Hid (wr.ownsRow w1.heap.size 3 1 s (kepL lp k).length ((kepL lp k).map (Value.int .i64))) ∧ Hid (Below w1.heap.size w1 wr)) (fun _ i _ => m - (intOf i).toNat)
  case atStart => exact ⟨0, Nat.zero_le _, rfl, World.ownsRow_nil _ _ _ _, Below.refl _ _⟩
  case round =>
    obtain ⟨k, hk, rfl, HO, HB⟩ := hrel
    obtain ⟨x0, x1, x2, x3⟩ := bk4 (X1.out.laterE HB.out)
    have hsz : w1.heap.size ≤ wr.heap.size := HB.out.size
    by_cases hlt : k < m
    · have hkI : (k : Int) < (m : Int) := by omega
      obtain ⟨hb0, hhb⟩ : ∃ b, hasB lp (k : Int) = b := ⟨_, rfl⟩
      have CH : Hid (Calls Tryd.prog 37 #[.slice D r0 cd, .int .i64 k] wr fun e w' => e = .returned (.bool hb0) ∧ wr = w') := by show Calls _ _ _ _ _; rw [← hhb]; exact has_any D r0 cd lp k wr (RD.out.below HB.out) hr
      have hst : kepL lp (k + 1) = if hasB lp k then kepL lp k else kepL lp k ++ [(k : Int)] := rfl
      have hql : (kepL lp k).length ≤ k := kepL_len lp k
      rw [hhb] at hst
      cases hb0 with
      | true =>
        rw [if_pos rfl] at hst
        have HS := Lib.hid hst
        clear hst hhb
        go_wp2_with fail
        refine CH.out.mono ?_
        rintro e w' ⟨rfl, rfl⟩
        go_wp2
        go_roundw
        case rel => exact ⟨k + 1, by omega, by go_num, by show World.ownsRow _ _ _ _ _ _ _; rw [HS.out]; exact HO.out, HB.out⟩
        case measure => simp [intOf]; omega
      | false =>
        rw [if_neg (by decide)] at hst
        have HS := Lib.hid hst
        clear hst hhb
        go_wp2_with fail
        refine CH.out.mono ?_
        rintro e w' ⟨rfl, rfl⟩
        go_wp2_with (at_builtin; refine wpList_append_own _ rfl (.tmp 31) (.tmp 33) 31 rfl w1.heap.size 3 i0 (.int .i64 0) 1 8 intsUnder hi hz0 hz1 hz2 rfl (by decide) _ _ _ rfl (HO.out.alloc _) ⟨wr.heap.size, 0, none⟩ 1 1 [.int .i64 (k : Int)] rfl rfl (litKept wr k) (by intro u hu; rw [List.mem_singleton.1 hu]; rfl) (by unfold maxLen; omega) (by omega) (by simp; omega) ?_)
        intro v' w2 hown' hgrow _
        have hb1 : Below w1.heap.size w1 w2 := (HB.out.alloc hsz _).grown hgrow (by simp; omega) (fun z hz => (HO.out.lt z hz).1)
        have O1 : Hid (w2.ownsRow w1.heap.size 3 1 v' (kepL lp (k + 1)).length ((kepL lp (k + 1)).map (Value.int .i64))) := by
          show w2.ownsRow _ _ _ _ _ _
          rw [HS.out, List.map_append, List.map_singleton, List.length_append]
          exact hown'
        have NB := Lib.hid hb1
        clear hown' hgrow hb1 x0 x1 x2 x3 HO HB hsz
        go_wp2
        go_roundw
        case rel => exact ⟨k + 1, by omega, by go_num, O1.out, NB.out⟩
        case measure => simp [intOf]; omega
    · obtain rfl : m = k := by omega
      rw [HKS.out] at HO
      obtain ⟨wT, hwT⟩ : ∃ X, X = wr := ⟨_, rfl⟩
      subst hwT
      go_upto_region 8 with fail
      obtain ⟨tA, tc, rfl, hTI, hTN, hTB⟩ := own_rdiU HO.out
      have RT := Lib.hid hTI
      have BT := Lib.hid (B1.out.trans (HB.out.mono B1.out.size))
      have XT := Lib.hid (X1.out.laterE HB.out)
      have TA := Lib.hid (RA.out.below HB.out)
      have TB := Lib.hid (RB.out.below HB.out)
      have TC := Lib.hid (RC.out.below HB.out)
      clear hTI hTN HO HB X1 B1 RA RB RC RD hTB x0 x1 x2 x3 hsz hs1
      obtain ⟨x0, x1, x2, x3⟩ := bk4 XT.out
      by_cases hql : ks.length < l
      · have hqI : (ks.length : Int) < (l : Int) := by omega
        have HR : Hid (rstR n m l ds ps ld lp = ([], 28)) := by show _ = _; rw [HRS.out, if_pos hql]
        go_wp2
        go_ret2
        exact rstNil HR.out BT.out
      · have hqI : ¬ (ks.length : Int) < (l : Int) := by omega
        have HRS2 : Hid (rstR n m l ds ps ld lp = (if expB (resD ds ps ld ks l n) ps n ks = true then (resD ds ps ld ks l n, 0) else ([], 13))) := by show _ = _; rw [HRS.out, if_neg hql]
        have hl4 : l ≤ 4 := by have := HKL.out; omega
        have hlen : Hid ((dCells ds).length = n * 8) := by show List.length _ = _; rw [dCells_len ds HD8.out, TA.out.1]
        have ho : Hid ((wT.alloc (.cells #[] 34)).ownsRow wT.heap.size 34 8 (.slice (some ⟨wT.heap.size, 0, none⟩) 0 0) 0 []) := World.ownsRow_lit wT #[] 0 (Nat.le_refl _) (by unfold maxLen; omega) rfl
        have hsrc : Hid (∀ j u, (dCells ds)[j]? = some u → (wT.alloc (.cells #[] 34)).cell? (ad.add j) = some u) := (TA.out.below ((Below.refl _ _).alloc (Nat.le_refl _) _)).src
        have hone := Lib.hid (dCells_one ds)
        obtain ⟨news, hnews⟩ : ∃ news, dCells ds = news := ⟨_, rfl⟩
        have HNW := Lib.hid hnews
        rw [hnews] at hlen hsrc hone
        clear hnews HRS
        have y0 : (wT.alloc (.cells #[] 34)).cell? ⟨w.heap.size, 0, none⟩ = some (.slice (some ad) n ca) := (bk4 (XT.out.alloc _)).1
        go_wp2_with (at_builtin; refine wpList_append_own _ rfl (.tmp 42) (.tmp 44) 22 rfl wT.heap.size 34 j0 _ 8 64 Tryd.underlying22 hj hy0 hy1 hy2 rfl (by decide) _ _ _ rfl ho.out ad n ca news rfl hlen.out hsrc.out hone.out (by unfold maxLen; omega) (by omega) (by simp) ?_)
        intro v wD ho2 hg2 _
        have b2 : Below wT.heap.size wT wD := ((Below.refl _ _).alloc (Nat.le_refl _) _).grown hg2 (by simp) (fun g hg => (ho.out.lt g hg).1)
        rw [← HNW.out] at ho2
        obtain ⟨gd, gc, rfl, hgc1, hgc2, hgd, hDA⟩ := DaB.of_own ho2 TA.out.1 HD8.out (by omega)
        have D0 := Lib.hid hDA
        have E0 := Lib.hid b2
        clear y0 hDA b2 ho2 hg2 hlen ho hsrc hone HNW x0 x1 x2 x3
        obtain ⟨b2, hb2⟩ : ∃ g, wT.heap.size = g := ⟨_, rfl⟩
        have hgd2 : b2 ≤ gd := by omega
        obtain ⟨bd, rfl, _, _⟩ := TB.out.2.2 (by omega)
        have KQ : Hid (∀ W, Below b2 wT W → W.cell? ⟨w.heap.size, 0, none⟩ = some (.slice (some ad) n ca) ∧ W.cell? ⟨w.heap.size, 1, none⟩ = some (.slice (some bd) m cb) ∧ W.cell? ⟨w.heap.size, 2, none⟩ = some (.slice C l cc)) := fun W hW => by
          have := bk4 (XT.out.laterE (by rw [hb2]; exact hW)); exact ⟨this.1, this.2.1, this.2.2.1⟩
        have KA : Hid (∀ W, Below b2 wT W → RdD W (some ad) n ds) := fun W hW => TA.out.below (by rw [hb2]; exact hW)
        have KB : Hid (∀ W, Below b2 wT W → RdD W (some bd) m ps) := fun W hW => TB.out.below (by rw [hb2]; exact hW)
        have KC : Hid (∀ W, Below b2 wT W → RdI W C l ld) := fun W hW => TC.out.below (by rw [hb2]; exact hW)
        have KT : Hid (∀ W, Below b2 wT W → RdI W tA ks.length ks) := fun W hW => RT.out.below (by rw [hb2]; exact hW)
        have hbT : w.heap.size ≤ b2 := by have := BT.out.size; omega
        have KW : Hid (∀ W, Below b2 wT W → Below w.heap.size w W) := fun W hW => BT.out.trans (hW.mono hbT)
        obtain ⟨R, hR⟩ : ∃ R, resF ds ps ld ks l n = R := ⟨_, rfl⟩
        have HRK : Hid (∀ i k : Nat, hasB ld (i : Int) = false → R i k = dc ds i k) := fun i k h => by rw [← hR]; exact resF_kept HLL.out.symm HASC.out.1 i k h
        have HRL : Hid (∀ r i k : Nat, r < l → ld.getD r 0 = (i : Int) → R i k = solE ds ps ld ks l n r (4 + k) - 32768) := fun r i k h1 h2 => by rw [← hR]; exact resF_lost HLL.out.symm HASC.out.1 r i k h1 h2
        have HRR := Lib.hid hR
        have D1 : Hid (DaB wD gd n (dS R ds ld 0 0)) := D0.out.congr fun i k _ _ => (dS_zero R ds ld i k).symm
        have E1 : Hid (Below b2 wT wD) := by show Below _ _ _; rw [← hb2]; exact E0.out
        clear hR hb2 D0 E0 XT TA TB TC RT BT
        go_upto_region 12 with fail
        go_loopw [8] (fun iv wr => ∃ s : Nat, s ≤ 8 ∧ iv = .int .i64 s ∧ Hid (DaB wr gd n (dS R ds ld s 0)) ∧ Hid (Below b2 wT wr)) (fun iv _ => 8 - (intOf iv).toNat)
        case atStart => exact ⟨0, by omega, rfl, D1.out, E1.out⟩
        case round =>
          clear D1 E1
          obtain ⟨s, hs8, rfl, HD, HE⟩ := hrel
          by_cases hs : s < 8
          · have hsI : (s : Int) < 8 := by omega
            obtain ⟨wS, hwS⟩ : ∃ X, X = wr := ⟨_, rfl⟩
            subst hwS
            obtain ⟨b4, hb4⟩ : ∃ g, wS.heap.size = g := ⟨_, rfl⟩
            have hgd4 : gd < b4 := by have := HD.out.lt; omega
            have hb24 : b2 ≤ b4 := by omega
            have HB4 := Lib.hid hb4
            have KS : Hid (∀ W, Below b4 wS W → Below b2 wT W) := fun W hW => HE.out.trans (hW.mono hb24)
            have KD : Hid (∀ W, Below b4 wS W → DaB W gd n (dS R ds ld s 0)) := fun W hW => HD.out.below hW hgd4
            obtain ⟨M, hM⟩ : ∃ M, refM l n s ld ks ds ps = M := ⟨_, rfl⟩
            have HM := Lib.hid hM
            clear hb4 hM HD HE
            go_upto_region 16 with fail
            go_loopw [9, 10] (fun v iv wr => ∃ (r : Nat) (bs : Nat → Nat), r ≤ l ∧ iv = .int .i64 r ∧ Hid (r = 0 → v = .slice none 0 0) ∧ Hid (RowsM wr b4 v r bs l M) ∧ Hid (Below b4 wS wr)) (fun _ iv _ => l - (intOf iv).toNat)
            case atStart => exact ⟨0, fun _ => 0, Nat.zero_le _, rfl, fun _ => rfl, RowsM.nil _ _ _ _ _, Below.refl _ _⟩
            case round =>
              obtain ⟨r, bs, hrl, rfl, HN0, HR9, HB⟩ := hrel
              by_cases hr2 : r < l
              · obtain ⟨wQ, hwQ⟩ : ∃ X, X = wr := ⟨_, rfl⟩
                subst hwQ
                have hrI : (r : Int) < (l : Int) := by omega
                have hrq : r < ks.length := by omega
                have hrqI : (r : Int) < (ks.length : Int) := by omega
                obtain ⟨ta, htA, _, _⟩ := (KT.out wQ (KS.out wQ HB.out)).2 (by omega)
                subst htA
                have hbj := HKM.out _ (getD_mem' ks r hrq)
                have hpb := HPS.out r s hrq hs
                have HMr : Hid (∀ k, M r k = if k < l then invT (4 + ld.getD k 0 - ks.getD r 0) else conE ld ds (dc ps (ks.getD r 0).toNat s) (ks.getD r 0) s n) := fun k => by rw [← HM.out]; rfl
                have KJ : Hid (∀ W, Below b2 wT W → W.cell? (ta.add r) = some (.int .i64 (ks.getD r 0))) := fun W hW => by
                  obtain ⟨ta', e, _, hc⟩ := (KT.out W hW).2 (by omega)
                  injection e with e; subst e; exact hc r hrq
                obtain ⟨j, hj⟩ : ∃ j, ks.getD r 0 = j := ⟨_, rfl⟩
                rw [hj] at hbj hpb HMr KJ
                obtain ⟨jn, rfl⟩ := Int.eq_ofNat_of_zero_le hbj.1
                rw [Int.toNat_natCast] at hpb HMr
                have hjm : jn < m := by omega
                have hjI : (jn : Int) < (m : Int) := by omega
                have KP : Hid (∀ W, Below b2 wT W → W.cell? ((bd.add (jn * 8)).add s) = some (.int .i64 (dc ps jn s))) := fun W hW => by
                  obtain ⟨bd', e, _, hc⟩ := (KB.out W hW).2.2 (by omega)
                  injection e with e; subst e; exact hc jn s hjm hs
                obtain ⟨p, hp⟩ : ∃ p, dc ps jn s = p := ⟨_, rfl⟩
                rw [hp] at hpb HMr KP
                have hmk : ∀ W, (Instr.makeSlice 31 (.int .i64 ((l : Int) + 1)) (.int .i64 ((l : Int) + 1))).run Tryd.prog W = .ok (.slice (some ⟨W.heap.size, 0, none⟩) (l + 1) (l + 1)) (W.alloc (.cells (arrR (l + 1) 0) 3)) := fun W => make_row (l + 1) (by omega) W
                obtain ⟨g, hg⟩ : ∃ g, wQ.heap.size = g := ⟨_, rfl⟩
                obtain ⟨wR, hwR⟩ : ∃ W, wQ.alloc (.cells (arrR (l + 1) 0) 3) = W := ⟨_, rfl⟩
                have RB0 : Hid (RowB wR g l (fun _ => 0)) := by show RowB _ _ _ _; rw [← hwR, ← hg]; exact RowB.zero wQ l
                have E5 : Hid (Below g wQ wR) := by show Below _ _ _; rw [← hwR, ← hg]; exact (Below.refl _ _).alloc (Nat.le_refl _) _
                have hg4 : b4 ≤ g := by have := HB.out.size; have := HB4.out; omega
                have HG := Lib.hid hg
                have HWR := Lib.hid hwR
                have KR : Hid (∀ W, Below g wQ W → Below b2 wT W) := fun W hW => KS.out W (HB.out.trans (hW.mono hg4))
                have c1 := (KQ.out wR (KR.out wR E5.out)).2.1
                have c2 := KJ.out wR (KR.out wR E5.out)
                have c3 := KP.out wR (KR.out wR E5.out)
                have c4 : wR.cell? ⟨g, l, none⟩ = some (.int .i64 0) := RB0.out.cell (Nat.le_refl l)
                have c5 : wR.frozen? ⟨g, l, none⟩ = false := RB0.out.frozen l
                clear hj hp hg hwR hbj
                go_upto_region 19 with fail
                rw [HWR.out, HG.out]
                clear HWR hmk
                have hpb2 := hpb
                have R1 : Hid (RowB (wR.drew.setCell ⟨g, l, none⟩ (.int .i64 p)) g l (fun k => if k = l then conE ld ds p jn s 0 else 0)) := (RowB.set1 (W := wR.drew) RB0.out (Nat.le_refl l) p).congr (fun k _ => rfl)
                have E6 : Hid (Below g wQ (wR.drew.setCell ⟨g, l, none⟩ (.int .i64 p))) := E5.out.drew.setCell (Nat.le_refl _) _
                have d4 : wR.drew.cell? ⟨g, l, none⟩ = some (.int .i64 0) := c4
                have d5 : wR.drew.frozen? ⟨g, l, none⟩ = false := c5
                clear RB0 E5
                have hl1 : (l : Int) < (l : Int) + 1 := by omega
                go_still_tail 13, (by kernel_rfl)
                repeat still_step
                change wpList _ _ _ _ _ wR.drew
                clear c1 c2 c3 c4 c5
                generalize wR.drew = w9 at *
                go_upto_region 21 with fail
                obtain ⟨wX, hwX⟩ : ∃ W, w9.setCell ⟨g, l, none⟩ (.int .i64 p) = W := ⟨_, rfl⟩
                rw [hwX] at R1 E6 ⊢
                clear hwX d4 d5
                go_loopw [12] (fun iv W => ∃ i : Nat, i ≤ n ∧ iv = .int .i64 i ∧ Hid (RowB W g l (fun k => if k = l then conE ld ds p jn s i else 0)) ∧ Hid (Below g wQ W)) (fun iv _ => n - (intOf iv).toNat)
                case atStart => exact ⟨0, by omega, rfl, R1.out, E6.out⟩
                case round =>
                  clear R1 E6
                  obtain ⟨i, hin, rfl, HRB, HEE⟩ := hrel
                  have HK2 := Lib.hid (KR.out wr HEE.out)
                  obtain ⟨c0, c1, c2⟩ := KQ.out wr HK2.out
                  by_cases hi2 : i < n
                  · have hiI : (i : Int) < (n : Int) := by omega
                    obtain ⟨hb0, hhb⟩ : ∃ b, hasB ld (i : Int) = b := ⟨_, rfl⟩
                    have CH : Hid (∀ W, RdI W C l ld → Calls Tryd.prog 37 #[.slice C l cc, .int .i64 i] W fun e w' => e = .returned (.bool hb0) ∧ W = w') := fun W h => by rw [← hhb]; exact has_any C l cc ld i W h (by omega)
                    have hst : conE ld ds p jn s (i + 1) = if hasB ld (i : Int) then conE ld ds p jn s i else (conE ld ds p jn s i - invT (4 + (i : Int) - jn) * (dc ds i s + 32768)) % 65537 := rfl
                    rw [hhb] at hst
                    have RC2 := Lib.hid (KC.out wr HK2.out)
                    cases hb0 with
                    | true =>
                      rw [if_pos rfl] at hst
                      have HS := Lib.hid hst
                      clear hst hhb
                      go_wp2_with fail
                      refine (CH.out _ RC2.out).mono ?_
                      rintro e w' ⟨rfl, rfl⟩
                      go_wp2
                      go_roundw
                      case rel => exact ⟨i + 1, by omega, by go_num, by show RowB _ _ _ _; rw [HS.out]; exact HRB.out, HEE.out⟩
                      case measure => simp [intOf]; omega
                    | false =>
                      rw [if_neg (by decide)] at hst
                      have hxr := ranges_at (rowsE_in HRW.out (i : Int) (kep_in hi2 hhb)) s (by rw [Int.toNat_natCast, HD8.out i (by have := (KA.out wr HK2.out).1; omega)]; exact hs)
                      rw [Int.toNat_natCast] at hxr
                      have hx2 : -32767 ≤ dc ds i s ∧ dc ds i s ≤ 32767 := hxr
                      have hEb := conE_bd ld ds p jn s hpb i
                      have hfb := invT_bd (4 + (i : Int) - jn)
                      have CF : Hid (∀ W, Calls Tryd.prog 43 #[.int .i64 i, .int .i64 jn] W fun e w' => e = .returned (.int .i64 (invT (4 + (i : Int) - jn))) ∧ W = w') := fun W => factor_any i jn (by omega) (by omega) W
                      have KX : Hid (∀ W, Below b2 wT W → W.cell? ((ad.add (i * 8)).add s) = some (.int .i64 (dc ds i s))) := fun W hW => by
                        obtain ⟨ad', e, _, hc⟩ := (KA.out W hW).2.2 (by omega)
                        injection e with e; subst e; exact hc i s hi2 hs
                      obtain ⟨x, hx⟩ : ∃ x, dc ds i s = x := ⟨_, rfl⟩
                      obtain ⟨f, hf⟩ : ∃ f, invT (4 + (i : Int) - jn) = f := ⟨_, rfl⟩
                      rw [hx] at hx2 hst KX
                      rw [hf] at hfb hst CF
                      have v1 := HRB.out.cell (Nat.le_refl l)
                      rw [if_pos rfl] at v1
                      have v2 := HRB.out.frozen l
                      have v3 := KX.out wr HK2.out
                      have v4 := KJ.out wr HK2.out
                      obtain ⟨E, hE⟩ : ∃ E, conE ld ds p jn s i = E := ⟨_, rfl⟩
                      rw [hE] at hEb hst v1
                      have hmul := mul_bd2 f (x + 32768) 65536 65535 (by omega) (by omega) (by omega) (by omega)
                      have q1 : IntKind.i64.wrap (x + 32768) = x + 32768 := IntWalk.i64_in _ (by omega)
                      have q2 : IntKind.i64.wrap (f * (x + 32768)) = f * (x + 32768) := IntWalk.i64_in _ (by omega)
                      have q3 : IntKind.i64.wrap (E - f * (x + 32768)) = E - f * (x + 32768) := IntWalk.i64_in _ (by omega)
                      have CM : Hid (∀ W, Calls Tryd.prog 12 #[.int .i64 (E - f * (x + 32768)), .int .i64 65537] W fun e w' => e = .returned (.int .i64 ((E - f * (x + 32768)) % 65537)) ∧ W = w') := fun W => mod_any _ 65537 (by omega) (by omega) (by omega) (by omega) W
                      obtain ⟨z, hz⟩ : ∃ z, (E - f * (x + 32768)) % 65537 = z := ⟨_, rfl⟩
                      rw [hz] at hst CM
                      have HS := Lib.hid hst
                      have FR : Hid (RowB (wr.drew.setCell ⟨g, l, none⟩ (.int .i64 z)) g l (fun k => if k = l then conE ld ds p jn s (i + 1) else 0)) := (RowB.set1 (W := wr.drew) HRB.out (Nat.le_refl l) z).congr (fun k _ => by
                        rw [HS.out]
                        by_cases e : k = l
                        · rw [if_pos e, if_pos e]
                        · rw [if_neg e, if_neg e, if_neg e])
                      have FE : Hid (Below g wQ (wr.drew.setCell ⟨g, l, none⟩ (.int .i64 z))) := HEE.out.drew.setCell (Nat.le_refl _) _
                      have v5 : wr.drew.cell? ⟨g, l, none⟩ = some (.int .i64 E) := v1
                      have v6 : wr.drew.frozen? ⟨g, l, none⟩ = false := v2
                      clear hst hhb hxr hx hf hE hmul hz HRB HEE KX
                      go_wp2_with fail
                      refine (CH.out _ RC2.out).mono ?_
                      rintro e w' ⟨rfl, rfl⟩
                      clear CH RC2
                      go_upto_region 24 with fail
                      go_still_tail 24, (by kernel_rfl)
                      repeat still_step
                      refine wpStill_step (fun K hK => ?_)
                      go_simp
                      refine ⟨_, (CF.out _).mono (fun e w'' h => ⟨h.1, h.2.symm⟩), hK _ ?_⟩
                      clear hK K
                      repeat still_step
                      refine wpStill_step (fun K hK => ?_)
                      go_simp
                      refine ⟨_, (CM.out _).mono (fun e w'' h => ⟨h.1, h.2.symm⟩), hK _ ?_⟩
                      clear hK K
                      repeat still_step
                      refine wpStill_nil ?_
                      change wpList _ _ _ _ _ wr.drew
                      clear c0 c1 c2 v1 v2 v3 v4 CF CM
                      have HK3 : Hid True := trivial
                      clear HK2
                      generalize wr.drew = w9 at *
                      go_wp2
                      go_roundw
                      case rel => exact ⟨i + 1, by omega, by go_num, FR.out, FE.out⟩
                      case measure => simp [intOf]; omega
                  · obtain rfl : n = i := by omega
                    have HRB2 : Hid (RowB wr g l (fun k => if k = l then conE ld ds p jn s n else if k < 0 then invT (4 + ld.getD k 0 - (jn : Int)) else 0)) := HRB.out.congr (fun k _ => by
                      by_cases e : k = l
                      · rw [if_pos e, if_pos e]
                      · rw [if_neg e, if_neg e, if_neg (by omega)])
                    have HEE2 := Lib.hid HEE.out
                    clear HRB HEE
                    go_upto_region 26 with fail
                    obtain ⟨wY, hwY⟩ : ∃ X, X = wr := ⟨_, rfl⟩
                    subst hwY
                    go_loopw [13] (fun iv W => ∃ k : Nat, k ≤ l ∧ iv = .int .i64 k ∧ Hid (RowB W g l (fun k' => if k' = l then conE ld ds p jn s n else if k' < k then invT (4 + ld.getD k' 0 - (jn : Int)) else 0)) ∧ Hid (Below g wQ W)) (fun iv _ => l - (intOf iv).toNat)
                    case atStart => exact ⟨0, Nat.zero_le _, rfl, HRB2.out, HEE2.out⟩
                    case round =>
                      clear HRB2 HEE2 c0 c1 c2 HK2
                      obtain ⟨k, hkl, rfl, HRB, HEE⟩ := hrel
                      have HK2 := Lib.hid (KR.out wr HEE.out)
                      obtain ⟨c0, c1, c2⟩ := KQ.out wr HK2.out
                      by_cases hk2 : k < l
                      · have hkI : (k : Int) < (l : Int) := by omega
                        have hkJ : (k : Int) < (l : Int) + 1 := by omega
                        obtain ⟨la, hlA, _, hcl⟩ := (KC.out wr HK2.out).2 (by omega)
                        subst hlA
                        have v3 := hcl k hk2
                        have hlb := lostE_in n (-1) ld HASC.out.1.lostE _ (getD_mem' ld k (by rw [HLL.out]; exact hk2))
                        have v4 := KJ.out wr HK2.out
                        obtain ⟨x, hx⟩ : ∃ x, ld.getD k 0 = x := ⟨_, rfl⟩
                        have HXV := Lib.hid hx
                        rw [hx] at v3 hlb
                        have CF : Hid (∀ W, Calls Tryd.prog 43 #[.int .i64 x, .int .i64 jn] W fun e w' => e = .returned (.int .i64 (invT (4 + x - jn))) ∧ W = w') := fun W => factor_any x jn (by omega) (by omega) W
                        obtain ⟨f, hf⟩ : ∃ f, invT (4 + x - (jn : Int)) = f := ⟨_, rfl⟩
                        rw [hf] at CF
                        have FR : Hid (RowB (wr.drew.setCell ⟨g, k, none⟩ (.int .i64 f)) g l (fun k' => if k' = l then conE ld ds p jn s n else if k' < k + 1 then invT (4 + ld.getD k' 0 - (jn : Int)) else 0)) := (RowB.set1 (W := wr.drew) HRB.out (Nat.le_of_lt hk2) f).congr (fun k' _ => by
                          by_cases e : k' = k
                          · subst e; rw [if_pos rfl, if_neg (by omega), if_pos (by omega), HXV.out, hf]
                          · rw [if_neg e]
                            by_cases e1 : k' = l
                            · rw [if_pos e1, if_pos e1]
                            · rw [if_neg e1, if_neg e1]
                              by_cases e2 : k' < k
                              · rw [if_pos e2, if_pos (by omega)]
                              · rw [if_neg e2, if_neg (by omega)])
                        have FE : Hid (Below g wQ (wr.drew.setCell ⟨g, k, none⟩ (.int .i64 f))) := HEE.out.drew.setCell (Nat.le_refl _) _
                        have v1 := HRB.out.cell (Nat.le_of_lt hk2)
                        have v5 : wr.drew.cell? ⟨g, k, none⟩ = some (.int .i64 _) := v1
                        have v6 : wr.drew.frozen? ⟨g, k, none⟩ = false := HRB.out.frozen k
                        clear hx hf HXV hcl HRB HEE v1
                        go_upto_region 28 with fail
                        go_still_tail 13, (by kernel_rfl)
                        repeat still_step
                        refine wpStill_step (fun K hK => ?_)
                        go_simp
                        refine ⟨_, (CF.out _).mono (fun e w'' h => ⟨h.1, h.2.symm⟩), hK _ ?_⟩
                        clear hK K
                        repeat still_step
                        refine wpStill_nil ?_
                        change wpList _ _ _ _ _ wr.drew
                        clear c0 c1 c2 v3 v4 CF HK2
                        generalize wr.drew = w9 at *
                        go_wp2
                        go_roundw
                        case rel => exact ⟨k + 1, by omega, by go_num, FR.out, FE.out⟩
                        case measure => simp [intOf]; omega
                      · obtain rfl : l = k := by omega
                        have HROW : Hid (RowB wr g l (M r)) := HRB.out.congr (fun k' hk' => by
                          rw [HMr.out]
                          by_cases e1 : k' = l
                          · rw [if_pos e1, if_neg (by omega)]
                          · rw [if_neg e1, if_pos (by omega), if_pos (by omega)])
                        have hszQ : wQ.heap.size ≤ g := Nat.le_of_eq HG.out
                        have HRM := Lib.hid (HR9.out.below HEE.out hszQ)
                        have HOW := Lib.hid HRM.out.1
                        have HBB := Lib.hid (HB.out.trans (HEE.out.mono hg4))
                        have hgv : u9.ownBlock ≠ some g := fun e => by have := (HR9.out.1.lt g e).2; have := HG.out; omega
                        have HGV := Lib.hid hgv
                        have HGN : Hid (∀ i, i < r → bs i ≠ g) := fun i hi => by have := (HR9.out.2.1 i hi).lt; have := HG.out; omega
                        have hsz4 : b4 ≤ wr.heap.size := by have := HEE.out.size; have := HG.out; omega
                        clear hgv HR9 HRB HB HEE HN0 c0 c1 c2 HK2
                        go_wp2_with (at_builtin; refine wpList_append_own_at _ rfl (.tmp 125) (.tmp 127) 82 rfl b4 31 i1 (.slice none 0 0) 1 24 Tryd.underlying82 hi1 hu0 hu1 hu2 rfl (by decide) _ _ _ rfl (HOW.out.alloc _) ⟨wr.heap.size, 0, none⟩ 1 1 [.slice (some ⟨g, 0, none⟩) (l + 1) (l + 1)] rfl rfl (oneCell wr _ _) (by simp [Value.oneCell']) (by unfold maxLen; omega) (by omega) (by simp; omega) ?_)
                        intro v' w2 hown hgrow _ hat
                        have hbn : Below b4 wS w2 := (HBB.out.alloc hsz4 _).grown hgrow (by simp; omega) (fun z hz => (HOW.out.lt z hz).1)
                        have RM : Hid (RowsM w2 b4 v' (r + 1) (fun i => if i = r then g else bs i) l M) := HRM.out.snoc HROW.out hg4 HGV.out HGN.out (fun k hk => Below.heap_alloc wr _ k hk) (by simp) hown hgrow (by simpa using hat)
                        have NB := Lib.hid hbn
                        clear hown hgrow hat hbn HRM HOW HBB HGV HGN HROW
                        go_wp2
                        go_roundw
                        case rel => exact ⟨r + 1, _, by omega, by go_num, (fun h => absurd h (by omega)), RM.out, NB.out⟩
                        case measure => simp [intOf]; omega
              · obtain rfl : l = r := by omega
                have SOL : Hid (Calls Tryd.prog 44 #[u9] wr fun e w' => ∃ vA vc, e = .returned (.slice vA l vc) ∧ RdI w' vA l (colL (slvF M l) l l) ∧ (∀ a, vA = some a → gd < a.block) ∧ Below b4 wS w') := by
                  show Calls _ _ _ _ _
                  by_cases h0 : l = 0
                  · rw [HN0.out h0]
                    refine (refSolved_zero wr).mono ?_
                    rintro e w' ⟨rfl, hb⟩
                    exact ⟨none, 0, by rw [h0], ⟨by rw [h0]; rfl, fun h => absurd h (by omega)⟩, (fun a h => by cases h), HB.out.trans (hb.mono (by have := HB.out.size; have := HB4.out; omega))⟩
                  · obtain ⟨gR, cR, e9, hMat, hgR⟩ := HR9.out.mat (by omega) rfl
                    rw [e9]
                    have hMM : ∀ r k, r < l → (fun r k => if r < l then M r k else 0) r k = M r k := fun r k hr => if_pos hr
                    have hpr : ∀ r, r < l → 0 ≤ dc ps (ks.getD r 0).toNat s ∧ dc ps (ks.getD r 0).toNat s ≤ 65536 := fun r hr => HPS.out r s (by omega) hs
                    refine (refSolved_pos gR bs l cR b4 (fun r k => if r < l then M r k else 0) wr (hMat.congr fun r k hr _ => (hMM r k hr).symm) ⟨hgR, fun r hr => (HR9.out.2.2.1 r hr).1⟩ (fun r k => by
                      show 0 ≤ (if r < l then M r k else 0) ∧ (if r < l then M r k else 0) ≤ 65536
                      by_cases hr : r < l
                      · rw [if_pos hr, ← HM.out]; exact refM_bd r k (hpr r hr)
                      · rw [if_neg hr]; omega) (fun c hc => by
                      rw [slvF_rows M _ l hMM c (Nat.le_of_lt hc) c c hc, ← HM.out]
                      exact refM_piv (q := 0) (m := 0) HLL.out.symm hl4 (by omega) (HASC.out.1.mono (by omega)) (HKA.out.mono (by omega)) c hc) hl4 (by have := HB.out.size; have := HB4.out; omega)).mono ?_
                    rintro e w' ⟨⟨v, rfl, ho⟩, hb⟩
                    have hcl : colL (slvF (fun r k => if r < l then M r k else 0) l) l l = colL (slvF M l) l l := by
                      unfold colL
                      apply List.map_congr_left
                      intro r hr
                      exact slvF_rows M _ l hMM l (Nat.le_refl _) r l (List.mem_range.1 hr)
                    rw [hcl] at ho
                    obtain ⟨A', c', rfl, h1, _, h3⟩ := own_rdiU ho
                    exact ⟨A', c', rfl, h1, (fun a e => by have := h3 a e; have := HB.out.size; have := HB4.out; omega), HB.out.trans hb⟩
                have HCS : Hid (∀ k, k < l → (colL (slvF M l) l l).getD k 0 = solE ds ps ld ks l n k (4 + s)) := fun k hk => by
                  rw [← HM.out, ← refM_sol HLL.out.symm hl4 hs (fun r hr => HPS.out r s (by omega) hs) k hk]
                  simp [colL, List.getD_eq_getElem?_getD, hk]
                clear HN0 HR9 HM
                go_wp2_with fail
                refine SOL.out.mono ?_
                rintro e wV ⟨vA, vc, rfl, hv, hvg, hb⟩
                obtain ⟨cs, hcs⟩ : ∃ cs, colL (slvF M l) l l = cs := ⟨_, rfl⟩
                rw [hcs] at HCS hv
                have VV := Lib.hid hv
                have VG := Lib.hid hvg
                have VD := Lib.hid (KD.out wV hb)
                have VE := Lib.hid (KS.out wV hb)
                clear SOL hv hvg hb hcs HB KD KS HB4
                go_upto_region 32 with fail
                obtain ⟨wZ, hwZ⟩ : ∃ X, X = wr := ⟨_, rfl⟩
                subst hwZ
                go_loopw [15] (fun iv W => ∃ k : Nat, k ≤ l ∧ iv = .int .i64 k ∧ Hid (DaB W gd n (dS R ds ld s k)) ∧ Hid (RdI W vA l cs) ∧ Hid (Below b2 wT W)) (fun iv _ => l - (intOf iv).toNat)
                case atStart => exact ⟨0, Nat.zero_le _, rfl, VD.out, VV.out, VE.out⟩
                case round =>
                  clear VD VV VE
                  obtain ⟨k, hkl, rfl, HD, HV, HE⟩ := hrel
                  obtain ⟨c0, c1, c2⟩ := KQ.out wr HE.out
                  by_cases hk2 : k < l
                  · have hkI : (k : Int) < (l : Int) := by omega
                    obtain ⟨la, hlA, _, hcl⟩ := (KC.out wr HE.out).2 (by omega)
                    subst hlA
                    have v3 := hcl k hk2
                    have hkL : k < ld.length := by rw [HLL.out]; exact hk2
                    have hlb := lostE_in n (-1) ld HASC.out.1.lostE _ (getD_mem' ld k hkL)
                    obtain ⟨va, hvA, _, hcv⟩ := HV.out.2 (by omega)
                    subst hvA
                    have v4 := hcv k hk2
                    have hsb := sol_bd ds ps ld ks l n k (4 + s)
                    have hsv := HCS.out k hk2
                    obtain ⟨x, hx⟩ : ∃ x, ld.getD k 0 = x := ⟨_, rfl⟩
                    rw [hx] at v3 hlb
                    obtain ⟨xn, rfl⟩ := Int.eq_ofNat_of_zero_le hlb.1
                    have hRv := HRL.out k xn s hk2 hx
                    rw [← hsv] at hsb hRv
                    obtain ⟨y, hy⟩ : ∃ y, cs.getD k 0 = y := ⟨_, rfl⟩
                    rw [hy] at v4 hsb hRv
                    have hxn : xn < n := by omega
                    have hxI : (xn : Int) < (n : Int) := by omega
                    have q1 : IntKind.i64.wrap (y - 32768) = y - 32768 := IntWalk.i64_in _ (by omega)
                    have FD : Hid (DaB (wr.drew.setCell ⟨gd, xn * 8 + s, none⟩ (.int .i64 (y - 32768))) gd n (dS R ds ld s (k + 1))) := (DaB.set1 (W := wr.drew) HD.out hxn hs (y - 32768)).congr (fun i k' _ _ => by rw [← hRv]; exact dS_step R ds ld s k xn i k' hx hkL)
                    have FV : Hid (RdI (wr.drew.setCell ⟨gd, xn * 8 + s, none⟩ (.int .i64 (y - 32768))) (some va) l cs) := RdI.far (w := wr.drew) HV.out _ _ (fun a h => by have := VG.out a h; simp; omega)
                    have FE : Hid (Below b2 wT (wr.drew.setCell ⟨gd, xn * 8 + s, none⟩ (.int .i64 (y - 32768)))) := HE.out.drew.setCell hgd2 _
                    have v5 : wr.drew.cell? ⟨gd, xn * 8 + s, none⟩ = some (.int .i64 _) := HD.out.cell hxn hs
                    have v6 : wr.drew.frozen? ⟨gd, xn * 8 + s, none⟩ = false := HD.out.frozen _
                    clear hx hy hcl hcv hRv hsv HD HV HE
                    go_upto_region 34 with fail
                    go_still_tail 14, (by kernel_rfl)
                    repeat still_step
                    change wpList _ _ _ _ _ wr.drew
                    clear c0 c1 c2 v3 v4
                    generalize wr.drew = w9 at *
                    go_wp2
                    go_roundw
                    case rel => exact ⟨k + 1, by omega, by go_num, FD.out, FV.out, FE.out⟩
                    case measure => simp [intOf]; omega
                  · obtain rfl : l = k := by omega
                    have FD : Hid (DaB wr gd n (dS R ds ld (s + 1) 0)) := HD.out.congr (fun i k' _ _ => by
                      have := dS_done R ds ld s i k' (fun h => HRK.out i s h)
                      rwa [HLL.out] at this)
                    go_wp2
                    go_roundw
                    case rel => exact ⟨s + 1, by omega, by go_num, FD.out, HE.out⟩
                    case measure => simp [intOf]; omega
          · obtain rfl : 8 = s := by omega
            obtain ⟨Q, hQ⟩ : ∃ q, resD ds ps ld ks l n = q := ⟨_, rfl⟩
            have HQL : Hid (listD n R = Q) := by show _ = _; rw [← hQ, ← HRR.out]; rfl
            have HRS3 : Hid (rstR n m l ds ps ld lp = (if expB Q ps n ks = true then (Q, 0) else ([], 13))) := by show _ = _; rw [HRS2.out, hQ]
            have DA : Hid (DaB wr gd n R) := HD.out.congr (fun i k _ hk => if_pos (.inl hk))
            have DR : Hid (RdD wr (some ⟨gd, 0, none⟩) n Q) := by show RdD _ _ _ _; rw [← HQL.out]; exact DA.out.toRd
            have WE := Lib.hid (KW.out wr HE.out)
            have HX : Hid (expB Q ps n ks = (decide (dataE Q = 0) && ks.all (parOk Q ps n))) := rfl
            clear hQ HRS2 HRR HRL HCB HPS HD
            go_upto_region 36 with fail
            obtain ⟨w8, hw8⟩ : ∃ X, X = wr := ⟨_, rfl⟩
            subst hw8
            go_loopw [16] (fun iv W => ∃ k : Nat, k ≤ l ∧ iv = .int .i64 k ∧ Hid (∀ k', k' < k → rangesE (Q.getD (ld.getD k' 0).toNat []) (-32767) 32767 = 0) ∧ Hid (Below w8.heap.size w8 W)) (fun iv _ => l - (intOf iv).toNat)
            case atStart => exact ⟨0, Nat.zero_le _, rfl, (fun k' h => absurd h (by omega)), Below.refl _ _⟩
            case round =>
              obtain ⟨k, hkl, rfl, HOK, HB⟩ := hrel
              have HEB := Lib.hid (HE.out.trans (HB.out.mono (by have := HE.out.size; have := DA.out.lt; omega)))
              obtain ⟨c0, c1, c2⟩ := KQ.out wr HEB.out
              by_cases hk2 : k < l
              · have hkI : (k : Int) < (l : Int) := by omega
                obtain ⟨la, hlA, _, hcl⟩ := (KC.out wr HEB.out).2 (by omega)
                subst hlA
                have v3 := hcl k hk2
                have hlb := lostE_in n (-1) ld HASC.out.1.lostE _ (getD_mem' ld k (by rw [HLL.out]; exact hk2))
                obtain ⟨x, hx⟩ : ∃ x, ld.getD k 0 = x := ⟨_, rfl⟩
                have HXV := Lib.hid hx
                rw [hx] at v3 hlb
                obtain ⟨xn, rfl⟩ := Int.eq_ofNat_of_zero_le hlb.1
                have hxn : xn < n := by omega
                have hxI : (xn : Int) < (n : Int) := by omega
                have hrw : Q.getD xn [] = [R xn 0, R xn 1, R xn 2, R xn 3, R xn 4, R xn 5, R xn 6, R xn 7] := by rw [← HQL.out, listD_at _ _ _ hxn]; rfl
                have z0 : wr.cell? ⟨gd, xn * 8, none⟩ = some (.int .i64 (R xn 0)) := (DA.out.later HB.out).cell (r := xn) (k := 0) hxn (by omega)
                have z1 : wr.cell? ⟨gd, xn * 8 + 1, none⟩ = some (.int .i64 (R xn 1)) := (DA.out.later HB.out).cell (r := xn) (k := 1) hxn (by omega)
                have z2 : wr.cell? ⟨gd, xn * 8 + 2, none⟩ = some (.int .i64 (R xn 2)) := (DA.out.later HB.out).cell (r := xn) (k := 2) hxn (by omega)
                have z3 : wr.cell? ⟨gd, xn * 8 + 3, none⟩ = some (.int .i64 (R xn 3)) := (DA.out.later HB.out).cell (r := xn) (k := 3) hxn (by omega)
                have z4 : wr.cell? ⟨gd, xn * 8 + 4, none⟩ = some (.int .i64 (R xn 4)) := (DA.out.later HB.out).cell (r := xn) (k := 4) hxn (by omega)
                have z5 : wr.cell? ⟨gd, xn * 8 + 5, none⟩ = some (.int .i64 (R xn 5)) := (DA.out.later HB.out).cell (r := xn) (k := 5) hxn (by omega)
                have z6 : wr.cell? ⟨gd, xn * 8 + 6, none⟩ = some (.int .i64 (R xn 6)) := (DA.out.later HB.out).cell (r := xn) (k := 6) hxn (by omega)
                have z7 : wr.cell? ⟨gd, xn * 8 + 7, none⟩ = some (.int .i64 (R xn 7)) := (DA.out.later HB.out).cell (r := xn) (k := 7) hxn (by omega)
                obtain ⟨x0, hx0⟩ : ∃ x, R xn 0 = x := ⟨_, rfl⟩
                rw [hx0] at z0 hrw
                obtain ⟨x1, hx1⟩ : ∃ x, R xn 1 = x := ⟨_, rfl⟩
                rw [hx1] at z1 hrw
                obtain ⟨x2, hx2⟩ : ∃ x, R xn 2 = x := ⟨_, rfl⟩
                rw [hx2] at z2 hrw
                obtain ⟨x3, hx3⟩ : ∃ x, R xn 3 = x := ⟨_, rfl⟩
                rw [hx3] at z3 hrw
                obtain ⟨x4, hx4⟩ : ∃ x, R xn 4 = x := ⟨_, rfl⟩
                rw [hx4] at z4 hrw
                obtain ⟨x5, hx5⟩ : ∃ x, R xn 5 = x := ⟨_, rfl⟩
                rw [hx5] at z5 hrw
                obtain ⟨x6, hx6⟩ : ∃ x, R xn 6 = x := ⟨_, rfl⟩
                rw [hx6] at z6 hrw
                obtain ⟨x7, hx7⟩ : ∃ x, R xn 7 = x := ⟨_, rfl⟩
                rw [hx7] at z7 hrw
                obtain ⟨q, hq⟩ : ∃ q, rangesE [x0, x1, x2, x3, x4, x5, x6, x7] (-32767) 32767 = q := ⟨_, rfl⟩
                have CS : Hid (∀ W, Calls Tryd.prog 23 #[.agg #[.int .i64 x0, .int .i64 x1, .int .i64 x2, .int .i64 x3, .int .i64 x4, .int .i64 x5, .int .i64 x6, .int .i64 x7]] W fun e w' => e = .returned (.int .i64 q) ∧ Below W.heap.size W w') := fun W => by rw [← hq]; exact samplesErr_any _ _ W (is8_lit x0 x1 x2 x3 x4 x5 x6 x7)
                have HRQ : Hid (rangesE (Q.getD xn []) (-32767) 32767 = q) := by show _ = _; rw [hrw, hq]
                clear hx hcl hrw hq hx0 hx1 hx2 hx3 hx4 hx5 hx6 hx7
                by_cases hq0 : q = 0
                · subst hq0
                  go_wp2_with fail
                  refine (CS.out _).mono ?_
                  rintro e w' ⟨rfl, hb⟩
                  have NB := Lib.hid (HB.out.trans (hb.mono HB.out.size))
                  clear hb
                  go_wp2
                  go_roundw
                  case rel =>
                    (repeat apply Exists.intro)
                    refine ⟨⟨k + 1, by omega, by go_num, (fun k' h => ?_), NB.out⟩, rfl⟩
                    by_cases e : k' = k
                    · subst e; rw [HXV.out, Int.toNat_natCast]; exact HRQ.out
                    · exact HOK.out k' (by omega)
                  case measure => simp [intOf]; omega
                · have hqb : (q != 0) = true := by simpa using hq0
                  have HF : Hid (rstR n m l ds ps ld lp = ([], 13)) := by
                    show _ = _
                    rw [HRS3.out, HX.out, decide_eq_false (fun e => hq0 (by rw [← HRQ.out]; exact dataE_row e xn (by rw [DR.out.1]; exact hxn))), Bool.false_and, if_neg (by decide)]
                  go_wp2_with fail
                  refine (CS.out _).mono ?_
                  rintro e w' ⟨rfl, hb⟩
                  have NB := Lib.hid (WE.out.trans ((HB.out.trans (hb.mono HB.out.size)).mono WE.out.size))
                  clear hb
                  go_wp2
                  go_ret2
                  exact rstNil HF.out NB.out
              · obtain rfl : l = k := by omega
                have hdE : dataE Q = 0 := dataE_all Q fun i hi => by
                  rw [DR.out.1] at hi
                  cases hh : hasB ld (i : Int) with
                  | true =>
                    have h1 := (hasB_mem ld i).1 hh
                    obtain ⟨r, hr, he⟩ := List.getElem_of_mem h1
                    have h2 := HOK.out r (by rw [← HLL.out]; exact hr)
                    have h3 : ld.getD r 0 = (i : Int) := by rw [List.getD_eq_getElem?_getD, List.getElem?_eq_getElem hr, Option.getD_some, he]
                    rw [h3, Int.toNat_natCast] at h2
                    exact h2
                  | false =>
                    have h1 := rowsE_in HRW.out (i : Int) (kep_in hi hh)
                    rw [Int.toNat_natCast] at h1
                    have h2 : Q.getD i [] = ds.getD i [] := by
                      rw [← HQL.out, listD_at _ _ _ hi, show (List.range 8).map (R i) = [R i 0, R i 1, R i 2, R i 3, R i 4, R i 5, R i 6, R i 7] from rfl, HRK.out i 0 hh, HRK.out i 1 hh, HRK.out i 2 hh, HRK.out i 3 hh, HRK.out i 4 hh, HRK.out i 5 hh, HRK.out i 6 hh, HRK.out i 7 hh]
                      exact (list8 _ (HD8.out i (by have := (KA.out wr HEB.out).1; omega))).symm
                    rw [h2]; exact h1
                have HDE := Lib.hid hdE
                have CPA : Hid (∀ W, RdD W (some ⟨gd, 0, none⟩) n Q → Calls Tryd.prog 45 #[.slice (some ⟨gd, 0, none⟩) n gc, .int .i64 (m : Int)] W fun e w' => (∃ A3 c3, e = .returned (.slice A3 m c3) ∧ RdD w' A3 m (parL n Q m)) ∧ Below W.heap.size W w') := fun W h => refParityOf_any _ n gc Q m W h (dataE_bnd HDE.out) (by omega) hm4
                have DRR := Lib.hid (DR.out.below HB.out)
                clear hdE HOK
                go_wp2_with fail
                refine (CPA.out _ DRR.out).mono ?_
                rintro e wP ⟨⟨pA, pc, rfl, hP⟩, hb⟩
                obtain ⟨pa, rfl, _, _⟩ := hP.2.2 (by omega)
                have RP := Lib.hid hP
                have DP := Lib.hid (DRR.out.below hb)
                have BP := Lib.hid (HB.out.trans (hb.mono HB.out.size))
                have EP := Lib.hid (HEB.out.trans (hb.mono (by have := HEB.out.size; have := HB.out.size; have := DA.out.lt; omega)))
                have hgP : b2 ≤ wP.heap.size := by have := BP.out.size; have := DA.out.lt; omega
                clear hP hb CPA DRR HB HEB DR DA c0 c1 c2
                go_upto_region 42 with fail
                go_loopw [18] (fun iv W => ∃ k : Nat, k ≤ ks.length ∧ iv = .int .i64 k ∧ Hid (∀ k', k' < k → parOk Q ps n (ks.getD k' 0) = true) ∧ Hid (Below wP.heap.size wP W)) (fun iv _ => ks.length - (intOf iv).toNat)
                case atStart => exact ⟨0, Nat.zero_le _, rfl, (fun k' h => absurd h (by omega)), Below.refl _ _⟩
                case round =>
                  obtain ⟨k, hkl, rfl, HOK, HB⟩ := hrel
                  have HEB := Lib.hid (EP.out.trans (HB.out.mono hgP))
                  obtain ⟨c0, c1, c2⟩ := KQ.out wr HEB.out
                  have WF := Lib.hid (KW.out wr HEB.out)
                  by_cases hk2 : k < ks.length
                  · have hkI : (k : Int) < (ks.length : Int) := by omega
                    have hk100 : k < 100 := by have := HKL.out; omega
                    obtain ⟨ta, htA, _, hct⟩ := (KT.out wr HEB.out).2 (by omega)
                    subst htA
                    have v3 := hct k hk2
                    have hbj := HKM.out _ (getD_mem' ks k hk2)
                    obtain ⟨j, hj⟩ : ∃ j, ks.getD k 0 = j := ⟨_, rfl⟩
                    have HJV := Lib.hid hj
                    rw [hj] at v3 hbj
                    obtain ⟨jn, rfl⟩ := Int.eq_ofNat_of_zero_le hbj.1
                    have hjm : jn < m := by omega
                    have hjI : (jn : Int) < (m : Int) := by omega
                    obtain ⟨ad2, x0, x1, x2, x3, x4, x5, x6, x7, hadE, _, hrow, p0, p1, p2, p3, p4, p5, p6, p7⟩ := (KB.out wr HEB.out).row hjm
                    injection hadE with hadE
                    subst hadE
                    obtain ⟨ad3, y0, y1, y2, y3, y4, y5, y6, y7, hadE, _, hrow2, o0, o1, o2, o3, o4, o5, o6, o7⟩ := (RP.out.below HB.out).row hjm
                    injection hadE with hadE
                    subst hadE
                    have hneq : ∀ W, (binOp .neq 34 (.agg #[.int .i64 y0, .int .i64 y1, .int .i64 y2, .int .i64 y3, .int .i64 y4, .int .i64 y5, .int .i64 y6, .int .i64 y7]) (.agg #[.int .i64 x0, .int .i64 x1, .int .i64 x2, .int .i64 x3, .int .i64 x4, .int .i64 x5, .int .i64 x6, .int .i64 x7])).run Tryd.prog W = .ok (.bool (!decide ([y0, y1, y2, y3, y4, y5, y6, y7] = [x0, x1, x2, x3, x4, x5, x6, x7]))) W := fun W => neq8_run [y0, y1, y2, y3, y4, y5, y6, y7] [x0, x1, x2, x3, x4, x5, x6, x7] rfl rfl W
                    have hpo : parOk Q ps n (jn : Int) = decide ([y0, y1, y2, y3, y4, y5, y6, y7] = [x0, x1, x2, x3, x4, x5, x6, x7]) := by
                      unfold parOk
                      rw [Int.toNat_natCast, hrow, ← hrow2]
                      simp [parL, List.getD_eq_getElem?_getD, hjm]
                    obtain ⟨b, hbv⟩ : ∃ b, decide ([y0, y1, y2, y3, y4, y5, y6, y7] = [x0, x1, x2, x3, x4, x5, x6, x7]) = b := ⟨_, rfl⟩
                    rw [hbv] at hneq hpo
                    have HPO := Lib.hid hpo
                    obtain ⟨aq, haq⟩ : ∃ a, bd.add (jn * 8) = a := ⟨_, rfl⟩
                    rw [haq] at p0 p1 p2 p3 p4 p5 p6 p7
                    obtain ⟨ar, har⟩ : ∃ a, pa.add (jn * 8) = a := ⟨_, rfl⟩
                    rw [har] at o0 o1 o2 o3 o4 o5 o6 o7
                    clear hj hct hrow hrow2 hpo hbv hbj
                    go_upto_region 44 with fail
                    go_quiet (fail)
                    cases b with
                    | false =>
                      have HF : Hid (rstR n m l ds ps ld lp = ([], 13)) := by
                        show _ = _
                        rw [HRS3.out, HX.out]
                        have h1 : ks.all (parOk Q ps n) = false := by
                          rw [Bool.eq_false_iff]
                          intro h
                          have h2 := List.all_eq_true.1 h (ks.getD k 0) (getD_mem' ks k hk2)
                          rw [HJV.out, HPO.out] at h2
                          cases h2
                        rw [h1, Bool.and_false, if_neg (by decide)]
                      go_wp2
                      go_ret2
                      exact rstNil HF.out (blw_drewN WF.out _)
                    | true =>
                      go_wp2
                      go_roundw
                      case rel =>
                        refine ⟨k + 1, by omega, by go_num, (fun k' h => ?_), blw_drewN HB.out _⟩
                        by_cases e : k' = k
                        · subst e; rw [HJV.out, HPO.out]
                        · exact HOK.out k' (by omega)
                      case measure => simp [intOf]; omega
                  · obtain rfl : ks.length = k := by omega
                    have HF : Hid (rstR n m l ds ps ld lp = (Q, 0)) := by
                      show _ = _
                      rw [HRS3.out, HX.out, decide_eq_true HDE.out, Bool.true_and, if_pos (List.all_eq_true.2 fun z hz => ?_)]
                      obtain ⟨r, hr, he⟩ := List.getElem_of_mem hz
                      have h2 := HOK.out r hr
                      have h3 : ks.getD r 0 = z := by rw [List.getD_eq_getElem?_getD, List.getElem?_eq_getElem hr, Option.getD_some, he]
                      rw [h3] at h2
                      exact h2
                    have DF := Lib.hid (DP.out.below HB.out)
                    go_wp2
                    go_ret2
                    exact rstOk HF.out DF.out.1 DF.out WF.out
end Go.Proofs.YtjjflbnopphciabDoor

namespace Go.Proofs.YtjjflbnopphciabDoor
open Go.RowKit

theorem rst_len (n m l : Nat) (ds ps : List (List Int)) (ld lp : List Int) : (rstR n m l ds ps ld lp).1.length ≤ n := by
  unfold rstR
  repeat' split
  all_goals first | exact Nat.zero_le _ | (show (resD _ _ _ _ _ _).length ≤ n; unfold resD; rw [listD_len]; exact Nat.le_refl _)
set_option maxRecDepth 100000 in
set_option maxHeartbeats 16000000 in
theorem gr_n (A B C D : Option Addr) (n m l r0 ca cb cc cd : Nat) (ds ps : List (List Int)) (ld lp : List Int) (w : World) (hL : Laid w) (hA : RdD w A n ds) (hB : RdD w B m ps) (hC : RdI w C l ld) (hD : RdI w D r0 lp) (nA : A = none → n = 0 ∧ ca = 0) (nB : B = none → m = 0 ∧ cb = 0) (nC : C = none → l = 0 ∧ cc = 0) (nD : D = none → r0 = 0 ∧ cd = 0) (h1 : 14 < n) :
    Calls Tryd.prog 4 #[.agg #[.slice A n ca, .slice B m cb, .slice C l cc, .slice D r0 cd]] w fun e w' => e = .returned (.bool true) ∧ Below w.heap.size w w' := by
  have qn : (14 : Int) < (n : Int) := by omega
  obtain ⟨w1, hw1⟩ : ∃ W, (w.alloc (.cells #[.slice A n ca, .slice B m cb, .slice C l cc, .slice D r0 cd] 33)) = W := ⟨_, rfl⟩
  have b1 : Below w.heap.size w w1 := by rw [← hw1]; exact (Below.refl _ _).alloc (Nat.le_refl _) _
  have X1 : Hid (Bk w1 w.heap.size 33 #[.slice A n ca, .slice B m cb, .slice C l cc, .slice D r0 cd]) := by show Bk _ _ _ _; rw [← hw1]; exact Bk.new _ _ _
  have B1 := Lib.hid b1
  have HW1 := Lib.hid hw1
  have A1 := Lib.hid (hA.below b1)
  have P1 := Lib.hid (hB.below b1)
  have C1 := Lib.hid (hC.below b1)
  have D1 := Lib.hid (hD.below b1)
  have CAW := Lib.hid (awake_any w1 (hL.later b1))
  clear b1 hw1 hL hA hB hC hD
  go_enter Tryd.func4, Tryd.ntmps4
  go_upto_region 1 with fail
  rw [show (w.alloc (.cells #[.slice A n ca, .slice B m cb, .slice C l cc, .slice D r0 cd] 33)) = w1 from HW1.out]
  clear HW1
  go_wp2_with fail
  refine CAW.out.mono ?_
  rintro e w2 ⟨rfl, hb⟩
  have X2 : Hid (Bk w2 w.heap.size 33 #[.slice A n ca, .slice B m cb, .slice C l cc, .slice D r0 cd]) := X1.out.laterE hb
  have B2 := Lib.hid (B1.out.trans (hb.mono B1.out.size))
  have A2 := Lib.hid (A1.out.below hb)
  have P2 := Lib.hid (P1.out.below hb)
  have C2 := Lib.hid (C1.out.below hb)
  have D2 := Lib.hid (D1.out.below hb)
  clear hb CAW X1 B1 A1 P1 C1 D1
  obtain ⟨x0, x1, x2, x3⟩ := bk4 X2.out
  go_wp2
  go_ret
  exact ⟨rfl, B2.out⟩
set_option maxRecDepth 100000 in
set_option maxHeartbeats 16000000 in
theorem gr_m (A B C D : Option Addr) (n m l r0 ca cb cc cd : Nat) (ds ps : List (List Int)) (ld lp : List Int) (w : World) (hL : Laid w) (hA : RdD w A n ds) (hB : RdD w B m ps) (hC : RdI w C l ld) (hD : RdI w D r0 lp) (nA : A = none → n = 0 ∧ ca = 0) (nB : B = none → m = 0 ∧ cb = 0) (nC : C = none → l = 0 ∧ cc = 0) (nD : D = none → r0 = 0 ∧ cd = 0) (h1 : ¬ 14 < n) (h2 : 6 < m) :
    Calls Tryd.prog 4 #[.agg #[.slice A n ca, .slice B m cb, .slice C l cc, .slice D r0 cd]] w fun e w' => e = .returned (.bool true) ∧ Below w.heap.size w w' := by
  have qn : ¬ (14 : Int) < (n : Int) := by omega
  have qm : (6 : Int) < (m : Int) := by omega
  obtain ⟨w1, hw1⟩ : ∃ W, (w.alloc (.cells #[.slice A n ca, .slice B m cb, .slice C l cc, .slice D r0 cd] 33)) = W := ⟨_, rfl⟩
  have b1 : Below w.heap.size w w1 := by rw [← hw1]; exact (Below.refl _ _).alloc (Nat.le_refl _) _
  have X1 : Hid (Bk w1 w.heap.size 33 #[.slice A n ca, .slice B m cb, .slice C l cc, .slice D r0 cd]) := by show Bk _ _ _ _; rw [← hw1]; exact Bk.new _ _ _
  have B1 := Lib.hid b1
  have HW1 := Lib.hid hw1
  have A1 := Lib.hid (hA.below b1)
  have P1 := Lib.hid (hB.below b1)
  have C1 := Lib.hid (hC.below b1)
  have D1 := Lib.hid (hD.below b1)
  have CAW := Lib.hid (awake_any w1 (hL.later b1))
  clear b1 hw1 hL hA hB hC hD
  go_enter Tryd.func4, Tryd.ntmps4
  go_upto_region 1 with fail
  rw [show (w.alloc (.cells #[.slice A n ca, .slice B m cb, .slice C l cc, .slice D r0 cd] 33)) = w1 from HW1.out]
  clear HW1
  go_wp2_with fail
  refine CAW.out.mono ?_
  rintro e w2 ⟨rfl, hb⟩
  have X2 : Hid (Bk w2 w.heap.size 33 #[.slice A n ca, .slice B m cb, .slice C l cc, .slice D r0 cd]) := X1.out.laterE hb
  have B2 := Lib.hid (B1.out.trans (hb.mono B1.out.size))
  have A2 := Lib.hid (A1.out.below hb)
  have P2 := Lib.hid (P1.out.below hb)
  have C2 := Lib.hid (C1.out.below hb)
  have D2 := Lib.hid (D1.out.below hb)
  clear hb CAW X1 B1 A1 P1 C1 D1
  obtain ⟨x0, x1, x2, x3⟩ := bk4 X2.out
  go_wp2
  go_ret
  exact ⟨rfl, B2.out⟩
set_option maxRecDepth 100000 in
set_option maxHeartbeats 16000000 in
theorem gr_l (A B C D : Option Addr) (n m l r0 ca cb cc cd : Nat) (ds ps : List (List Int)) (ld lp : List Int) (w : World) (hL : Laid w) (hA : RdD w A n ds) (hB : RdD w B m ps) (hC : RdI w C l ld) (hD : RdI w D r0 lp) (nA : A = none → n = 0 ∧ ca = 0) (nB : B = none → m = 0 ∧ cb = 0) (nC : C = none → l = 0 ∧ cc = 0) (nD : D = none → r0 = 0 ∧ cd = 0) (h1 : ¬ 14 < n) (h2 : ¬ 6 < m) (h3 : 16 < l) :
    Calls Tryd.prog 4 #[.agg #[.slice A n ca, .slice B m cb, .slice C l cc, .slice D r0 cd]] w fun e w' => e = .returned (.bool true) ∧ Below w.heap.size w w' := by
  have qn : ¬ (14 : Int) < (n : Int) := by omega
  have qm : ¬ (6 : Int) < (m : Int) := by omega
  have ql : (16 : Int) < (l : Int) := by omega
  obtain ⟨w1, hw1⟩ : ∃ W, (w.alloc (.cells #[.slice A n ca, .slice B m cb, .slice C l cc, .slice D r0 cd] 33)) = W := ⟨_, rfl⟩
  have b1 : Below w.heap.size w w1 := by rw [← hw1]; exact (Below.refl _ _).alloc (Nat.le_refl _) _
  have X1 : Hid (Bk w1 w.heap.size 33 #[.slice A n ca, .slice B m cb, .slice C l cc, .slice D r0 cd]) := by show Bk _ _ _ _; rw [← hw1]; exact Bk.new _ _ _
  have B1 := Lib.hid b1
  have HW1 := Lib.hid hw1
  have A1 := Lib.hid (hA.below b1)
  have P1 := Lib.hid (hB.below b1)
  have C1 := Lib.hid (hC.below b1)
  have D1 := Lib.hid (hD.below b1)
  have CAW := Lib.hid (awake_any w1 (hL.later b1))
  clear b1 hw1 hL hA hB hC hD
  go_enter Tryd.func4, Tryd.ntmps4
  go_upto_region 1 with fail
  rw [show (w.alloc (.cells #[.slice A n ca, .slice B m cb, .slice C l cc, .slice D r0 cd] 33)) = w1 from HW1.out]
  clear HW1
  go_wp2_with fail
  refine CAW.out.mono ?_
  rintro e w2 ⟨rfl, hb⟩
  have X2 : Hid (Bk w2 w.heap.size 33 #[.slice A n ca, .slice B m cb, .slice C l cc, .slice D r0 cd]) := X1.out.laterE hb
  have B2 := Lib.hid (B1.out.trans (hb.mono B1.out.size))
  have A2 := Lib.hid (A1.out.below hb)
  have P2 := Lib.hid (P1.out.below hb)
  have C2 := Lib.hid (C1.out.below hb)
  have D2 := Lib.hid (D1.out.below hb)
  clear hb CAW X1 B1 A1 P1 C1 D1
  obtain ⟨x0, x1, x2, x3⟩ := bk4 X2.out
  go_wp2
  go_ret
  exact ⟨rfl, B2.out⟩
set_option maxRecDepth 100000 in
set_option maxHeartbeats 16000000 in
theorem gr_r (A B C D : Option Addr) (n m l r0 ca cb cc cd : Nat) (ds ps : List (List Int)) (ld lp : List Int) (w : World) (hL : Laid w) (hA : RdD w A n ds) (hB : RdD w B m ps) (hC : RdI w C l ld) (hD : RdI w D r0 lp) (nA : A = none → n = 0 ∧ ca = 0) (nB : B = none → m = 0 ∧ cb = 0) (nC : C = none → l = 0 ∧ cc = 0) (nD : D = none → r0 = 0 ∧ cd = 0) (h1 : ¬ 14 < n) (h2 : ¬ 6 < m) (h3 : ¬ 16 < l) (h4 : 16 < r0) :
    Calls Tryd.prog 4 #[.agg #[.slice A n ca, .slice B m cb, .slice C l cc, .slice D r0 cd]] w fun e w' => e = .returned (.bool true) ∧ Below w.heap.size w w' := by
  have qn : ¬ (14 : Int) < (n : Int) := by omega
  have qm : ¬ (6 : Int) < (m : Int) := by omega
  have ql : ¬ (16 : Int) < (l : Int) := by omega
  have qr0 : (16 : Int) < (r0 : Int) := by omega
  obtain ⟨w1, hw1⟩ : ∃ W, (w.alloc (.cells #[.slice A n ca, .slice B m cb, .slice C l cc, .slice D r0 cd] 33)) = W := ⟨_, rfl⟩
  have b1 : Below w.heap.size w w1 := by rw [← hw1]; exact (Below.refl _ _).alloc (Nat.le_refl _) _
  have X1 : Hid (Bk w1 w.heap.size 33 #[.slice A n ca, .slice B m cb, .slice C l cc, .slice D r0 cd]) := by show Bk _ _ _ _; rw [← hw1]; exact Bk.new _ _ _
  have B1 := Lib.hid b1
  have HW1 := Lib.hid hw1
  have A1 := Lib.hid (hA.below b1)
  have P1 := Lib.hid (hB.below b1)
  have C1 := Lib.hid (hC.below b1)
  have D1 := Lib.hid (hD.below b1)
  have CAW := Lib.hid (awake_any w1 (hL.later b1))
  clear b1 hw1 hL hA hB hC hD
  go_enter Tryd.func4, Tryd.ntmps4
  go_upto_region 1 with fail
  rw [show (w.alloc (.cells #[.slice A n ca, .slice B m cb, .slice C l cc, .slice D r0 cd] 33)) = w1 from HW1.out]
  clear HW1
  go_wp2_with fail
  refine CAW.out.mono ?_
  rintro e w2 ⟨rfl, hb⟩
  have X2 : Hid (Bk w2 w.heap.size 33 #[.slice A n ca, .slice B m cb, .slice C l cc, .slice D r0 cd]) := X1.out.laterE hb
  have B2 := Lib.hid (B1.out.trans (hb.mono B1.out.size))
  have A2 := Lib.hid (A1.out.below hb)
  have P2 := Lib.hid (P1.out.below hb)
  have C2 := Lib.hid (C1.out.below hb)
  have D2 := Lib.hid (D1.out.below hb)
  clear hb CAW X1 B1 A1 P1 C1 D1
  obtain ⟨x0, x1, x2, x3⟩ := bk4 X2.out
  go_wp2
  go_ret
  exact ⟨rfl, B2.out⟩
set_option maxRecDepth 100000 in
set_option maxHeartbeats 16000000 in
theorem gr_main (A B C D : Option Addr) (n m l r0 ca cb cc cd : Nat) (ds ps : List (List Int)) (ld lp : List Int) (w : World) (hL : Laid w) (hA : RdD w A n ds) (hB : RdD w B m ps) (hC : RdI w C l ld) (hD : RdI w D r0 lp) (nA : A = none → n = 0 ∧ ca = 0) (nB : B = none → m = 0 ∧ cb = 0) (nC : C = none → l = 0 ∧ cc = 0) (nD : D = none → r0 = 0 ∧ cd = 0) (h1 : ¬ 14 < n) (h2 : ¬ 6 < m) (h3 : ¬ 16 < l) (h4 : ¬ 16 < r0) :
    Calls Tryd.prog 4 #[.agg #[.slice A n ca, .slice B m cb, .slice C l cc, .slice D r0 cd]] w fun e w' => e = .returned (.bool true) ∧ Below w.heap.size w w' := by
  have qn : ¬ (14 : Int) < (n : Int) := by omega
  have qm : ¬ (6 : Int) < (m : Int) := by omega
  have ql : ¬ (16 : Int) < (l : Int) := by omega
  have qr0 : ¬ (16 : Int) < (r0 : Int) := by omega
  have CPG : Hid (∀ W, RdD W A n ds → RdD W B m ps → RdI W C l ld → RdI W D r0 lp → Calls Tryd.prog 10 #[.agg #[.slice A n ca, .slice B m cb, .slice C l cc, .slice D r0 cd]] W (CpG W n m l r0 ds ps ld lp)) := fun W h1 h2 h3 h4 => copyGroup_any A B C D n m l r0 ca cb cc cd ds ps ld lp W h1 h2 h3 h4 nA nB nC nD (by omega) (by omega) (by omega) (by omega)
  obtain ⟨E, hE⟩ : ∃ E, grpE n m ds ps ld lp = E := ⟨_, rfl⟩
  obtain ⟨⟨R1, R2⟩, hR⟩ : ∃ r, rstR n m l ds ps ld lp = r := ⟨_, rfl⟩
  have HLN : Hid (R1.length ≤ 14) := by have h9 := rst_len n m l ds ps ld lp; rw [hR] at h9; exact Nat.le_trans h9 (by omega)
  have HEE := Lib.hid hE
  have HR := Lib.hid hR
  have CRS : Hid (∀ W A B C D k1 k2 k3 k4, RdD W A n ds → RdD W B m ps → RdI W C l ld → RdI W D r0 lp → Calls Tryd.prog 9 #[.agg #[.slice A n k1, .slice B m k2, .slice C l k3, .slice D r0 k4]] W (RstRes W (R1, R2))) := fun W A B C D k1 k2 k3 k4 h1 h2 h3 h4 => by
    rw [← hR]; exact restored_any A B C D n m l r0 k1 k2 k3 k4 ds ps ld lp W h1 h2 h3 h4 (by omega) (by omega) (by omega) (by omega)
  have CCG : Hid (∀ W A B C D k1 k2 k3 k4, RdD W A n ds → RdD W B m ps → RdI W C l ld → RdI W D r0 lp → Calls Tryd.prog 15 #[.agg #[.slice A n k1, .slice B m k2, .slice C l k3, .slice D r0 k4]] W fun e w' => e = .returned (.int .i64 E) ∧ Below W.heap.size W w') := fun W A B C D k1 k2 k3 k4 h1 h2 h3 h4 => by
    rw [← hE]; exact checkGroup_any A B C D n m l r0 k1 k2 k3 k4 ds ps ld lp W h1 h2 h3 h4 (by omega) (by omega) (by omega) (by omega)
  have CGE : Hid (∀ W, RdD W A n ds → RdD W B m ps → RdI W C l ld → RdI W D r0 lp → Calls Tryd.prog 14 #[.agg #[.slice A n ca, .slice B m cb, .slice C l cc, .slice D r0 cd]] W fun e w' => e = .returned (.int .i64 E) ∧ Below W.heap.size W w') := fun W h1 h2 h3 h4 => by
    rw [← hE]; exact refGroupErr_any A B C D n m l r0 ca cb cc cd ds ps ld lp W h1 h2 h3 h4 (by omega) (by omega)
  have CRR : Hid (E = 0 → ∀ W, RdD W A n ds → RdD W B m ps → RdI W C l ld → RdI W D r0 lp → Calls Tryd.prog 16 #[.agg #[.slice A n ca, .slice B m cb, .slice C l cc, .slice D r0 cd]] W (RstRes W (R1, R2))) := fun hE0 W h1 h2 h3 h4 => by
    rw [hE0] at hE
    have hn1 := (grp1_shape (grp_parts hE).1).1
    obtain ⟨ad, e, _⟩ := h1.2.2 (by omega)
    subst e
    rw [← hR]; exact refRestored_main ad B C D n m l r0 ca cb cc cd ds ps ld lp W h1 h2 h3 h4 hE (by omega)
  have HRE : Hid (E ≠ 0 → R1 = [] ∧ R2 = E) := fun h => by
    have h9 : rstR n m l ds ps ld lp = ([], E) := by unfold rstR; rw [if_neg (by rw [hE]; exact h), hE]
    rw [hR] at h9; injection h9 with e1 e2; exact ⟨e1, e2⟩
  have hEq : (E != E) = false := by simp
  have hRq : (R2 == R2) = true := by simp
  clear hE hR nA nB nC nD h1 h2 h3 h4
  obtain ⟨w1, hw1⟩ : ∃ W, (w.alloc (.cells #[.slice A n ca, .slice B m cb, .slice C l cc, .slice D r0 cd] 33)) = W := ⟨_, rfl⟩
  have b1 : Below w.heap.size w w1 := by rw [← hw1]; exact (Below.refl _ _).alloc (Nat.le_refl _) _
  have X1 : Hid (Bk w1 w.heap.size 33 #[.slice A n ca, .slice B m cb, .slice C l cc, .slice D r0 cd]) := by show Bk _ _ _ _; rw [← hw1]; exact Bk.new _ _ _
  have B1 := Lib.hid b1
  have HW1 := Lib.hid hw1
  have A1 := Lib.hid (hA.below b1)
  have P1 := Lib.hid (hB.below b1)
  have C1 := Lib.hid (hC.below b1)
  have D1 := Lib.hid (hD.below b1)
  have CAW := Lib.hid (awake_any w1 (hL.later b1))
  clear b1 hw1 hL hA hB hC hD
  go_enter Tryd.func4, Tryd.ntmps4
  go_upto_region 1 with fail
  rw [show (w.alloc (.cells #[.slice A n ca, .slice B m cb, .slice C l cc, .slice D r0 cd] 33)) = w1 from HW1.out]
  clear HW1
  go_wp2_with fail
  refine CAW.out.mono ?_
  rintro e w2 ⟨rfl, hb⟩
  have X2 : Hid (Bk w2 w.heap.size 33 #[.slice A n ca, .slice B m cb, .slice C l cc, .slice D r0 cd]) := X1.out.laterE hb
  have B2 := Lib.hid (B1.out.trans (hb.mono B1.out.size))
  have A2 := Lib.hid (A1.out.below hb)
  have P2 := Lib.hid (P1.out.below hb)
  have C2 := Lib.hid (C1.out.below hb)
  have D2 := Lib.hid (D1.out.below hb)
  clear hb CAW X1 B1 A1 P1 C1 D1
  obtain ⟨x0, x1, x2, x3⟩ := bk4 X2.out
  go_wp2_with fail
  refine (CPG.out _ A2.out P2.out C2.out D2.out).mono ?_
  rintro e w3 ⟨⟨cAa, cBa, cCa, cDa, k1a, k2a, k3a, k4a, rfl, rA, rB, rC, rD⟩, hb⟩
  have GA := Lib.hid rA
  have GB := Lib.hid rB
  have GC := Lib.hid rC
  have GD := Lib.hid rD
  clear rA rB rC rD x0 x1 x2 x3
  have X3 : Hid (Bk w3 w.heap.size 33 #[.slice A n ca, .slice B m cb, .slice C l cc, .slice D r0 cd]) := X2.out.laterE hb
  have B3 := Lib.hid (B2.out.trans (hb.mono B2.out.size))
  have A3 := Lib.hid (A2.out.below hb)
  have P3 := Lib.hid (P2.out.below hb)
  have C3 := Lib.hid (C2.out.below hb)
  have D3 := Lib.hid (D2.out.below hb)
  clear hb X2 B2 A2 P2 C2 D2
  obtain ⟨x0, x1, x2, x3⟩ := bk4 X3.out
  go_wp2_with fail
  refine (CRS.out _ _ _ _ _ _ _ _ _ GA.out GB.out GC.out GD.out).mono ?_
  rintro e w4 ⟨⟨sA, sc, he, hS⟩, hb⟩
  have he' : e = .returned (.tuple #[.slice sA R1.length sc, .int .i64 R2]) := he
  subst he'
  have S4 : Hid (RdD w4 sA R1.length R1) := hS
  clear he hS GA GB GC GD CRS x0 x1 x2 x3
  have X4 : Hid (Bk w4 w.heap.size 33 #[.slice A n ca, .slice B m cb, .slice C l cc, .slice D r0 cd]) := X3.out.laterE hb
  have B4 := Lib.hid (B3.out.trans (hb.mono B3.out.size))
  have A4 := Lib.hid (A3.out.below hb)
  have P4 := Lib.hid (P3.out.below hb)
  have C4 := Lib.hid (C3.out.below hb)
  have D4 := Lib.hid (D3.out.below hb)
  clear hb X3 B3 A3 P3 C3 D3
  obtain ⟨x0, x1, x2, x3⟩ := bk4 X4.out
  go_wp2_with fail
  refine (CGE.out _ A4.out P4.out C4.out D4.out).mono ?_
  rintro e w5 ⟨rfl, hb⟩
  have S5 := Lib.hid (S4.out.below hb)
  clear S4 CGE x0 x1 x2 x3
  have X5 : Hid (Bk w5 w.heap.size 33 #[.slice A n ca, .slice B m cb, .slice C l cc, .slice D r0 cd]) := X4.out.laterE hb
  have B5 := Lib.hid (B4.out.trans (hb.mono B4.out.size))
  have A5 := Lib.hid (A4.out.below hb)
  have P5 := Lib.hid (P4.out.below hb)
  have C5 := Lib.hid (C4.out.below hb)
  have D5 := Lib.hid (D4.out.below hb)
  clear hb X4 B4 A4 P4 C4 D4
  obtain ⟨x0, x1, x2, x3⟩ := bk4 X5.out
  go_wp2_with fail
  refine (CPG.out _ A5.out P5.out C5.out D5.out).mono ?_
  rintro e w6 ⟨⟨cAb, cBb, cCb, cDb, k1b, k2b, k3b, k4b, rfl, rA, rB, rC, rD⟩, hb⟩
  have GA := Lib.hid rA
  have GB := Lib.hid rB
  have GC := Lib.hid rC
  have GD := Lib.hid rD
  have S6 := Lib.hid (S5.out.below hb)
  clear S5 rA rB rC rD x0 x1 x2 x3
  have X6 : Hid (Bk w6 w.heap.size 33 #[.slice A n ca, .slice B m cb, .slice C l cc, .slice D r0 cd]) := X5.out.laterE hb
  have B6 := Lib.hid (B5.out.trans (hb.mono B5.out.size))
  have A6 := Lib.hid (A5.out.below hb)
  have P6 := Lib.hid (P5.out.below hb)
  have C6 := Lib.hid (C5.out.below hb)
  have D6 := Lib.hid (D5.out.below hb)
  clear hb X5 B5 A5 P5 C5 D5
  obtain ⟨x0, x1, x2, x3⟩ := bk4 X6.out
  go_wp2_with fail
  refine (CCG.out _ _ _ _ _ _ _ _ _ GA.out GB.out GC.out GD.out).mono ?_
  rintro e w7 ⟨rfl, hb⟩
  have S7 := Lib.hid (S6.out.below hb)
  clear S6 GA GB GC GD CCG x0 x1 x2 x3
  have X7 : Hid (Bk w7 w.heap.size 33 #[.slice A n ca, .slice B m cb, .slice C l cc, .slice D r0 cd]) := X6.out.laterE hb
  have B7 := Lib.hid (B6.out.trans (hb.mono B6.out.size))
  have A7 := Lib.hid (A6.out.below hb)
  have P7 := Lib.hid (P6.out.below hb)
  have C7 := Lib.hid (C6.out.below hb)
  have D7 := Lib.hid (D6.out.below hb)
  clear hb X6 B6 A6 P6 C6 D6
  obtain ⟨x0, x1, x2, x3⟩ := bk4 X7.out
  by_cases hE0 : E = 0
  · have CRT := Lib.hid (CRR.out hE0 w7 A7.out P7.out C7.out D7.out)
    have hEz : (E == 0) = true := by simpa using hE0
    clear CRR HRE HEE HR
    go_wp2_with fail
    refine CRT.out.mono ?_
    rintro e w8 ⟨⟨tA, tc, he, hT⟩, hb⟩
    have he' : e = .returned (.tuple #[.slice tA R1.length tc, .int .i64 R2]) := he
    subst he'
    have T8 : Hid (RdD w8 tA R1.length R1) := hT
    have S8 := Lib.hid (S7.out.below hb)
    have B8 := Lib.hid (B7.out.trans (hb.mono B7.out.size))
    clear he hT hb CRT S7 B7 x0 x1 x2 x3
    go_wp2_with fail
    refine (sameData_any sA tA R1.length sc tc R1 w8 S8.out T8.out (by have := HLN.out; omega)).mono ?_
    rintro e w9 ⟨rfl, jd, rfl⟩
    go_wp2
    go_ret
    exact ⟨rfl, blw_drewN B8.out _⟩
  · have hEz : (E == 0) = false := by simpa using hE0
    obtain ⟨e1, e2⟩ := HRE.out hE0
    have S8 : Hid (RdD w7 sA 0 []) := by have := S7.out; rw [e1] at this; exact this
    have hl0 : R1.length = 0 := by rw [e1]; rfl
    have hq2 : (E == E) = true := by simp
    rw [hl0, e2]
    clear CRR HRE HEE HR S7 hRq HLN e1 e2 hl0
    go_wp2_with fail
    refine (sameData_any sA none 0 sc 0 [] w7 S8.out ⟨rfl, fun i hi => by simp at hi, fun h => absurd h (by omega)⟩ (by omega)).mono ?_
    rintro e w9 ⟨rfl, jd, rfl⟩
    go_wp2
    go_ret
    exact ⟨rfl, blw_drewN B7.out _⟩
theorem groups_walk (A B C D : Option Addr) (n m l r0 ca cb cc cd : Nat) (ds ps : List (List Int)) (ld lp : List Int) (w : World) (hL : Laid w) (hA : RdD w A n ds) (hB : RdD w B m ps) (hC : RdI w C l ld) (hD : RdI w D r0 lp) (nA : A = none → n = 0 ∧ ca = 0) (nB : B = none → m = 0 ∧ cb = 0) (nC : C = none → l = 0 ∧ cc = 0) (nD : D = none → r0 = 0 ∧ cd = 0) :
    Calls Tryd.prog 4 #[.agg #[.slice A n ca, .slice B m cb, .slice C l cc, .slice D r0 cd]] w fun e w' => e = .returned (.bool true) ∧ Below w.heap.size w w' := by
  by_cases h1 : 14 < n
  · exact gr_n A B C D n m l r0 ca cb cc cd ds ps ld lp w hL hA hB hC hD nA nB nC nD h1
  by_cases h2 : 6 < m
  · exact gr_m A B C D n m l r0 ca cb cc cd ds ps ld lp w hL hA hB hC hD nA nB nC nD h1 h2
  by_cases h3 : 16 < l
  · exact gr_l A B C D n m l r0 ca cb cc cd ds ps ld lp w hL hA hB hC hD nA nB nC nD h1 h2 h3
  by_cases h4 : 16 < r0
  · exact gr_r A B C D n m l r0 ca cb cc cd ds ps ld lp w hL hA hB hC hD nA nB nC nD h1 h2 h3 h4
  exact gr_main A B C D n m l r0 ca cb cc cd ds ps ld lp w hL hA hB hC hD nA nB nC nD h1 h2 h3 h4
end Go.Proofs.YtjjflbnopphciabDoor

