import Derived.Test.YtjjflbnopphciabDoorTgah
import Derived.StillTailTactics
import Derived.Test.YtjjflbnopphciabDoorRG5
import Derived.Test.YtjjflbnopphciabDoorTgad
namespace Go.Proofs.YtjjflbnopphciabDoor
open Go.RowKit

def mixU (U : Nat → Nat → Int) (i : Nat) (v : Nat → Int) (k : Nat) : Nat → Nat → Int := fun a b => if a = i ∧ b < k then v b else U a b
theorem mixU_zero (U : Nat → Nat → Int) (i : Nat) (v : Nat → Int) : mixU U i v 0 = U := by funext a b; exact if_neg (by omega)
theorem mixU_step (U : Nat → Nat → Int) (i : Nat) (v : Nat → Int) (k a b : Nat) : (if a = i ∧ b = k then v k else mixU U i v k a b) = mixU U i v (k + 1) a b := by
  unfold mixU
  by_cases h : a = i ∧ b = k
  · obtain ⟨rfl, rfl⟩ := h
    rw [if_pos ⟨rfl, rfl⟩, if_pos ⟨rfl, by omega⟩]
  · rw [if_neg h]
    by_cases h2 : a = i ∧ b < k
    · rw [if_pos h2, if_pos ⟨h2.1, by omega⟩]
    · rw [if_neg h2, if_neg (by omega)]
theorem mixU_end (V : Nat → Nat → Int) (ld : List Int) (F : Nat → Nat → Int) (r i a b : Nat) (hi : ld.getD r 0 = (i : Int)) (hb : b < 8) : mixU (updF V ld F r) i (V r) 8 a b = updF V ld F (r + 1) a b := by
  show _ = if (a : Int) = ld.getD r 0 then V r b else updF V ld F r a b
  unfold mixU
  rw [hi]
  by_cases h : a = i
  · subst h; rw [if_pos ⟨rfl, hb⟩, if_pos rfl]
  · rw [if_neg (fun e => h e.1), if_neg (by omega)]
theorem rstOk {w w' : World} {r : List (List Int) × Int} {E : Int} {xs : List (List Int)} {A : Option Addr} {n c : Nat} (h : r = (xs, E)) (hl : xs.length = n) (hr : RdD w' A n xs) (hb : Below w.heap.size w w') : RstRes w r (.returned (.tuple #[.slice A n c, .int .i64 E])) w' := by
  subst h; subst hl; exact ⟨⟨A, c, rfl, hr⟩, hb⟩
set_option maxRecDepth 100000 in
set_option maxHeartbeats 16000000 in
theorem rst_err (A B C D : Option Addr) (n m l r0 ca cb cc cd : Nat) (ds ps : List (List Int)) (ld lp : List Int) (w : World) (hA : RdD w A n ds) (hB : RdD w B m ps) (hC : RdI w C l ld) (hD : RdI w D r0 lp) (hn : n ≤ 1000) (hm : m ≤ 1000) (hl : l ≤ 1000) (hr : r0 ≤ 1000) (hE : grpE n m ds ps ld lp ≠ 0) :
    Calls Tryd.prog 9 #[.agg #[.slice A n ca, .slice B m cb, .slice C l cc, .slice D r0 cd]] w (RstRes w (rstR n m l ds ps ld lp)) := by
  obtain ⟨w1, hw1⟩ : ∃ W, w.alloc (.cells #[.slice A n ca, .slice B m cb, .slice C l cc, .slice D r0 cd] 33) = W := ⟨_, rfl⟩
  have b1 : Below w.heap.size w w1 := by rw [← hw1]; exact (Below.refl _ _).alloc (Nat.le_refl _) _
  have HBK : Hid (Bk w1 w.heap.size 33 #[.slice A n ca, .slice B m cb, .slice C l cc, .slice D r0 cd]) := by show Bk _ _ _ _; rw [← hw1]; exact Bk.new _ _ _
  have HB1 := Lib.hid b1
  have HW1 := Lib.hid hw1
  have KEEP : Hid (∀ W, Below w1.heap.size w1 W → W.cell? ⟨w.heap.size, 0, none⟩ = some (.slice A n ca) ∧ W.cell? ⟨w.heap.size, 1, none⟩ = some (.slice B m cb) ∧ W.cell? ⟨w.heap.size, 2, none⟩ = some (.slice C l cc) ∧ W.cell? ⟨w.heap.size, 3, none⟩ = some (.slice D r0 cd)) := fun W hW => bk4 (HBK.out.below hW HBK.out.lt)
  have RC : Hid (∀ W, Below w1.heap.size w1 W → RdI W C l ld) := fun W hW => (hC.below HB1.out).below hW
  have RD : Hid (∀ W, Below w1.heap.size w1 W → RdI W D r0 lp) := fun W hW => (hD.below HB1.out).below hW
  have RA : Hid (∀ W, Below w1.heap.size w1 W → RdD W A n ds) := fun W hW => (hA.below HB1.out).below hW
  have RB : Hid (∀ W, Below w1.heap.size w1 W → RdD W B m ps) := fun W hW => (hB.below HB1.out).below hW
  have CG0 := checkGroup_any A B C D n m l r0 ca cb cc cd ds ps ld lp w1 (RA.out _ (Below.refl _ _)) (RB.out _ (Below.refl _ _)) (RC.out _ (Below.refl _ _)) (RD.out _ (Below.refl _ _)) hn hm hl hr
  have HR : Hid (rstR n m l ds ps ld lp = ([], grpE n m ds ps ld lp)) := if_neg hE
  obtain ⟨E, hEE⟩ : ∃ E, grpE n m ds ps ld lp = E := ⟨_, rfl⟩
  rw [hEE] at CG0 hE HR
  have CG := Lib.hid CG0
  have hEn : (E != 0) = true := by simpa using hE
  clear b1 hw1 hA hB hC hD CG0 hE hEE
  go_enter Tryd.func9, Tryd.ntmps9
  obtain ⟨c0, c1, c2, c3⟩ := KEEP.out w1 (Below.refl _ _)
  go_upto_region 1 with fail
  rw [show w.alloc (.cells #[.slice A n ca, .slice B m cb, .slice C l cc, .slice D r0 cd] 33) = w1 from HW1.out]
  go_wp2_with fail
  refine CG.out.mono ?_
  rintro e w2 ⟨rfl, hb⟩
  have B2 := Lib.hid hb
  clear hb CG c0 c1 c2 c3
  have BF : Hid (Below w.heap.size w w2) := HB1.out.trans (B2.out.mono HB1.out.size)
  go_wp2
  go_ret2
  exact rstNil HR.out BF.out
set_option maxRecDepth 100000 in
set_option maxHeartbeats 16000000 in
theorem rst_lost (A B C D : Option Addr) (n m l r0 ca cb cc cd : Nat) (ds ps : List (List Int)) (ld lp : List Int) (w : World) (hA : RdD w A n ds) (hB : RdD w B m ps) (hC : RdI w C l ld) (hD : RdI w D r0 lp) (hn : n ≤ 1000) (hm : m ≤ 1000) (hl : l ≤ 1000) (hr : r0 ≤ 1000) (hE : grpE n m ds ps ld lp = 0) (hq0 : (kepL lp m).length < l) :
    Calls Tryd.prog 9 #[.agg #[.slice A n ca, .slice B m cb, .slice C l cc, .slice D r0 cd]] w (RstRes w (rstR n m l ds ps ld lp)) := by
  obtain ⟨w1, hw1⟩ : ∃ W, w.alloc (.cells #[.slice A n ca, .slice B m cb, .slice C l cc, .slice D r0 cd] 33) = W := ⟨_, rfl⟩
  have b1 : Below w.heap.size w w1 := by rw [← hw1]; exact (Below.refl _ _).alloc (Nat.le_refl _) _
  have HBK : Hid (Bk w1 w.heap.size 33 #[.slice A n ca, .slice B m cb, .slice C l cc, .slice D r0 cd]) := by show Bk _ _ _ _; rw [← hw1]; exact Bk.new _ _ _
  have HB1 := Lib.hid b1
  have HW1 := Lib.hid hw1
  have KEEP : Hid (∀ W, Below w1.heap.size w1 W → W.cell? ⟨w.heap.size, 0, none⟩ = some (.slice A n ca) ∧ W.cell? ⟨w.heap.size, 1, none⟩ = some (.slice B m cb) ∧ W.cell? ⟨w.heap.size, 2, none⟩ = some (.slice C l cc) ∧ W.cell? ⟨w.heap.size, 3, none⟩ = some (.slice D r0 cd)) := fun W hW => bk4 (HBK.out.below hW HBK.out.lt)
  have RC : Hid (∀ W, Below w1.heap.size w1 W → RdI W C l ld) := fun W hW => (hC.below HB1.out).below hW
  have RD : Hid (∀ W, Below w1.heap.size w1 W → RdI W D r0 lp) := fun W hW => (hD.below HB1.out).below hW
  have RA : Hid (∀ W, Below w1.heap.size w1 W → RdD W A n ds) := fun W hW => (hA.below HB1.out).below hW
  have RB : Hid (∀ W, Below w1.heap.size w1 W → RdD W B m ps) := fun W hW => (hB.below HB1.out).below hW
  have CG0 := checkGroup_any A B C D n m l r0 ca cb cc cd ds ps ld lp w1 (RA.out _ (Below.refl _ _)) (RB.out _ (Below.refl _ _)) (RC.out _ (Below.refl _ _)) (RD.out _ (Below.refl _ _)) hn hm hl hr
  obtain ⟨hn1, hn12, hm1, hm4, hl1, hl2⟩ := grp1_shape (grp_parts hE).1
  obtain ⟨ks, hks⟩ : ∃ ks, kepL lp m = ks := ⟨_, rfl⟩
  have hklen : ks.length ≤ m := by rw [← hks]; exact kepL_len lp m
  obtain ⟨q, hq⟩ : ∃ q, ks.length = q := ⟨_, rfl⟩
  have CK : Hid (∀ W, RdI W D r0 lp → Calls Tryd.prog 30 #[.int .i64 (m : Int), .slice D r0 cd] W fun e w' => ∃ A3 c3, e = .returned (.slice A3 q c3) ∧ RdI w' A3 q ks ∧ Below W.heap.size W w') := fun W h => by
    rw [← hks]; exact keptOf_rd m D r0 cd lp W h (by omega) (by omega) q (by rw [hks]; exact hq)
  have HR : Hid (rstR n m l ds ps ld lp = ([], 28)) := by show _ = _; unfold rstR; rw [if_pos hE, if_pos hq0]
  rw [hE] at CG0
  have CG := Lib.hid CG0
  have hgt : (q : Int) < (l : Int) := by rw [hks] at hq0; omega
  clear b1 hw1 hA hB hC hD CG0 hE hks hq hq0 hklen hl1 hl2
  go_enter Tryd.func9, Tryd.ntmps9
  obtain ⟨c0, c1, c2, c3⟩ := KEEP.out w1 (Below.refl _ _)
  go_upto_region 1 with fail
  rw [show w.alloc (.cells #[.slice A n ca, .slice B m cb, .slice C l cc, .slice D r0 cd] 33) = w1 from HW1.out]
  go_wp2_with fail
  refine CG.out.mono ?_
  rintro e w2 ⟨rfl, hb⟩
  have B2 := Lib.hid hb
  clear hb CG c0 c1 c2 c3
  obtain ⟨c0, c1, c2, c3⟩ := KEEP.out w2 B2.out
  go_wp2_with fail
  refine (CK.out _ (RD.out _ B2.out)).mono ?_
  rintro e w3 ⟨A5, c5, rfl, hr5, hb⟩
  have B3 : Hid (Below w1.heap.size w1 w3) := B2.out.trans (hb.mono B2.out.size)
  clear hb hr5 c0 c1 c2 c3
  have BF : Hid (Below w.heap.size w w3) := HB1.out.trans (B3.out.mono HB1.out.size)
  obtain ⟨c0, c1, c2, c3⟩ := KEEP.out w3 B3.out
  go_wp2
  go_ret2
  exact rstNil HR.out BF.out
set_option maxRecDepth 100000 in
set_option maxHeartbeats 16000000 in
theorem rst_main (A B C D : Option Addr) (n m l r0 ca cb cc cd : Nat) (ds ps : List (List Int)) (ld lp : List Int) (w : World) (hA : RdD w A n ds) (hB : RdD w B m ps) (hC : RdI w C l ld) (hD : RdI w D r0 lp) (hn : n ≤ 1000) (hm : m ≤ 1000) (hl : l ≤ 1000) (hr : r0 ≤ 1000) (hE : grpE n m ds ps ld lp = 0) (hq0 : ¬ (kepL lp m).length < l) :
    Calls Tryd.prog 9 #[.agg #[.slice A n ca, .slice B m cb, .slice C l cc, .slice D r0 cd]] w (RstRes w (rstR n m l ds ps ld lp)) := by
  obtain ⟨w1, hw1⟩ : ∃ W, w.alloc (.cells #[.slice A n ca, .slice B m cb, .slice C l cc, .slice D r0 cd] 33) = W := ⟨_, rfl⟩
  have b1 : Below w.heap.size w w1 := by rw [← hw1]; exact (Below.refl _ _).alloc (Nat.le_refl _) _
  have HBK : Hid (Bk w1 w.heap.size 33 #[.slice A n ca, .slice B m cb, .slice C l cc, .slice D r0 cd]) := by show Bk _ _ _ _; rw [← hw1]; exact Bk.new _ _ _
  have HB1 := Lib.hid b1
  have HW1 := Lib.hid hw1
  have KEEP : Hid (∀ W, Below w1.heap.size w1 W → W.cell? ⟨w.heap.size, 0, none⟩ = some (.slice A n ca) ∧ W.cell? ⟨w.heap.size, 1, none⟩ = some (.slice B m cb) ∧ W.cell? ⟨w.heap.size, 2, none⟩ = some (.slice C l cc) ∧ W.cell? ⟨w.heap.size, 3, none⟩ = some (.slice D r0 cd)) := fun W hW => bk4 (HBK.out.below hW HBK.out.lt)
  have RC : Hid (∀ W, Below w1.heap.size w1 W → RdI W C l ld) := fun W hW => (hC.below HB1.out).below hW
  have RD : Hid (∀ W, Below w1.heap.size w1 W → RdI W D r0 lp) := fun W hW => (hD.below HB1.out).below hW
  have RA : Hid (∀ W, Below w1.heap.size w1 W → RdD W A n ds) := fun W hW => (hA.below HB1.out).below hW
  have RB : Hid (∀ W, Below w1.heap.size w1 W → RdD W B m ps) := fun W hW => (hB.below HB1.out).below hW
  have CG0 := checkGroup_any A B C D n m l r0 ca cb cc cd ds ps ld lp w1 (RA.out _ (Below.refl _ _)) (RB.out _ (Below.refl _ _)) (RC.out _ (Below.refl _ _)) (RD.out _ (Below.refl _ _)) hn hm hl hr
  obtain ⟨hn1, hn12, hm1, hm4, hl1, hl2⟩ := grp1_shape (grp_parts hE).1
  obtain ⟨ks, hks⟩ : ∃ ks, kepL lp m = ks := ⟨_, rfl⟩
  have hklen : ks.length ≤ m := by rw [← hks]; exact kepL_len lp m
  obtain ⟨q, hq⟩ : ∃ q, ks.length = q := ⟨_, rfl⟩
  have CK : Hid (∀ W, RdI W D r0 lp → Calls Tryd.prog 30 #[.int .i64 (m : Int), .slice D r0 cd] W fun e w' => ∃ A3 c3, e = .returned (.slice A3 q c3) ∧ RdI w' A3 q ks ∧ Below W.heap.size W w') := fun W h => by
    rw [← hks]; exact keptOf_rd m D r0 cd lp W h (by omega) (by omega) q (by rw [hks]; exact hq)
  have hlen : ld.length = l := hC.1
  have hdsl : ds.length = n := hA.1
  have hpsl : ps.length = m := hB.1
  have h8d : Ok8 ds := hA.2.1
  have h8p : Ok8 ps := hB.2.1
  have hlq : l ≤ q := by rw [hks] at hq0; omega
  have HLD : Hid (∀ k, k < l → 0 ≤ ld.getD k 0 ∧ ld.getD k 0 < n) := fun k hk => lostE_in n (-1) ld hl1 _ (getD_mem' ld k (by omega))
  have HKS : Hid (∀ r, r < q → 0 ≤ ks.getD r 0 ∧ ks.getD r 0 < m) := fun r hr => by
    have := (kepL_mem lp m (ks.getD r 0)).1 (by rw [hks]; exact getD_mem' ks r (by omega)); omega
  have HPS : Hid (∀ r k, r < q → k < 8 → 0 ≤ dc ps (ks.getD r 0).toNat k ∧ dc ps (ks.getD r 0).toNat k ≤ 65536) := fun r k hr hk => by
    rw [← hks]; exact ps_kept h8p hpsl hE r k (by rw [hks, hq]; exact hr) hk
  obtain ⟨V0, hV0⟩ : ∃ V : Nat → Nat → Int, (fun _ _ => -32768) = V := ⟨_, rfl⟩
  have HV0 : Hid (∀ r k, V0 r k = -32768) := fun r k => by rw [← hV0]
  obtain ⟨F0, hF0⟩ : ∃ F, dc ds = F := ⟨_, rfl⟩
  obtain ⟨F1, hF1⟩ : ∃ F, clrD ds ld l n = F := ⟨_, rfl⟩
  have HF1 : Hid (updF V0 ld F0 l = F1) := by show _ = _; rw [← hF1, ← hF0, ← hV0]; rfl
  have HBN : Hid (BndD (listD n F1)) := by show BndD _; rw [← hF1, ← hlen]; exact clr_bnd h8d hdsl hE
  obtain ⟨SE, hSE⟩ : ∃ S, solE ds ps ld ks l n = S := ⟨_, rfl⟩
  have HSE : Hid (slvF (eqM l ld ks ps (listD n F1) n) l = SE) := by show _ = _; rw [← hSE, ← hF1]; rfl
  have HSB : Hid (∀ r k, 0 ≤ SE r k ∧ SE r k ≤ 65536) := fun r k => by rw [← hSE]; exact sol_bd ds ps ld ks l n r k
  obtain ⟨V1, hV1⟩ : ∃ V : Nat → Nat → Int, (fun r k => SE r (4 + k) - 32768) = V := ⟨_, rfl⟩
  have HV1 : Hid (∀ r k, V1 r k = SE r (4 + k) - 32768) := fun r k => by rw [← hV1]
  have HRD : Hid (listD n (updF V1 ld F1 l) = resD ds ps ld ks l n) := by show _ = _; rw [← hV1, ← hF1, ← hSE]; rfl
  have HR : Hid (rstR n m l ds ps ld lp = if expB (resD ds ps ld ks l n) ps n ks = true then (resD ds ps ld ks l n, 0) else ([], 13)) := by show _ = _; unfold rstR; rw [if_pos hE, if_neg hq0, hks]
  obtain ⟨ad, rfl, _, _⟩ := hA.2.2 (by omega)
  have HOK := Lib.hid (And.intro hdsl h8d)
  have HF0 := Lib.hid hF0
  rw [hE] at CG0
  have CG := Lib.hid CG0
  have hgt : ¬ (q : Int) < (l : Int) := by omega
  have hl4 : l ≤ 4 := by omega
  have hq4 : q ≤ 4 := by omega
  clear b1 hw1 hA hB hC hD CG0 hE hks hq hq0 hklen hl1 hl2 hlen hdsl hpsl h8d h8p hV0 hF0 hF1 hSE hV1
  go_enter Tryd.func9, Tryd.ntmps9
  obtain ⟨c0, c1, c2, c3⟩ := KEEP.out w1 (Below.refl _ _)
  go_upto_region 1 with fail
  rw [show w.alloc (.cells #[.slice (some ad) n ca, .slice B m cb, .slice C l cc, .slice D r0 cd] 33) = w1 from HW1.out]
  go_wp2_with fail
  refine CG.out.mono ?_
  rintro e w2 ⟨rfl, hb⟩
  have B2 := Lib.hid hb
  clear hb CG c0 c1 c2 c3
  obtain ⟨c0, c1, c2, c3⟩ := KEEP.out w2 B2.out
  go_wp2_with fail
  refine (CK.out _ (RD.out _ B2.out)).mono ?_
  rintro e w3 ⟨A5, c5, rfl, hr5, hb⟩
  have B3 : Hid (Below w1.heap.size w1 w3) := B2.out.trans (hb.mono B2.out.size)
  have R5 := Lib.hid hr5
  have HBW : Hid (∀ W, Below w3.heap.size w3 W → Below w1.heap.size w1 W) := fun W hW => B3.out.trans (hW.mono B3.out.size)
  clear hb hr5 c0 c1 c2 c3 B2 CK
  obtain ⟨c0, c1, c2, c3⟩ := KEEP.out w3 B3.out
  go_wp2_with fail
  refine (clone8_any ad n ca ds w3 (RA.out _ B3.out) (by omega)).mono ?_
  rintro e w4 ⟨v, rfl, ho, hb⟩
  obtain ⟨gd, cap, rfl, hncap, hcap, hgd, hda⟩ := DaB.of_own ho HOK.out.1 HOK.out.2 (by omega)
  have DA4 : Hid (DaB w4 gd n (updF V0 ld F0 0)) := by show DaB _ _ _ (F0); rw [← HF0.out]; exact hda
  have B4 := Lib.hid hb
  have HGD : Hid (w3.heap.size ≤ gd) := hgd
  clear hb ho hda hgd c0 c1 c2 c3
  obtain ⟨c0, c1, c2, c3⟩ := KEEP.out w4 (HBW.out _ B4.out)
  go_wp2
  clear c0 c1 c2 c3
  go_loopw [38] (fun i wr => ∃ r : Nat, r ≤ l ∧ i = .int .i64 r ∧ Hid (DaB wr gd n (updF V0 ld F0 r)) ∧ Hid (Below w3.heap.size w3 wr)) (fun i _ => l - (intOf i).toNat)
  case atStart => exact ⟨0, Nat.zero_le _, rfl, DA4.out, B4.out⟩
  case round =>
    clear DA4 B4
    obtain ⟨r, hrl, rfl, HD, HB⟩ := hrel
    by_cases hr : r < l
    · obtain ⟨ac, hac, _, hcc⟩ := (RC.out wr (HBW.out wr HB.out)).2 (by omega)
      have hlc := hcc r hr
      have hlb := HLD.out r hr
      clear hcc
      subst hac
      obtain ⟨iI, hiI⟩ : ∃ i, ld.getD r 0 = i := ⟨_, rfl⟩
      rw [hiI] at hlc hlb
      obtain ⟨i, rfl⟩ := Int.eq_ofNat_of_zero_le hlb.1
      have HI := Lib.hid hiI
      have hin : i < n := by omega
      have hinI : (i : Int) < (n : Int) := by omega
      have hrI : (r : Int) < (l : Int) := by omega
      obtain ⟨U, hU⟩ : ∃ U, updF V0 ld F0 r = U := ⟨_, rfl⟩
      obtain ⟨v, hv⟩ : ∃ v, V0 r = v := ⟨_, rfl⟩
      have HEND : Hid (∀ a b, b < 8 → mixU U i v 8 a b = updF V0 ld F0 (r + 1) a b) := fun a b hb => by rw [← hU, ← hv]; exact mixU_end V0 ld F0 r i a b HI.out hb
      have HD0 : Hid (DaB wr gd n (mixU U i v 0)) := by show DaB _ _ _ _; rw [mixU_zero, ← hU]; exact HD.out
      have hvk : Hid (∀ k, v k = -32768) := fun k => by rw [← hv]; exact HV0.out r k
      clear hU hv hiI hlb HD
      go_wp2
      clear hlc
      obtain ⟨wA, hwA⟩ : ∃ Z, Z = wr := ⟨_, rfl⟩
      subst hwA
      go_loopw [42] (fun i' wr => ∃ k : Nat, k ≤ 8 ∧ i' = .int .i64 k ∧ Hid (DaB wr gd n (mixU U i v k)) ∧ Hid (Below w3.heap.size w3 wr)) (fun i' _ => 8 - (intOf i').toNat)
      case atStart => exact ⟨0, Nat.zero_le _, rfl, HD0.out, HB.out⟩
      case round =>
        clear HD0 HB
        obtain ⟨k, hk8, rfl, HD, HB⟩ := hrel
        by_cases hk : k < 8
        · have hkI : (k : Int) < 8 := by omega
          obtain ⟨old, hold⟩ : ∃ o, mixU U i v k i k = o := ⟨_, rfl⟩
          have hz : wr.cell? ⟨gd, i * 8 + k, none⟩ = some (.int .i64 old) := by rw [HD.out.cell hin hk, hold]
          have hf : wr.frozen? ⟨gd, i * 8 + k, none⟩ = false := HD.out.frozen _
          obtain ⟨z, hzv⟩ : ∃ z, v k = z := ⟨_, rfl⟩
          have NXT : Hid (DaB (wr.setCell ⟨gd, i * 8 + k, none⟩ (.int .i64 z)) gd n (mixU U i v (k + 1))) := (HD.out.set1 hin hk _).congr fun a b _ _ => by rw [← hzv]; exact mixU_step U i v k a b
          have NB : Hid (Below w3.heap.size w3 (wr.setCell ⟨gd, i * 8 + k, none⟩ (.int .i64 z))) := HB.out.setCell HGD.out _
          have hz32 : z = -32768 := by rw [← hzv]; exact hvk.out k
          subst hz32
          clear hold hzv HD HB
          go_wp2

          go_roundw
          case rel => exact ⟨k + 1, by omega, by go_num, NXT.out, NB.out⟩
          case measure => simp [intOf]; omega
        · obtain rfl : k = 8 := by omega
          have NXT : Hid (DaB wr gd n (updF V0 ld F0 (r + 1))) := HD.out.congr fun a b _ hb => HEND.out a b hb
          go_wp2
          go_roundw
          case rel => exact ⟨r + 1, by omega, by go_num, NXT.out, HB.out⟩
          case measure => simp [intOf]; omega
    · obtain rfl : l = r := by omega
      have DA5 : Hid (DaB wr gd n F1) := by show DaB _ _ _ _; rw [← HF1.out]; exact HD.out
      have CEQ := Lib.hid (equationsOf_any (some ad) B C D (some ⟨gd, 0, none⟩) A5 n m l r0 n q ca cb cc cd cap c5 ps (listD n F1) ld ks wr (RB.out wr (HBW.out wr HB.out)) (RC.out wr (HBW.out wr HB.out)) DA5.out.toRd (R5.out.below HB.out) hl4 hlq hq4 hm4 hn12 HBN.out (fun k hk => by have := HLD.out k hk; omega) HKS.out HPS.out)
      obtain ⟨c0, c1, c2, c3⟩ := KEEP.out wr (HBW.out _ HB.out)
      have hgw : gd < wr.heap.size := DA5.out.lt
      clear HD
      go_wp2_with fail
      refine CEQ.out.mono ?_
      rintro e w6 ⟨g2, rfl, hE, hg2, hb⟩
      have DA6 : Hid (DaB w6 gd n F1) := DA5.out.later hb
      have B6 : Hid (Below w3.heap.size w3 w6) := HB.out.trans (hb.mono HB.out.size)
      have HG2 : Hid (gd < g2) := Nat.lt_of_lt_of_le hgw hg2
      have CSO := Lib.hid (solve_any g2 l _ w6 hl4 (eqM_bd l ld ks ps (listD n F1) n) hE)
      rw [HSE.out] at CSO
      clear hb hE hg2 hgw CEQ DA5 HB c0 c1 c2 c3
      go_wp2_with fail
      refine CSO.out.mono ?_
      rintro e w7 ⟨⟨_, rfl⟩, hS, hb⟩
      have EQ7 := Lib.hid hS
      have DA7 : Hid (DaB w7 gd n (updF V1 ld F1 0)) := DA6.out.below hb HG2.out
      have B7 : Hid (Below w3.heap.size w3 w7) := B6.out.trans (hb.mono (by have := HG2.out; have := HGD.out; omega))
      clear hb hS CSO DA6 B6
      obtain ⟨c0, c1, c2, c3⟩ := KEEP.out w7 (HBW.out _ B7.out)
      go_wp2
      clear c0 c1 c2 c3
      go_loopw [61] (fun i wr => ∃ r : Nat, r ≤ l ∧ i = .int .i64 r ∧ Hid (DaB wr gd n (updF V1 ld F1 r)) ∧ Hid (Below w3.heap.size w3 wr) ∧ Hid (EqB wr g2 l SE)) (fun i _ => l - (intOf i).toNat)
      case atStart => exact ⟨0, Nat.zero_le _, rfl, DA7.out, B7.out, EQ7.out⟩
      case round =>
        clear DA7 B7 EQ7
        obtain ⟨r, hrl, rfl, HD, HB, HQ⟩ := hrel
        by_cases hr : r < l
        · obtain ⟨ac, hac, _, hcc⟩ := (RC.out wr (HBW.out wr HB.out)).2 (by omega)
          have hlc := hcc r hr
          have hlb := HLD.out r hr
          clear hcc
          subst hac
          obtain ⟨iI, hiI⟩ : ∃ i, ld.getD r 0 = i := ⟨_, rfl⟩
          rw [hiI] at hlc hlb
          obtain ⟨i, rfl⟩ := Int.eq_ofNat_of_zero_le hlb.1
          have HI := Lib.hid hiI
          have hin : i < n := by omega
          have hinI : (i : Int) < (n : Int) := by omega
          have hrI : (r : Int) < (l : Int) := by omega
          obtain ⟨U, hU⟩ : ∃ U, updF V1 ld F1 r = U := ⟨_, rfl⟩
          obtain ⟨v, hv⟩ : ∃ v, V1 r = v := ⟨_, rfl⟩
          have HEND : Hid (∀ a b, b < 8 → mixU U i v 8 a b = updF V1 ld F1 (r + 1) a b) := fun a b hb => by rw [← hU, ← hv]; exact mixU_end V1 ld F1 r i a b HI.out hb
          have HD0 : Hid (DaB wr gd n (mixU U i v 0)) := by show DaB _ _ _ _; rw [mixU_zero, ← hU]; exact HD.out
          have q0 : wr.cell? ⟨g2, r * 12 + 4, none⟩ = some (.int .i64 (SE r 4)) := HQ.out.cell (r := r) (k := 4) hr (by omega)
          have q1 : wr.cell? ⟨g2, r * 12 + 4 + 1, none⟩ = some (.int .i64 (SE r 5)) := HQ.out.cell (r := r) (k := 5) hr (by omega)
          have q2 : wr.cell? ⟨g2, r * 12 + 4 + 2, none⟩ = some (.int .i64 (SE r 6)) := HQ.out.cell (r := r) (k := 6) hr (by omega)
          have q3 : wr.cell? ⟨g2, r * 12 + 4 + 3, none⟩ = some (.int .i64 (SE r 7)) := HQ.out.cell (r := r) (k := 7) hr (by omega)
          have q4 : wr.cell? ⟨g2, r * 12 + 4 + 4, none⟩ = some (.int .i64 (SE r 8)) := HQ.out.cell (r := r) (k := 8) hr (by omega)
          have q5 : wr.cell? ⟨g2, r * 12 + 4 + 5, none⟩ = some (.int .i64 (SE r 9)) := HQ.out.cell (r := r) (k := 9) hr (by omega)
          have q6 : wr.cell? ⟨g2, r * 12 + 4 + 6, none⟩ = some (.int .i64 (SE r 10)) := HQ.out.cell (r := r) (k := 10) hr (by omega)
          have q7 : wr.cell? ⟨g2, r * 12 + 4 + 7, none⟩ = some (.int .i64 (SE r 11)) := HQ.out.cell (r := r) (k := 11) hr (by omega)
          have hvv : ∀ k, v k = SE r (4 + k) - 32768 := fun k => by rw [← hv]; exact HV1.out r k
          have hsb : ∀ k, 0 ≤ SE r k ∧ SE r k ≤ 65536 := fun k => HSB.out r k
          have HIX : Hid (∀ k : Nat, k < 8 → ∀ W, (Instr.index 34 (.agg #[.int .i64 (SE r 4), .int .i64 (SE r 5), .int .i64 (SE r 6), .int .i64 (SE r 7), .int .i64 (SE r 8), .int .i64 (SE r 9), .int .i64 (SE r 10), .int .i64 (SE r 11)]) (.int .i64 (k : Int))).run Tryd.prog W = .ok (.int .i64 (SE r (4 + k))) W) := fun k hk W => by
            have := (is8_lit (SE r 4) (SE r 5) (SE r 6) (SE r 7) (SE r 8) (SE r 9) (SE r 10) (SE r 11)).ix k hk W
            rw [this]
            rcases (show k = 0 ∨ k = 1 ∨ k = 2 ∨ k = 3 ∨ k = 4 ∨ k = 5 ∨ k = 6 ∨ k = 7 by omega) with rfl | rfl | rfl | rfl | rfl | rfl | rfl | rfl <;> rfl
          have HVV := Lib.hid hvv
          have HSBR := Lib.hid hsb
          clear hvv hsb
          generalize hg0 : SE r 4 = x0 at q0 HIX
          generalize hg1 : SE r 5 = x1 at q1 HIX
          generalize hg2 : SE r 6 = x2 at q2 HIX
          generalize hg3 : SE r 7 = x3 at q3 HIX
          generalize hg4 : SE r 8 = x4 at q4 HIX
          generalize hg5 : SE r 9 = x5 at q5 HIX
          generalize hg6 : SE r 10 = x6 at q6 HIX
          generalize hg7 : SE r 11 = x7 at q7 HIX
          clear hg0 hg1 hg2 hg3 hg4 hg5 hg6 hg7
          clear hU hv hiI hlb HD
          go_wp2
          clear hlc q0 q1 q2 q3 q4 q5 q6 q7
          obtain ⟨wA, hwA⟩ : ∃ Z, Z = wr := ⟨_, rfl⟩
          subst hwA
          go_loopw [71] (fun i' wr => ∃ k : Nat, k ≤ 8 ∧ i' = .int .i64 k ∧ Hid (DaB wr gd n (mixU U i v k)) ∧ Hid (Below w3.heap.size w3 wr) ∧ Hid (EqB wr g2 l SE)) (fun i' _ => 8 - (intOf i').toNat)
          case atStart => exact ⟨0, Nat.zero_le _, rfl, HD0.out, HB.out, HQ.out⟩
          case round =>
            clear HD0 HB HQ
            obtain ⟨k, hk8, rfl, HD, HB, HQ⟩ := hrel
            by_cases hk : k < 8
            · have hkI : (k : Int) < 8 := by omega
              obtain ⟨old, hold⟩ : ∃ o, mixU U i v k i k = o := ⟨_, rfl⟩
              have hz : wr.cell? ⟨gd, i * 8 + k, none⟩ = some (.int .i64 old) := by rw [HD.out.cell hin hk, hold]
              have hf : wr.frozen? ⟨gd, i * 8 + k, none⟩ = false := HD.out.frozen _
              obtain ⟨z, hzv⟩ : ∃ z, v k = z := ⟨_, rfl⟩
              have NXT : Hid (DaB (wr.setCell ⟨gd, i * 8 + k, none⟩ (.int .i64 z)) gd n (mixU U i v (k + 1))) := (HD.out.set1 hin hk _).congr fun a b _ _ => by rw [← hzv]; exact mixU_step U i v k a b
              have NB : Hid (Below w3.heap.size w3 (wr.setCell ⟨gd, i * 8 + k, none⟩ (.int .i64 z))) := HB.out.setCell HGD.out _
              have NQ : Hid (EqB (wr.setCell ⟨gd, i * 8 + k, none⟩ (.int .i64 z)) g2 l SE) := HQ.out.far _ (by show g2 ≠ gd; have := HG2.out; omega) _
              have hix := HIX.out k hk
              have hy1 := HSBR.out (4 + k)
              have hy2 := HVV.out k
              rw [hzv] at hy2
              obtain ⟨y, hy⟩ : ∃ y, SE r (4 + k) = y := ⟨_, rfl⟩
              rw [hy] at hix hy1 hy2
              have hw1 : IntKind.i64.wrap (y - 32768) = z := by rw [hy2]; exact wrapQ _ (by omega) (by omega)
              have HZ2 := Lib.hid hy2
              clear hold hzv HD HB HQ hy hy1 hy2
              go_wp2
              try rw [← HZ2.out]
              go_roundw
              case rel => exact ⟨k + 1, by omega, by go_num, NXT.out, NB.out, NQ.out⟩
              case measure => simp [intOf]; omega
            · obtain rfl : k = 8 := by omega
              have NXT : Hid (DaB wr gd n (updF V1 ld F1 (r + 1))) := HD.out.congr fun a b _ hb => HEND.out a b hb
              go_wp2
              go_roundw
              case rel => exact ⟨r + 1, by omega, by go_num, NXT.out, HB.out, HQ.out⟩
              case measure => simp [intOf]; omega
        · obtain rfl : l = r := by omega
          have DA8 := Lib.hid HD.out.toRd
          rw [HRD.out] at DA8
          obtain ⟨DD, hDD⟩ : ∃ d, resD ds ps ld ks l n = d := ⟨_, rfl⟩
          rw [hDD] at DA8 HR
          have CEX := Lib.hid (explains_any (some ⟨gd, 0, none⟩) B A5 n m q cap cb c5 DD ps ks wr DA8.out (RB.out wr (HBW.out wr HB.out)) (R5.out.below HB.out) hn12 hm4 hq4 HKS.out)
          obtain ⟨b, hbb⟩ : ∃ b, expB DD ps n ks = b := ⟨_, rfl⟩
          rw [hbb] at CEX HR
          obtain ⟨c0, c1, c2, c3⟩ := KEEP.out wr (HBW.out _ HB.out)
          clear hDD hbb HD HQ
          go_wp2_with fail
          refine CEX.out.mono ?_
          rintro e w9 ⟨rfl, hb⟩
          have B9 : Hid (Below w3.heap.size w3 w9) := HB.out.trans (hb.mono HB.out.size)
          have R9 : Hid (RdD w9 (some ⟨gd, 0, none⟩) n DD) := DA8.out.below hb
          have BF : Hid (Below w.heap.size w w9) := HB1.out.trans ((HBW.out _ B9.out).mono HB1.out.size)
          clear hb CEX DA8 B9 HB c0 c1 c2 c3
          cases b with
          | false =>
            have HR2 : Hid (rstR n m l ds ps ld lp = ([], 13)) := by show _ = _; rw [HR.out]; rfl
            go_wp2
            go_ret2
            exact rstNil HR2.out BF.out
          | true =>
            have HR2 : Hid (rstR n m l ds ps ld lp = (DD, 0)) := by show _ = _; rw [HR.out]; rfl
            go_wp2
            go_ret2
            exact rstOk HR2.out R9.out.1 R9.out BF.out
theorem restored_any (A B C D : Option Addr) (n m l r0 ca cb cc cd : Nat) (ds ps : List (List Int)) (ld lp : List Int) (w : World) (hA : RdD w A n ds) (hB : RdD w B m ps) (hC : RdI w C l ld) (hD : RdI w D r0 lp) (hn : n ≤ 1000) (hm : m ≤ 1000) (hl : l ≤ 1000) (hr : r0 ≤ 1000) :
    Calls Tryd.prog 9 #[.agg #[.slice A n ca, .slice B m cb, .slice C l cc, .slice D r0 cd]] w (RstRes w (rstR n m l ds ps ld lp)) := by
  by_cases hE : grpE n m ds ps ld lp = 0
  · by_cases hq0 : (kepL lp m).length < l
    · exact rst_lost A B C D n m l r0 ca cb cc cd ds ps ld lp w hA hB hC hD hn hm hl hr hE hq0
    · exact rst_main A B C D n m l r0 ca cb cc cd ds ps ld lp w hA hB hC hD hn hm hl hr hE hq0
  · exact rst_err A B C D n m l r0 ca cb cc cd ds ps ld lp w hA hB hC hD hn hm hl hr hE
end Go.Proofs.YtjjflbnopphciabDoor

namespace Go.Proofs.YtjjflbnopphciabDoor
open Go.RowKit
open Go.Shelf

/-- Cell k of the parity j of the first i blocks. -/
def pk (ds : List (List Int)) (j : Int) (i k : Nat) : Int := (parP ds j (List.range i)).getD k 0
theorem pk_zero (ds : List (List Int)) (j : Int) (k : Nat) : pk ds j 0 k = 0 := by
  unfold pk parP zer8
  simp only [List.range_zero, List.foldl_nil]
  match k with
  | 0 => rfl
  | 1 => rfl
  | 2 => rfl
  | 3 => rfl
  | 4 => rfl
  | 5 => rfl
  | 6 => rfl
  | 7 => rfl
  | k + 8 => rfl
theorem pk_succ (ds : List (List Int)) (j : Int) (i k : Nat) (hk : k < 8) : pk ds j (i + 1) k = (pk ds j i k + invT (4 + (i : Int) - j) * (dc ds i k + 32768)) % 65537 := by
  unfold pk
  rw [List.range_succ, parP_snoc, addP_at _ _ _ _ _ hk, if_pos hk]
  unfold numL
  rw [numTo_at _ _ _ hk, if_pos hk]
  rfl
/-- The reference's parity while it is filled. -/
def stS (ds : List (List Int)) (j : Int) (n s i : Nat) : List Int := (List.range 8).map fun k => if k < s then pk ds j n k else if k = s then pk ds j i k else 0
theorem stS_length (ds : List (List Int)) (j : Int) (n s i : Nat) : (stS ds j n s i).length = 8 := by simp [stS]
theorem stS_at (ds : List (List Int)) (j : Int) (n s i k : Nat) (hk : k < 8) : (stS ds j n s i).getD k 0 = if k < s then pk ds j n k else if k = s then pk ds j i k else 0 := by
  simp [stS, List.getD_eq_getElem?_getD, hk]
theorem stS_zero (ds : List (List Int)) (j : Int) (n : Nat) : stS ds j n 0 0 = zer8 := by
  simp only [stS, pk_zero, Nat.not_lt_zero, if_false, ite_self]
  rfl
theorem stS_step (ds : List (List Int)) (j : Int) (n s i : Nat) (hs : s < 8) : (stS ds j n s i).set s (pk ds j (i + 1) s) = stS ds j n s (i + 1) := by
  apply List.ext_getElem (by simp [stS])
  intro q h1 h2
  have hq : q < 8 := by simpa [stS] using h2
  rw [List.getElem_set]
  by_cases e : s = q
  · subst e; simp [stS]
  · rw [if_neg e]
    simp only [stS, List.getElem_map, List.getElem_range]
    by_cases h : q < s
    · rw [if_pos h, if_pos h]
    · rw [if_neg h, if_neg h, if_neg (fun e' => e e'.symm), if_neg (fun e' => e e'.symm)]
theorem stS_next (ds : List (List Int)) (j : Int) (n s : Nat) : stS ds j n s n = stS ds j n (s + 1) 0 := by
  unfold stS
  refine List.map_congr_left fun k _ => ?_
  rw [pk_zero]
  by_cases h : k < s
  · rw [if_pos h, if_pos (by omega)]
  · rw [if_neg h]
    by_cases e : k = s
    · rw [if_pos e, if_pos (by omega)]
    · rw [if_neg e, if_neg (by omega)]; split <;> rfl
theorem stS_end (ds : List (List Int)) (j : Int) (n : Nat) : stS ds j n 8 0 = parP ds j (List.range n) := by
  apply List.ext_getElem (by rw [stS_length, parP_length])
  intro q h1 h2
  have hq : q < 8 := by simpa [stS] using h1
  simp only [stS, List.getElem_map, List.getElem_range, if_pos hq, pk, List.getD_eq_getElem?_getD, List.getElem?_eq_getElem h2, Option.getD_some]

set_option maxRecDepth 100000 in
set_option maxHeartbeats 4000000 in
theorem refParityOf_any (A : Option Addr) (n c : Nat) (ds : List (List Int)) (K : Nat) (w : World) (hr : RdD w A n ds) (hX : BndD ds) (hn : n ≤ 1000) (hK : K ≤ 4) :
    Calls Tryd.prog 45 #[.slice A n c, .int .i64 (K : Int)] w fun e w' => (∃ A3 c3, e = .returned (.slice A3 K c3) ∧ RdD w' A3 K (parL n ds K)) ∧ Below w.heap.size w w' := by
  have HR := Lib.hid hr
  have HX := Lib.hid hX
  obtain ⟨i0, hi0, hz0, hz1, hz2⟩ := info_parts arr8Info
  clear hr hX
  go_enter Tryd.func45, Tryd.ntmps45
  go_wp2
  go_loopw [5, 6, 7, 8, 9] (fun v i _ _ _ wr => ∃ j : Nat, j ≤ K ∧ i = .int .i64 j ∧ Hid (wr.ownsRow w.heap.size 34 8 v j (dCells (parL n ds j)) ∧ Below w.heap.size w wr)) (fun _ i _ _ _ _ => K - (intOf i).toNat)
  case atStart => exact ⟨0, Nat.zero_le _, rfl, World.ownsRow_nil _ _ _ _, Below.refl _ _⟩
  case round =>
    obtain ⟨j, hj, rfl, HI⟩ := hrel
    obtain ⟨Ac, ca, rfl, _⟩ := own_formT HI.out.1
    have hsz : w.heap.size ≤ wr.heap.size := HI.out.2.size
    by_cases hlt : j < K
    · have hjI : (j : Int) < (K : Int) := by omega
      obtain ⟨wA, hwA⟩ : ∃ X, X = wr := ⟨_, rfl⟩
      subst hwA
      obtain ⟨g, hg⟩ : ∃ g, wA.heap.size = g := ⟨_, rfl⟩
      obtain ⟨w2, hw2⟩ : ∃ X, wA.alloc (.cells zero8 34) = X := ⟨_, rfl⟩
      have hbk : Hid (Bk w2 g 34 (iArr (stS ds j n 0 0))) := by
        show Bk _ _ _ _
        rw [stS_zero, ← hw2, ← hg]
        exact Bk.new _ _ _
      have hb2 : Hid (Below g wA w2) := by show Below _ _ _; rw [← hw2, ← hg]; exact (Below.refl _ _).alloc (Nat.le_refl _) _
      have HG := Lib.hid hg
      have HW2 : Hid (wA.alloc (.cells #[.int .i64 0, .int .i64 0, .int .i64 0, .int .i64 0, .int .i64 0, .int .i64 0, .int .i64 0, .int .i64 0] 34) = w2) := hw2
      have HII := Lib.hid HI.out
      clear hw2 hg HI
      go_wp2
      rw [HW2.out]
      rw [HG.out]
      rw [HG.out] at hsz
      clear HW2
      go_loopw [8, 9] (fun i _ W => ∃ s : Nat, s ≤ 8 ∧ i = .int .i64 s ∧ Hid (Bk W g 34 (iArr (stS ds j n s 0))) ∧ Hid (Below g wA W)) (fun i _ _ => 8 - (intOf i).toNat)
      case atStart => exact ⟨0, Nat.zero_le _, rfl, hbk.out, hb2.out⟩
      case round =>
        clear hbk hb2
        obtain ⟨s, hs8, rfl, hbk, hbe⟩ := hrel
        by_cases hs : s < 8
        · have hsI : (s : Int) < 8 := by omega
          obtain ⟨wB, hwB⟩ : ∃ X, X = wr := ⟨_, rfl⟩
          subst hwB
          go_wp2
          go_loopw [9] (fun i W => ∃ m : Nat, m ≤ n ∧ i = .int .i64 m ∧ Hid (Bk W g 34 (iArr (stS ds j n s m))) ∧ Hid (Below g wA W)) (fun i _ => n - (intOf i).toNat)
          case atStart => exact ⟨0, Nat.zero_le _, rfl, hbk.out, hbe.out⟩
          case round =>
            clear hbk hbe
            obtain ⟨m, hm, rfl, hbk, hbe⟩ := hrel
            have hBW : Below w.heap.size w wr := HII.out.2.trans (hbe.out.mono hsz)
            by_cases hmn : m < n
            · have hmI : (m : Int) < (n : Int) := by omega
              obtain ⟨ad, rfl, hadl, hcx⟩ := (HR.out.below hBW).2.2 (by omega)
              have hck := hcx m s hmn hs
              have hxb := HX.out m s
              have hpb : 0 ≤ pk ds j m s ∧ pk ds j m s ≤ 65536 := parP_bd ds j (List.range m) s
              have hsu := pk_succ ds j m s hs
              have hold : wr.cell? ⟨g, s, none⟩ = some (.int .i64 (pk ds j m s)) := by
                rw [hbk.out.cell, iArr_at _ _ (by rw [stS_length]; exact hs), stS_at _ _ _ _ _ _ hs, if_neg (by omega), if_pos rfl]
              have hfr : wr.frozen? ⟨g, s, none⟩ = false := hbk.out.frozen _
              have hst := stS_step ds j n s m hs
              have hwt := invT_bd (4 + (m : Int) - j)
              have CF := Lib.hid (fun W => factor_any m j (by omega) (by omega) W)
              obtain ⟨x, hx⟩ : ∃ x, dc ds m s = x := ⟨_, rfl⟩
              obtain ⟨o, ho⟩ : ∃ o, pk ds j m s = o := ⟨_, rfl⟩
              obtain ⟨wt, hwtt⟩ : ∃ wt, invT (4 + (m : Int) - j) = wt := ⟨_, rfl⟩
              rw [hx] at hck hxb hsu
              rw [ho] at hpb hsu hold
              rw [hwtt] at hwt CF hsu
              have hmul := mul_bd2 wt (x + 32768) 65536 65535 hwt.1 (by omega) (by omega) (by omega)
              have t1 : (o + wt * (x + 32768)).tmod 65537 = (o + wt * (x + 32768)) % 65537 := Int.tmod_eq_emod_of_nonneg (by omega)
              rw [← hsu] at t1
              obtain ⟨z, hz⟩ : ∃ z, pk ds j (m + 1) s = z := ⟨_, rfl⟩
              rw [hz] at hst t1
              have v1 : IntKind.i64.wrap (x + 32768) = x + 32768 := IntWalk.i64_in _ (by omega)
              have v2 : IntKind.i64.wrap (wt * (x + 32768)) = wt * (x + 32768) := IntWalk.i64_in _ (by omega)
              have v3 : IntKind.i64.wrap (o + wt * (x + 32768)) = o + wt * (x + 32768) := IntWalk.i64_in _ (by omega)
              have FIN : Hid (Bk (wr.drew.setCell ⟨g, s, none⟩ (.int .i64 z)) g 34 (iArr (stS ds j n s (m + 1)))) := by
                show Bk _ _ _ _
                rw [← hst, ← iArr_set]
                exact hbk.out.drew.set_ _ _
              have FIB : Hid (Below g wA (wr.drew.setCell ⟨g, s, none⟩ (.int .i64 z))) := hbe.out.drew.setCell (Nat.le_refl _) _
              clear hx ho hwtt hz hst hsu hcx hbk hbe hBW hmul
              go_wp2_with fail
              go_still_tail 18, (by kernel_rfl)
              refine wpStill_step (fun K hK => ?_)
              go_simp
              refine ⟨_, (CF.out _).mono (fun e w'' h => ⟨h.1, h.2.symm⟩), hK _ ?_⟩
              clear hK K
              repeat still_step
              refine wpStill_nil ?_
              change wpList _ _ _ _ _ wr.drew
              have hold' : wr.drew.cell? ⟨g, s, none⟩ = some (.int .i64 o) := hold
              have hfr' : wr.drew.frozen? ⟨g, s, none⟩ = false := hfr
              clear hold hfr CF hck v1 v2 v3 t1
              generalize wr.drew = w9 at *
              go_wp2
              go_roundw
              case rel => exact ⟨m + 1, by omega, by go_num, FIN.out, FIB.out⟩
              case measure => simp [intOf]; omega
            · obtain rfl : n = m := by omega
              rw [stS_next] at hbk
              go_wp2
              go_roundw
              case rel => exact ⟨s + 1, by omega, by go_num, hbk.out, hbe.out⟩
              case measure => simp [intOf]; omega
        · obtain rfl : s = 8 := by omega
          rw [stS_end] at hbk
          have hp8 := parP_length ds j (List.range n)
          have hl8 := iArr8 _ hp8
          have hls := list8 _ hp8
          have hsu := parL_succ n ds j
          obtain ⟨pp, hpp⟩ : ∃ pp, parP ds (j : Int) (List.range n) = pp := ⟨_, rfl⟩
          rw [hpp] at hbk hl8 hls hsu
          rw [hls] at hsu
          rw [hl8] at hbk
          have HSU := Lib.hid hsu
          clear hpp hl8 hls hsu hp8
          have hsu2 := HSU.out
          have HS2 : Hid (dCells (parL n ds (j + 1)) = dCells (parL n ds j) ++ [.int .i64 (pp.getD 0 0), .int .i64 (pp.getD 1 0), .int .i64 (pp.getD 2 0), .int .i64 (pp.getD 3 0), .int .i64 (pp.getD 4 0), .int .i64 (pp.getD 5 0), .int .i64 (pp.getD 6 0), .int .i64 (pp.getD 7 0)]) := by
            show _ = _
            rw [hsu2, dCells_snoc]; rfl
          clear hsu2 HSU
          generalize pp.getD 0 0 = p0 at *
          generalize pp.getD 1 0 = p1 at *
          generalize pp.getD 2 0 = p2 at *
          generalize pp.getD 3 0 = p3 at *
          generalize pp.getD 4 0 = p4 at *
          generalize pp.getD 5 0 = p5 at *
          generalize pp.getD 6 0 = p6 at *
          generalize pp.getD 7 0 = p7 at *
          have e0 : wr.cell? ⟨g, 0, none⟩ = some (.int .i64 p0) := by rw [hbk.out.cell]; rfl
          have e1 : wr.cell? ⟨g, 1, none⟩ = some (.int .i64 p1) := by rw [hbk.out.cell]; rfl
          have e2 : wr.cell? ⟨g, 2, none⟩ = some (.int .i64 p2) := by rw [hbk.out.cell]; rfl
          have e3 : wr.cell? ⟨g, 3, none⟩ = some (.int .i64 p3) := by rw [hbk.out.cell]; rfl
          have e4 : wr.cell? ⟨g, 4, none⟩ = some (.int .i64 p4) := by rw [hbk.out.cell]; rfl
          have e5 : wr.cell? ⟨g, 5, none⟩ = some (.int .i64 p5) := by rw [hbk.out.cell]; rfl
          have e6 : wr.cell? ⟨g, 6, none⟩ = some (.int .i64 p6) := by rw [hbk.out.cell]; rfl
          have e7 : wr.cell? ⟨g, 7, none⟩ = some (.int .i64 p7) := by rw [hbk.out.cell]; rfl
          have hgl : g < wr.heap.size := hbk.out.lt
          have hoW : Hid (wr.ownsRow w.heap.size 34 8 (.slice Ac j ca) j (dCells (parL n ds j))) := ownBelowT HII.out.1 (by rw [HG.out]; exact hbe.out)
          have hsW : w.heap.size ≤ wr.heap.size := by have := hbe.out.size; have := HG.out; omega
          have HN8 : Hid (∀ i u, [.int .i64 p0, .int .i64 p1, .int .i64 p2, .int .i64 p3, .int .i64 p4, .int .i64 p5, .int .i64 p6, .int .i64 p7][i]? = some u → (wr.alloc (.cells #[.int .i64 p0, .int .i64 p1, .int .i64 p2, .int .i64 p3, .int .i64 p4, .int .i64 p5, .int .i64 p6, .int .i64 p7] 34)).cell? ((⟨wr.heap.size, 0, none⟩ : Addr).add i) = some u) := new11 wr #[.int .i64 p0, .int .i64 p1, .int .i64 p2, .int .i64 p3, .int .i64 p4, .int .i64 p5, .int .i64 p6, .int .i64 p7] 34
          go_wp2_with (at_builtin; refine wpList_append_own _ rfl (.tmp 43) (.tmp 45) 22 rfl w.heap.size 34 i0 _ 8 64 Tryd.underlying22 hi0 hz0 hz1 hz2 rfl (by decide) _ _ _ rfl (hoW.out.alloc _) ⟨wr.heap.size, 0, none⟩ 1 1 [.int .i64 p0, .int .i64 p1, .int .i64 p2, .int .i64 p3, .int .i64 p4, .int .i64 p5, .int .i64 p6, .int .i64 p7] rfl rfl HN8.out (by simp [Value.oneCell']) (by unfold maxLen; omega) (by omega) (by simp; omega) ?_)
          intro v' w6 hown' hgrow _
          have HFIN : Hid (w6.ownsRow w.heap.size 34 8 v' (j + 1) (dCells (parL n ds (j + 1))) ∧ Below w.heap.size w w6) := by
            refine ⟨?_, ((HII.out.2.trans (hbe.out.mono hsz)).alloc hsW _).grown hgrow (by simp; omega) (fun z e => (hoW.out.lt z e).1)⟩
            rw [HS2.out]
            exact hown'
          clear hown' hgrow
          go_wp2
          go_roundw
          case rel => exact ⟨j + 1, by omega, by go_num, HFIN.out⟩
          case measure => simp [intOf]; omega
    · obtain rfl : K = j := by omega
      have HRD := Lib.hid (RdD.of_own HI.out.1 (parL_length _ _ _) (parL_ok8 _ _ _))
      go_wp2
      go_ret
      exact ⟨⟨_, _, rfl, HRD.out⟩, HI.out.2⟩

end Go.Proofs.YtjjflbnopphciabDoor

namespace Go.Proofs.YtjjflbnopphciabDoor
open Go.RowKit

/-- The numbers below n that a test picks. -/
def lostL (bl : Nat → Bool) : Nat → List Int
  | 0 => []
  | n + 1 => if bl n then lostL bl n ++ [(n : Int)] else lostL bl n
theorem kepL_lostL (lost : List Int) (m : Nat) : kepL lost m = lostL (fun i => !hasB lost i) m := by
  induction m with
  | zero => rfl
  | succ m ih =>
    unfold kepL lostL
    rw [ih]
    cases hasB lost m <;> rfl
/-- Numbers that ascend beyond last, all from 0 to below count. -/
def AscI (count : Int) : Int → List Int → Prop
  | _, [] => True
  | last, x :: t => 0 ≤ x ∧ x < count ∧ last < x ∧ AscI count x t
theorem AscI.weak {count a b : Int} {xs : List Int} (h : AscI count a xs) (hb : b ≤ a) : AscI count b xs := by
  cases xs with
  | nil => trivial
  | cons x t => exact ⟨h.1, h.2.1, by have := h.2.2.1; omega, h.2.2.2⟩
theorem AscI.snoc {count last y : Int} {xs : List Int} (h : AscI count last xs) (h1 : ∀ x ∈ xs, x < y) (h2 : last < y) (h3 : 0 ≤ y) (h4 : y < count) : AscI count last (xs ++ [y]) := by
  induction xs generalizing last with
  | nil => exact ⟨h3, h4, h2, trivial⟩
  | cons x t ih => exact ⟨h.1, h.2.1, h.2.2.1, ih h.2.2.2 (fun z hz => h1 z (by simp [hz])) (h1 x (by simp))⟩
theorem AscI.filter {count last : Int} {xs : List Int} (h : AscI count last xs) (p : Int → Bool) : AscI count last (xs.filter p) := by
  induction xs generalizing last with
  | nil => trivial
  | cons x t ih =>
    rw [List.filter_cons]
    split
    · exact ⟨h.1, h.2.1, h.2.2.1, ih h.2.2.2⟩
    · exact (ih h.2.2.2).weak (by have := h.2.2.1; omega)
theorem AscI.take {count last : Int} {xs : List Int} (h : AscI count last xs) (k : Nat) : AscI count last (xs.take k) := by
  induction xs generalizing last k with
  | nil => simp [AscI]
  | cons x t ih =>
    cases k with
    | zero => trivial
    | succ k => exact ⟨h.1, h.2.1, h.2.2.1, ih h.2.2.2 k⟩
theorem AscI.nat {hi : Nat} {last : Int} {xs : List Int} (h : AscI hi last xs) (lo : Nat) (hl : (lo : Int) ≤ last + 1) : Asc hi lo (xs.map Int.toNat) := by
  induction xs generalizing last lo with
  | nil => trivial
  | cons x t ih =>
    obtain ⟨h0, h1, h2, h3⟩ := h
    exact ⟨by omega, by omega, ih h3 _ (by omega)⟩
theorem AscI.lostE {count last : Int} {xs : List Int} (h : AscI count last xs) : lostE count last xs = 0 := by
  induction xs generalizing last with
  | nil => rfl
  | cons x t ih =>
    obtain ⟨h0, h1, h2, h3⟩ := h
    have : ascE count last x = 0 := by
      unfold ascE
      rw [decide_eq_false (show ¬ x < 0 by omega), decide_eq_false (show ¬ count ≤ x by omega), if_neg (by decide), if_neg (by omega)]
    show (if ascE count last x = 0 then Go.Proofs.YtjjflbnopphciabDoor.lostE count x t else ascE count last x) = 0
    rw [if_pos this]; exact ih h3
theorem AscI.mono {c d last : Int} {xs : List Int} (h : AscI c last xs) (hd : c ≤ d) : AscI d last xs := by
  induction xs generalizing last with
  | nil => trivial
  | cons x t ih => exact ⟨h.1, by have := h.2.1; omega, h.2.2.1, ih h.2.2.2⟩
theorem lostL_mem (bl : Nat → Bool) (n : Nat) (x : Int) : x ∈ lostL bl n ↔ 0 ≤ x ∧ x < n ∧ bl x.toNat = true := by
  induction n with
  | zero => simp [lostL]; omega
  | succ n ih =>
    unfold lostL
    by_cases h : bl n = true
    · rw [if_pos h, List.mem_append, List.mem_singleton, ih]
      constructor
      · rintro (⟨a, b, c⟩ | rfl)
        · exact ⟨a, by omega, c⟩
        · exact ⟨by omega, by omega, by rw [Int.toNat_natCast]; exact h⟩
      · rintro ⟨a, b, c⟩
        by_cases e : x = n
        · exact .inr e
        · exact .inl ⟨a, by omega, c⟩
    · rw [if_neg h, ih]
      constructor
      · rintro ⟨a, b, c⟩; exact ⟨a, by omega, c⟩
      · rintro ⟨a, b, c⟩
        refine ⟨a, ?_, c⟩
        by_cases e : x = n
        · subst e; rw [Int.toNat_natCast] at c; exact absurd c h
        · omega
theorem lostL_asc (bl : Nat → Bool) (n c : Nat) (h : n ≤ c) : AscI c (-1) (lostL bl n) := by
  induction n with
  | zero => trivial
  | succ n ih =>
    unfold lostL
    split
    · exact (ih (by omega)).snoc (fun x hx => by have := (lostL_mem bl n x).1 hx; omega) (by omega) (by omega) (by omega)
    · exact ih (by omega)
theorem lostL_has (bl : Nat → Bool) (n i : Nat) (hi : i < n) : hasB (lostL bl n) i = bl i := by
  apply Bool.eq_iff_iff.2
  rw [hasB_mem, lostL_mem, Int.toNat_natCast]
  exact ⟨fun h => h.2.2, fun h => ⟨by omega, by omega, h⟩⟩
theorem kepL_asc (lost : List Int) (m c : Nat) (h : m ≤ c) : AscI c (-1) (kepL lost m) := by rw [kepL_lostL]; exact lostL_asc _ m c h
theorem lostL_len (bl : Nat → Bool) (n : Nat) : (lostL bl n).length ≤ n := by
  induction n with
  | zero => simp [lostL]
  | succ n ih =>
    unfold lostL
    split
    · rw [List.length_append, List.length_singleton]; omega
    · omega
/-- A sum over those that are picked. -/
theorem sum_lost (bl : Nat → Bool) (f : Nat → Int) (n : Nat) : smF (fun i => if bl i then f i else 0) n = smF (fun r => f ((lostL bl n).getD r 0).toNat) (lostL bl n).length := by
  induction n with
  | zero => rfl
  | succ n ih =>
    show smF _ n + _ = _
    rw [ih]
    by_cases h : bl n = true
    · have e : lostL bl (n + 1) = lostL bl n ++ [(n : Int)] := by show (if bl n then _ else _) = _; rw [if_pos h]
      rw [e, List.length_append, List.length_singleton]
      show _ = smF _ (lostL bl n).length + _
      congr 1
      · exact smF_congr fun k hk => by rw [List.getD_eq_getElem?_getD, List.getD_eq_getElem?_getD, List.getElem?_append_left hk]
      · dsimp only
        rw [if_pos h, List.getD_eq_getElem?_getD, List.getElem?_append_right (Nat.le_refl _)]
        simp
    · have e : lostL bl (n + 1) = lostL bl n := by show (if bl n then _ else _) = _; rw [if_neg h]
      rw [e]
      dsimp only
      rw [if_neg h]; omega
/-- What is written at an index that is among the numbers. -/
theorem updF_at (V : Nat → Nat → Int) (ld : List Int) (F : Nat → Nat → Int) (l : Nat) (count : Int) (h : AscI count (-1) ld) (hl : l ≤ ld.length) (i k : Nat) :
    (∀ r, r < l → ld.getD r 0 = (i : Int) → updF V ld F l i k = V r k) ∧ ((∀ r, r < l → ld.getD r 0 ≠ (i : Int)) → updF V ld F l i k = F i k) := by
  have inj : ∀ (xs : List Int) (last : Int), AscI count last xs → ∀ a b, a < b → b < xs.length → xs.getD a 0 < xs.getD b 0 := by
    intro xs
    induction xs with
    | nil => intro last _ a b _ hb; simp at hb
    | cons x t ih =>
      intro last ha a b hab hb
      cases b with
      | zero => omega
      | succ b =>
        have hall : ∀ (ys : List Int) (z : Int), AscI count z ys → ∀ j, j < ys.length → z < ys.getD j 0 := by
          intro ys
          induction ys with
          | nil => intro z _ j hj; simp at hj
          | cons y u ihu =>
            intro z hz j hj
            cases j with
            | zero => simpa using hz.2.2.1
            | succ j =>
              have := ihu y hz.2.2.2 j (by simpa using hj)
              have h2 := hz.2.2.1
              simp at this ⊢
              omega
        cases a with
        | zero => simpa using hall t x ha.2.2.2 b (by simpa using hb)
        | succ a => simpa using ih x ha.2.2.2 a b (by omega) (by simpa using hb)
  induction l with
  | zero => exact ⟨fun r hr => by omega, fun _ => rfl⟩
  | succ l ih =>
    obtain ⟨i1, i2⟩ := ih (by omega)
    refine ⟨fun r hr he => ?_, fun hn => ?_⟩
    · show (if (i : Int) = ld.getD l 0 then V l k else updF V ld F l i k) = _
      by_cases e : r = l
      · subst e; rw [if_pos he.symm]
      · have := inj ld (-1) h r l (by omega) (by omega)
        rw [if_neg (by omega)]
        exact i1 r (by omega) he
    · show (if (i : Int) = ld.getD l 0 then V l k else updF V ld F l i k) = _
      rw [if_neg fun e => hn l (by omega) e.symm]
      exact i2 fun r hr => hn r (by omega)
theorem rangesE_of {xs : List Int} {lo hi : Int} (h : ∀ k, k < xs.length → lo ≤ xs.getD k 0 ∧ xs.getD k 0 ≤ hi) : rangesE xs lo hi = 0 := by
  induction xs with
  | nil => rfl
  | cons x t ih =>
    unfold rangesE
    simp only [List.map_cons, firstE]
    have e : rangeE x lo hi = 0 := (rangeE_zero _ _ _).2 (by simpa using h 0 (by simp))
    rw [if_pos e]
    exact ih fun k hk => by simpa using h (k + 1) (by simpa using hk)
theorem dataE_row {ds : List (List Int)} (h : dataE ds = 0) (i : Nat) (hi : i < ds.length) : rangesE (ds.getD i []) (-32767) 32767 = 0 := by
  induction ds generalizing i with
  | nil => simp at hi
  | cons x t ih =>
    unfold dataE at h
    simp only [List.map_cons, firstE] at h
    by_cases e : rangesE x (-32767) 32767 = 0
    · rw [if_pos e] at h
      cases i with
      | zero => exact e
      | succ i => simpa using ih h i (by simpa using hi)
    · rw [if_neg e] at h; exact absurd h e
theorem rowsE_zero {ds : List (List Int)} {lo hi : Int} {ks : List Int} (h : ∀ x ∈ ks, rangesE (ds.getD x.toNat []) lo hi = 0) : rowsE ds lo hi ks = 0 := by
  unfold rowsE
  induction ks with
  | nil => rfl
  | cons y t ih =>
    simp only [List.map_cons, firstE]
    rw [if_pos (h y (by simp))]
    exact ih fun x hx => h x (by simp [hx])
theorem listD_dcs {ds : List (List Int)} {n : Nat} (h8 : Ok8 ds) (hn : ds.length = n) : listD n (dc ds) = ds := by
  apply List.ext_getElem (by rw [listD_len, hn])
  intro i h1 h2
  have e : (listD n (dc ds)).getD i [] = ds.getD i [] := by
    rw [listD_at n _ i (by omega)]
    have := list8 _ (h8 i h2)
    rw [this]; rfl
  rw [List.getD_eq_getElem?_getD, List.getElem?_eq_getElem h1, List.getD_eq_getElem?_getD, List.getElem?_eq_getElem h2] at e
  exact e
theorem dc_row {a b : List (List Int)} {i : Nat} (h : a.getD i [] = b.getD i []) (k : Nat) : dc a i k = dc b i k := by unfold dc; rw [h]
theorem cg_eq {a b : Int} (h : Cg a b) (h0 : 0 ≤ a ∧ a ≤ 65536) (h1 : 0 ≤ b ∧ b ≤ 65536) : a = b := by unfold Cg at h; omega
/-- A parity's number as a sum. -/
theorem pk_cg (ds : List (List Int)) (j : Int) (n k : Nat) (hk : k < 8) : Cg (pk ds j n k) (smF (fun i => invT (4 + (i : Int) - j) * (dc ds i k + 32768)) n) := by
  induction n with
  | zero => rw [pk_zero]; rfl
  | succ n ih =>
    rw [pk_succ ds j n k hk]
    exact (Cg.mod _).trans (ih.add (Cg.refl _))
/-- What is given: data and their parities, and the same data and parities but for what is lost. -/
structure GrpIn (n K : Nat) (ds ds' ps' : List (List Int)) (bl bp : Nat → Bool) : Prop where
  h8 : Ok8 ds
  len : ds.length = n
  smp : dataE ds = 0
  n12 : n ≤ 12
  n1 : 1 ≤ n
  k4 : K ≤ 4
  k1 : 1 ≤ K
  h8' : Ok8 ds'
  len' : ds'.length = n
  same : ∀ i, i < n → bl i = false → ds'.getD i [] = ds.getD i []
  h8p : Ok8 ps'
  lenp : ps'.length = K
theorem parP_rng (ds : List (List Int)) (j : Int) (q : List Nat) : rangesE (parP ds j q) 0 65536 = 0 := rangesE_of fun k _ => parP_bd ds j q k
theorem grp_zero {n K : Nat} {ds ds' ps' : List (List Int)} {bl bp : Nat → Bool} (g : GrpIn n K ds ds' ps' bl bp) (hp : ∀ j, j < K → bp j = false → rangesE (ps'.getD j []) 0 65536 = 0) : grpE n K ds' ps' (lostL bl n) (lostL bp K) = 0 := by
  have e1 : grp1E n K (lostL bl n) (lostL bp K) = 0 := by
    unfold grp1E
    rw [decide_eq_false (show ¬ n = 0 by have := g.n1; omega), decide_eq_false (show ¬ K = 0 by have := g.k1; omega), decide_eq_false (show ¬ 12 < n by have := g.n12; omega), decide_eq_false (show ¬ 4 < K by have := g.k4; omega), (lostL_asc bl n n (Nat.le_refl _)).lostE, (lostL_asc bp K K (Nat.le_refl _)).lostE]
    rfl
  have e2 : rowsE ds' (-32767) 32767 (kepL (lostL bl n) n) = 0 := rowsE_zero fun x hx => by
    obtain ⟨h0, h1, h2⟩ := (kepL_mem _ n x).1 hx
    obtain ⟨i, rfl⟩ := Int.eq_ofNat_of_zero_le h0
    rw [lostL_has bl n i (by omega)] at h2
    rw [Int.toNat_natCast, g.same i (by omega) h2]
    exact dataE_row g.smp i (by rw [g.len]; omega)
  have e3 : rowsE ps' 0 65536 (kepL (lostL bp K) K) = 0 := rowsE_zero fun x hx => by
    obtain ⟨h0, h1, h2⟩ := (kepL_mem _ K x).1 hx
    obtain ⟨j, rfl⟩ := Int.eq_ofNat_of_zero_le h0
    rw [lostL_has bp K j (by omega)] at h2
    rw [Int.toNat_natCast]; exact hp j (by omega) h2
  unfold grpE
  rw [if_pos e1, e2, e3]; rfl
/-- A difference of two parities' numbers, where data differ only where they are lost. -/
theorem par_diff (ds dd : List (List Int)) (bl : Nat → Bool) (n k : Nat) (hk : k < 8) (j : Int) (h : ∀ i, i < n → bl i = false → dc dd i k = dc ds i k) :
    Cg (pk ds j n k - pk dd j n k) (smF (fun r => invT (4 + (lostL bl n).getD r 0 - j) * (dc ds ((lostL bl n).getD r 0).toNat k - dc dd ((lostL bl n).getD r 0).toNat k)) (lostL bl n).length) := by
  refine ((pk_cg ds j n k hk).sub (pk_cg dd j n k hk)).trans ?_
  rw [← smF_sub]
  have e : smF (fun i => invT (4 + (i : Int) - j) * (dc ds i k + 32768) - invT (4 + (i : Int) - j) * (dc dd i k + 32768)) n = smF (fun i => if bl i then invT (4 + (i : Int) - j) * (dc ds i k - dc dd i k) else 0) n := smF_congr fun i hi => by
    rw [← Int.mul_sub]
    cases hb : bl i with
    | true => rw [if_pos rfl]; congr 1; omega
    | false => rw [h i hi hb, if_neg (by decide), Int.sub_self, Int.mul_zero]
  rw [e, sum_lost bl (fun i => invT (4 + (i : Int) - j) * (dc ds i k - dc dd i k)) n]
  have e2 : smF (fun r => (fun i : Nat => invT (4 + (i : Int) - j) * (dc ds i k - dc dd i k)) ((lostL bl n).getD r 0).toNat) (lostL bl n).length = smF (fun r => invT (4 + (lostL bl n).getD r 0 - j) * (dc ds ((lostL bl n).getD r 0).toNat k - dc dd ((lostL bl n).getD r 0).toNat k)) (lostL bl n).length := smF_congr fun r hr => by
    have hm := (lostL_mem bl n _).1 (getD_mem' (lostL bl n) r hr)
    dsimp only
    rw [Int.toNat_of_nonneg hm.1]
  rw [e2]
  exact Cg.refl _
theorem map_toNat_getD (xs : List Int) (k : Nat) (h : ∀ x ∈ xs, 0 ≤ x) : ((xs.map Int.toNat).getD k 0 : Int) = xs.getD k 0 := by
  by_cases hk : k < xs.length
  · have := h _ (getD_mem' xs k hk)
    have e : (xs.map Int.toNat).getD k 0 = (xs.getD k 0).toNat := by
      rw [List.getD_eq_getElem?_getD, List.getElem?_map, List.getElem?_eq_getElem hk, List.getD_eq_getElem?_getD, List.getElem?_eq_getElem hk]; rfl
    rw [e, Int.toNat_of_nonneg this]
  · rw [List.getD_eq_getElem?_getD, List.getElem?_eq_none (by simp; omega), List.getD_eq_getElem?_getD, List.getElem?_eq_none (by omega)]; rfl
theorem AscI.nonneg {count last : Int} {xs : List Int} (h : AscI count last xs) : ∀ x ∈ xs, 0 ≤ x := by
  induction xs generalizing last with
  | nil => intro x hx; cases hx
  | cons y t ih =>
    intro x hx
    rcases List.mem_cons.1 hx with rfl | hx
    · exact h.1
    · exact ih h.2.2.2 x hx
/-- What the cleared data are. -/
theorem clr_at {n K : Nat} {ds ds' ps' : List (List Int)} {bl bp : Nat → Bool} (g : GrpIn n K ds ds' ps' bl bp) (i k : Nat) (hi : i < n) : clrD ds' (lostL bl n) (lostL bl n).length n i k = if bl i then -32768 else dc ds i k := by
  unfold clrD
  rw [updF_const _ _ _ _ _ _ (Nat.le_refl _), List.take_length, lostL_has bl n i hi]
  cases hb : bl i with
  | true => rfl
  | false => rw [if_neg (by decide), if_neg (by decide)]; exact dc_row (g.same i hi hb) k
/-- Restored data at a block that is kept. -/
theorem res_kept {n K : Nat} {ds ds' ps' : List (List Int)} {bl bp : Nat → Bool} (g : GrpIn n K ds ds' ps' bl bp) (ks : List Int) (i k : Nat) (hi : i < n) (hb : bl i = false) : resF ds' ps' (lostL bl n) ks (lostL bl n).length n i k = dc ds i k := by
  unfold resF
  have := (updF_at (fun r k => solE ds' ps' (lostL bl n) ks (lostL bl n).length n r (4 + k) - 32768) (lostL bl n) (clrD ds' (lostL bl n) (lostL bl n).length n) (lostL bl n).length n (lostL_asc bl n n (Nat.le_refl _)) (Nat.le_refl _) i k).2 (fun r hr e => by
    have := (lostL_mem bl n _).1 (getD_mem' (lostL bl n) r hr)
    rw [e, Int.toNat_natCast, hb] at this
    exact absurd this.2.2 (by decide))
  rw [this, clr_at g i k hi, hb]; rfl
theorem res_lost {ds' ps' : List (List Int)} {bl : Nat → Bool} (ks : List Int) (n r i k : Nat) (hr : r < (lostL bl n).length) (he : (lostL bl n).getD r 0 = (i : Int)) : resF ds' ps' (lostL bl n) ks (lostL bl n).length n i k = solE ds' ps' (lostL bl n) ks (lostL bl n).length n r (4 + k) - 32768 :=
  (updF_at (fun r k => solE ds' ps' (lostL bl n) ks (lostL bl n).length n r (4 + k) - 32768) (lostL bl n) (clrD ds' (lostL bl n) (lostL bl n).length n) (lostL bl n).length n (lostL_asc bl n n (Nat.le_refl _)) (Nat.le_refl _) i k).1 r hr he

set_option maxHeartbeats 1000000 in
/-- All data are restored. -/
theorem res_all {n K : Nat} {ds ds' ps' : List (List Int)} {bl bp : Nat → Bool} (g : GrpIn n K ds ds' ps' bl bp) (hp : ∀ j, j < K → bp j = false → ps'.getD j [] = parP ds (j : Int) (List.range n)) (hq : (lostL bl n).length ≤ (kepL (lostL bp K) K).length) :
    resD ds' ps' (lostL bl n) (kepL (lostL bp K) K) (lostL bl n).length n = ds := by
  obtain ⟨ks, hks⟩ : ∃ ks, kepL (lostL bp K) K = ks := ⟨_, rfl⟩
  have hka : AscI K (-1) ks := by rw [← hks]; exact kepL_asc _ K K (Nat.le_refl _)
  have hkl : ks.length ≤ K := by rw [← hks]; exact kepL_len _ _
  have hkm : ∀ r, r < ks.length → 0 ≤ ks.getD r 0 ∧ ks.getD r 0 < K ∧ bp (ks.getD r 0).toNat = false := fun r hr => by
    have := (kepL_mem (lostL bp K) K (ks.getD r 0)).1 (by rw [hks]; exact getD_mem' ks r hr)
    obtain ⟨h0, h1, h2⟩ := this
    obtain ⟨j, hj⟩ := Int.eq_ofNat_of_zero_le h0
    rw [hj] at h2 h1 ⊢
    rw [lostL_has bp K j (by omega)] at h2
    exact ⟨by omega, h1, by rw [Int.toNat_natCast]; exact h2⟩
  rw [hks] at hq ⊢
  obtain ⟨l, hl⟩ : ∃ l, (lostL bl n).length = l := ⟨_, rfl⟩
  have hl4 : l ≤ 4 := by have := g.k4; omega
  unfold resD
  refine Eq.trans (listD_congr fun i k hi hk => ?_) (listD_dcs g.h8 g.len)
  cases hb : bl i with
  | false => exact res_kept g ks i k hi hb
  | true =>
    have hmem : (i : Int) ∈ lostL bl n := (lostL_mem bl n i).2 ⟨by omega, by omega, by rw [Int.toNat_natCast]; exact hb⟩
    obtain ⟨r, hr, he⟩ := List.getElem_of_mem hmem
    have he' : (lostL bl n).getD r 0 = (i : Int) := by rw [List.getD_eq_getElem?_getD, List.getElem?_eq_getElem hr]; exact he
    rw [res_lost ks n r i k hr he']
    have hbd := dataE_bnd g.smp i k
    have hbd2 : -32767 ≤ dc ds i k := (ranges_at (dataE_row g.smp i (by rw [g.len]; exact hi)) k (by rw [g.h8 i (by rw [g.len]; exact hi)]; exact hk)).1
    have key : Cg (dc ds i k + 32768) (solE ds' ps' (lostL bl n) ks (lostL bl n).length n r (4 + k)) := by
      unfold solE
      rw [hl]
      have hW := wt_solved ((lostL bl n).map Int.toNat) ((ks.take l).map Int.toNat) l (((lostL_asc bl n n (Nat.le_refl _)).mono (by have := g.n12; omega : (n : Int) ≤ (12 : Nat))).nat 0 (by omega)) (((hka.take l).mono (by have := g.k4; omega : (K : Int) ≤ (4 : Nat))).nat 0 (by omega)) (by simp [hl]) (by simp; omega) hl4
        (eqM l (lostL bl n) ks ps' (listD n (clrD ds' (lostL bl n) l n)) n) (fun r k hr hk => by
          unfold eqM wtF
          rw [if_pos (by omega), if_pos hk, map_toNat_getD _ _ (lostL_asc bl n n (Nat.le_refl _)).nonneg, map_toNat_getD _ _ (hka.take l).nonneg]
          congr 2
          rw [List.getD_eq_getElem?_getD, List.getD_eq_getElem?_getD, List.getElem?_take, if_pos hr])
        (fun r => dc ds ((lostL bl n).getD r 0).toNat k + 32768) (4 + k) (fun r hr => ?_) r (by omega)
      · have e : ((lostL bl n).getD r 0).toNat = i := by rw [he', Int.toNat_natCast]
        (try dsimp only at hW)
        rw [e] at hW
        exact hW
      · obtain ⟨k0, k1, k2⟩ := hkm r (by omega)
        have hM : eqM l (lostL bl n) ks ps' (listD n (clrD ds' (lostL bl n) l n)) n r (4 + k) = (pk ds (ks.getD r 0) n k - pk (listD n (clrD ds' (lostL bl n) l n)) (ks.getD r 0) n k) % 65537 := by
          unfold eqM
          rw [if_neg (by omega), Nat.add_sub_cancel_left]
          have : dc ps' (ks.getD r 0).toNat k = pk ds (ks.getD r 0) n k := by
            unfold dc pk
            rw [hp _ (by omega) k2, Int.toNat_of_nonneg k0]
          rw [this]; rfl
        rw [hM]
        refine Cg.trans ?_ (Cg.mod _).symm
        refine Cg.trans ?_ (par_diff ds (listD n (clrD ds' (lostL bl n) l n)) bl n k hk (ks.getD r 0) (fun a ha hba => by
          rw [listD_dc n _ a k ha hk, ← hl, clr_at g a k ha, hba]; rfl)).symm
        rw [hl]
        have e : smF (fun k_1 => eqM l (lostL bl n) ks ps' (listD n (clrD ds' (lostL bl n) l n)) n r k_1 * (dc ds ((lostL bl n).getD k_1 0).toNat k + 32768)) l = smF (fun q => invT (4 + (lostL bl n).getD q 0 - ks.getD r 0) * (dc ds ((lostL bl n).getD q 0).toNat k - dc (listD n (clrD ds' (lostL bl n) l n)) ((lostL bl n).getD q 0).toNat k)) l := smF_congr fun q hq2 => by
          have hm := (lostL_mem bl n _).1 (getD_mem' (lostL bl n) q (by omega))
          have h1 : eqM l (lostL bl n) ks ps' (listD n (clrD ds' (lostL bl n) l n)) n r q = invT (4 + (lostL bl n).getD q 0 - ks.getD r 0) := by
            unfold eqM; rw [if_pos (by omega), if_pos hq2]
          have h2 : dc (listD n (clrD ds' (lostL bl n) l n)) ((lostL bl n).getD q 0).toNat k = -32768 := by
            rw [listD_dc n _ _ k (by omega) hk, ← hl, clr_at g _ k (by omega), hm.2.2]; rfl
          rw [h1, h2]; congr 1
        rw [e]
        exact Cg.refl _
    have hsb := sol_bd ds' ps' (lostL bl n) ks (lostL bl n).length n r (4 + k)
    have := cg_eq key ⟨by omega, by omega⟩ hsb
    omega
/-- What Restored answers where the parities are those of the data. -/
theorem rst_good {n K : Nat} {ds ds' ps' : List (List Int)} {bl bp : Nat → Bool} (g : GrpIn n K ds ds' ps' bl bp) (hp : ∀ j, j < K → bp j = false → ps'.getD j [] = parP ds (j : Int) (List.range n)) :
    rstR n K (lostL bl n).length ds' ps' (lostL bl n) (lostL bp K) = if (kepL (lostL bp K) K).length < (lostL bl n).length then ([], 28) else (ds, 0) := by
  have hz := grp_zero g (fun j hj hb => by rw [hp j hj hb]; exact parP_rng _ _ _)
  unfold rstR
  rw [if_pos hz]
  by_cases h : (kepL (lostL bp K) K).length < (lostL bl n).length
  · rw [if_pos h, if_pos h]
  · rw [if_neg h, if_neg h, res_all g hp (by omega)]
    have : expB ds ps' n (kepL (lostL bp K) K) = true := by
      unfold expB
      rw [decide_eq_true g.smp, Bool.true_and, List.all_eq_true]
      intro x hx
      obtain ⟨h0, h1, h2⟩ := (kepL_mem _ K x).1 hx
      obtain ⟨j, rfl⟩ := Int.eq_ofNat_of_zero_le h0
      rw [lostL_has bp K j (by omega)] at h2
      unfold parOk
      rw [Int.toNat_natCast, hp j (by omega) h2]
      exact decide_eq_true rfl
    rw [if_pos this]
end Go.Proofs.YtjjflbnopphciabDoor

namespace Go.Proofs.YtjjflbnopphciabDoor
open Go.RowKit

theorem Bk.laterE {w w' : World} {g : Nat} {t : TypeId} {cs : Array Value} (h : Bk w g t cs) (hb : Below w.heap.size w w') : Bk w' g t cs := h.below hb h.lt
theorem firstE_02 (l : List Int) (h : ∀ x ∈ l, x = 0 ∨ x = 2) : firstE l = 0 ∨ firstE l = 2 := by
  induction l with
  | nil => exact .inl rfl
  | cons x t ih =>
    unfold firstE
    split
    · exact ih fun y hy => h y (by simp [hy])
    · exact h x (by simp)
theorem firstE_hit (l : List Int) (h : ∀ x ∈ l, x = 0 ∨ x = 2) (x : Int) (hx : x ∈ l) (h0 : x ≠ 0) : firstE l = 2 := by
  induction l with
  | nil => cases hx
  | cons y t ih =>
    unfold firstE
    split
    · rename_i e
      rcases List.mem_cons.1 hx with rfl | h1
      · exact absurd e h0
      · exact ih (fun z hz => h z (by simp [hz])) h1
    · rename_i e
      exact (h y (by simp)).resolve_left e
theorem rangesE_02 (xs : List Int) (lo hi : Int) : rangesE xs lo hi = 0 ∨ rangesE xs lo hi = 2 := firstE_02 _ fun x hx => by
  obtain ⟨y, _, rfl⟩ := List.mem_map.1 hx
  unfold rangeE
  split
  · exact .inl rfl
  · exact .inr rfl
theorem rowsE_hit (ds : List (List Int)) (lo hi : Int) (ks : List Int) (x : Int) (hx : x ∈ ks) (h0 : rangesE (ds.getD x.toNat []) lo hi ≠ 0) : rowsE ds lo hi ks = 2 :=
  firstE_hit _ (fun y hy => by obtain ⟨z, _, rfl⟩ := List.mem_map.1 hy; exact rangesE_02 _ _ _) _ (List.mem_map.2 ⟨x, hx, rfl⟩) h0
theorem rowsE_02 (ds : List (List Int)) (lo hi : Int) (ks : List Int) : rowsE ds lo hi ks = 0 ∨ rowsE ds lo hi ks = 2 :=
  firstE_02 _ fun y hy => by obtain ⟨z, _, rfl⟩ := List.mem_map.1 hy; exact rangesE_02 _ _ _
theorem kep_in {lost : List Int} {m i : Nat} (hi : i < m) (h : hasB lost i = false) : (i : Int) ∈ kepL lost m := (kepL_mem lost m i).2 ⟨by omega, by omega, h⟩
/-- A bad block of data that is kept. -/
theorem grp_dbad {n m : Nat} {ds ps : List (List Int)} {ld lp : List Int} (h : grp1E n m ld lp = 0) {i : Nat} (hi : i < n) (hk : hasB ld i = false) (hb : rangesE (ds.getD i []) (-32767) 32767 ≠ 0) : grpE n m ds ps ld lp = 2 := by
  unfold grpE
  rw [if_pos h, rowsE_hit ds _ _ _ (i : Int) (kep_in hi hk) (by rw [Int.toNat_natCast]; exact hb)]
  rfl
theorem grp_pbad {n m : Nat} {ds ps : List (List Int)} {ld lp : List Int} (h : grp1E n m ld lp = 0) {i : Nat} (hi : i < m) (hk : hasB lp i = false) {s : Nat} (hs : s < (ps.getD i []).length) (hb : inB ((ps.getD i []).getD s 0) 0 65536 = false) : grpE n m ds ps ld lp = 2 := by
  have h1 : rangesE (ps.getD i []) 0 65536 ≠ 0 := fun e => by
    have h2 := firstE_hit ((ps.getD i []).map fun x => rangeE x 0 65536) (fun x hx => by
      obtain ⟨y, _, rfl⟩ := List.mem_map.1 hx
      unfold rangeE
      split
      · exact .inl rfl
      · exact .inr rfl) 2 (List.mem_map.2 ⟨(ps.getD i []).getD s 0, getD_mem' _ s hs, by unfold rangeE; rw [hb]; rfl⟩) (by omega)
    unfold rangesE at e
    omega
  unfold grpE
  rw [if_pos h, rowsE_hit ps _ _ _ (i : Int) (kep_in hi hk) (by rw [Int.toNat_natCast]; exact h1)]
  rcases rowsE_02 ds (-32767) 32767 (kepL ld n) with e | e <;> rw [e] <;> rfl
theorem grp_fine {n m : Nat} {ds ps : List (List Int)} {ld lp : List Int} (h : grp1E n m ld lp = 0) (h8 : Ok8 ps) (hpl : ps.length = m) (h1 : ∀ i, i < n → hasB ld i = false → rangesE (ds.getD i []) (-32767) 32767 = 0) (h2 : ∀ i, i < m → hasB lp i = false → ∀ s, s < 8 → inB ((ps.getD i []).getD s 0) 0 65536 = true) : grpE n m ds ps ld lp = 0 := by
  unfold grpE
  rw [if_pos h, rowsE_zero fun x hx => ?_, rowsE_zero fun x hx => ?_]
  · rfl
  · obtain ⟨h0, hm, hb⟩ := (kepL_mem lp m x).1 hx
    obtain ⟨i, rfl⟩ := Int.eq_ofNat_of_zero_le h0
    rw [Int.toNat_natCast]
    refine rangesE_of fun s hs => ?_
    rw [h8 i (by omega)] at hs
    have := h2 i (by omega) hb s hs
    simpa [inB] using this
  · obtain ⟨h0, hm, hb⟩ := (kepL_mem ld n x).1 hx
    obtain ⟨i, rfl⟩ := Int.eq_ofNat_of_zero_le h0
    rw [Int.toNat_natCast]
    exact h1 i (by omega) hb
set_option maxRecDepth 100000 in
set_option maxHeartbeats 8000000 in
theorem ge_n0 (A B C D : Option Addr) (n m l r ca cb cc cd : Nat) (ds ps : List (List Int)) (ld lp : List Int) (w : World) (hA : RdD w A n ds) (hB : RdD w B m ps) (hC : RdI w C l ld) (hD : RdI w D r lp) (hl : l ≤ 1000000) (hr : r ≤ 1000000) (h0 : n = 0) :
    Calls Tryd.prog 14 #[.agg #[.slice A n ca, .slice B m cb, .slice C l cc, .slice D r cd]] w fun e w' => e = .returned (.int .i64 (grpE n m ds ps ld lp)) ∧ Below w.heap.size w w' := by
  have HV : Hid (grpE n m ds ps ld lp = 10) := by
    show _ = _
    have h1 : grp1E n m ld lp = 10 := by
      unfold grp1E
      simp [firstE, whenE, h0]
    unfold grpE
    rw [h1, if_neg (by decide)]
  have h0b : ((n : Int) == 0) = true := by simp; omega
  clear h0
  obtain ⟨w1, hw1⟩ : ∃ W, (w.alloc (.cells #[.slice A n ca, .slice B m cb, .slice C l cc, .slice D r cd] 33)) = W := ⟨_, rfl⟩
  have b1 : Below w.heap.size w w1 := by rw [← hw1]; exact (Below.refl _ _).alloc (Nat.le_refl _) _
  have X1 : Hid (Bk w1 w.heap.size 33 #[.slice A n ca, .slice B m cb, .slice C l cc, .slice D r cd]) := by show Bk _ _ _ _; rw [← hw1]; exact Bk.new _ _ _
  have B1 := Lib.hid b1
  have HW1 := Lib.hid hw1
  have RA := Lib.hid (hA.below b1)
  have RB := Lib.hid (hB.below b1)
  have RC := Lib.hid (hC.below b1)
  have RD := Lib.hid (hD.below b1)
  clear b1 hw1 hA hB hC hD
  go_enter Tryd.func14, Tryd.ntmps14
  go_upto_region 1 with fail
  rw [show (w.alloc (.cells #[.slice A n ca, .slice B m cb, .slice C l cc, .slice D r cd] 33)) = w1 from HW1.out]
  clear HW1
  obtain ⟨x0, x1, x2, x3⟩ := bk4 X1.out
  go_wp2
  go_ret
  exact ⟨by rw [HV.out]; rfl, B1.out⟩
set_option maxRecDepth 100000 in
set_option maxHeartbeats 8000000 in
theorem ge_m0 (A B C D : Option Addr) (n m l r ca cb cc cd : Nat) (ds ps : List (List Int)) (ld lp : List Int) (w : World) (hA : RdD w A n ds) (hB : RdD w B m ps) (hC : RdI w C l ld) (hD : RdI w D r lp) (hl : l ≤ 1000000) (hr : r ≤ 1000000) (h0 : ¬ n = 0) (h1 : m = 0) :
    Calls Tryd.prog 14 #[.agg #[.slice A n ca, .slice B m cb, .slice C l cc, .slice D r cd]] w fun e w' => e = .returned (.int .i64 (grpE n m ds ps ld lp)) ∧ Below w.heap.size w w' := by
  have HV : Hid (grpE n m ds ps ld lp = 10) := by
    show _ = _
    have h1 : grp1E n m ld lp = 10 := by
      unfold grp1E
      simp [firstE, whenE, h0, h1]
    unfold grpE
    rw [h1, if_neg (by decide)]
  have h0b : ((n : Int) == 0) = false := by simp; omega
  have h1b : ((m : Int) == 0) = true := by simp; omega
  clear h0 h1
  obtain ⟨w1, hw1⟩ : ∃ W, (w.alloc (.cells #[.slice A n ca, .slice B m cb, .slice C l cc, .slice D r cd] 33)) = W := ⟨_, rfl⟩
  have b1 : Below w.heap.size w w1 := by rw [← hw1]; exact (Below.refl _ _).alloc (Nat.le_refl _) _
  have X1 : Hid (Bk w1 w.heap.size 33 #[.slice A n ca, .slice B m cb, .slice C l cc, .slice D r cd]) := by show Bk _ _ _ _; rw [← hw1]; exact Bk.new _ _ _
  have B1 := Lib.hid b1
  have HW1 := Lib.hid hw1
  have RA := Lib.hid (hA.below b1)
  have RB := Lib.hid (hB.below b1)
  have RC := Lib.hid (hC.below b1)
  have RD := Lib.hid (hD.below b1)
  clear b1 hw1 hA hB hC hD
  go_enter Tryd.func14, Tryd.ntmps14
  go_upto_region 1 with fail
  rw [show (w.alloc (.cells #[.slice A n ca, .slice B m cb, .slice C l cc, .slice D r cd] 33)) = w1 from HW1.out]
  clear HW1
  obtain ⟨x0, x1, x2, x3⟩ := bk4 X1.out
  go_wp2
  go_ret
  exact ⟨by rw [HV.out]; rfl, B1.out⟩
set_option maxRecDepth 100000 in
set_option maxHeartbeats 8000000 in
theorem ge_nl (A B C D : Option Addr) (n m l r ca cb cc cd : Nat) (ds ps : List (List Int)) (ld lp : List Int) (w : World) (hA : RdD w A n ds) (hB : RdD w B m ps) (hC : RdI w C l ld) (hD : RdI w D r lp) (hl : l ≤ 1000000) (hr : r ≤ 1000000) (h0 : ¬ n = 0) (h1 : ¬ m = 0) (h2 : 12 < n) :
    Calls Tryd.prog 14 #[.agg #[.slice A n ca, .slice B m cb, .slice C l cc, .slice D r cd]] w fun e w' => e = .returned (.int .i64 (grpE n m ds ps ld lp)) ∧ Below w.heap.size w w' := by
  have HV : Hid (grpE n m ds ps ld lp = 8) := by
    show _ = _
    have h1 : grp1E n m ld lp = 8 := by
      unfold grp1E
      simp [firstE, whenE, h0, h1, h2]
    unfold grpE
    rw [h1, if_neg (by decide)]
  have h0b : ((n : Int) == 0) = false := by simp; omega
  have h1b : ((m : Int) == 0) = false := by simp; omega
  have h2I : (12 : Int) < (n : Int) := by omega
  obtain ⟨w1, hw1⟩ : ∃ W, (w.alloc (.cells #[.slice A n ca, .slice B m cb, .slice C l cc, .slice D r cd] 33)) = W := ⟨_, rfl⟩
  have b1 : Below w.heap.size w w1 := by rw [← hw1]; exact (Below.refl _ _).alloc (Nat.le_refl _) _
  have X1 : Hid (Bk w1 w.heap.size 33 #[.slice A n ca, .slice B m cb, .slice C l cc, .slice D r cd]) := by show Bk _ _ _ _; rw [← hw1]; exact Bk.new _ _ _
  have B1 := Lib.hid b1
  have HW1 := Lib.hid hw1
  have RA := Lib.hid (hA.below b1)
  have RB := Lib.hid (hB.below b1)
  have RC := Lib.hid (hC.below b1)
  have RD := Lib.hid (hD.below b1)
  clear b1 hw1 hA hB hC hD
  go_enter Tryd.func14, Tryd.ntmps14
  go_upto_region 1 with fail
  rw [show (w.alloc (.cells #[.slice A n ca, .slice B m cb, .slice C l cc, .slice D r cd] 33)) = w1 from HW1.out]
  clear HW1
  obtain ⟨x0, x1, x2, x3⟩ := bk4 X1.out
  go_wp2
  go_ret
  exact ⟨by rw [HV.out]; rfl, B1.out⟩
set_option maxRecDepth 100000 in
set_option maxHeartbeats 8000000 in
theorem ge_ml (A B C D : Option Addr) (n m l r ca cb cc cd : Nat) (ds ps : List (List Int)) (ld lp : List Int) (w : World) (hA : RdD w A n ds) (hB : RdD w B m ps) (hC : RdI w C l ld) (hD : RdI w D r lp) (hl : l ≤ 1000000) (hr : r ≤ 1000000) (h0 : ¬ n = 0) (h1 : ¬ m = 0) (h2 : ¬ 12 < n) (h3 : 4 < m) :
    Calls Tryd.prog 14 #[.agg #[.slice A n ca, .slice B m cb, .slice C l cc, .slice D r cd]] w fun e w' => e = .returned (.int .i64 (grpE n m ds ps ld lp)) ∧ Below w.heap.size w w' := by
  have HV : Hid (grpE n m ds ps ld lp = 8) := by
    show _ = _
    have h1 : grp1E n m ld lp = 8 := by
      unfold grp1E
      simp [firstE, whenE, h0, h1, h2, h3]
    unfold grpE
    rw [h1, if_neg (by decide)]
  have h0b : ((n : Int) == 0) = false := by simp; omega
  have h1b : ((m : Int) == 0) = false := by simp; omega
  have h2I : ¬ (12 : Int) < (n : Int) := by omega
  have h3I : (4 : Int) < (m : Int) := by omega
  obtain ⟨w1, hw1⟩ : ∃ W, (w.alloc (.cells #[.slice A n ca, .slice B m cb, .slice C l cc, .slice D r cd] 33)) = W := ⟨_, rfl⟩
  have b1 : Below w.heap.size w w1 := by rw [← hw1]; exact (Below.refl _ _).alloc (Nat.le_refl _) _
  have X1 : Hid (Bk w1 w.heap.size 33 #[.slice A n ca, .slice B m cb, .slice C l cc, .slice D r cd]) := by show Bk _ _ _ _; rw [← hw1]; exact Bk.new _ _ _
  have B1 := Lib.hid b1
  have HW1 := Lib.hid hw1
  have RA := Lib.hid (hA.below b1)
  have RB := Lib.hid (hB.below b1)
  have RC := Lib.hid (hC.below b1)
  have RD := Lib.hid (hD.below b1)
  clear b1 hw1 hA hB hC hD
  go_enter Tryd.func14, Tryd.ntmps14
  go_upto_region 1 with fail
  rw [show (w.alloc (.cells #[.slice A n ca, .slice B m cb, .slice C l cc, .slice D r cd] 33)) = w1 from HW1.out]
  clear HW1
  obtain ⟨x0, x1, x2, x3⟩ := bk4 X1.out
  go_wp2
  go_ret
  exact ⟨by rw [HV.out]; rfl, B1.out⟩
set_option maxRecDepth 100000 in
set_option maxHeartbeats 8000000 in
theorem ge_ld (A B C D : Option Addr) (n m l r ca cb cc cd : Nat) (ds ps : List (List Int)) (ld lp : List Int) (w : World) (hA : RdD w A n ds) (hB : RdD w B m ps) (hC : RdI w C l ld) (hD : RdI w D r lp) (hl : l ≤ 1000000) (hr : r ≤ 1000000) (h0 : ¬ n = 0) (h1 : ¬ m = 0) (h2 : ¬ 12 < n) (h3 : ¬ 4 < m) (h4' : lostE n (-1) ld ≠ 0) :
    Calls Tryd.prog 14 #[.agg #[.slice A n ca, .slice B m cb, .slice C l cc, .slice D r cd]] w fun e w' => e = .returned (.int .i64 (grpE n m ds ps ld lp)) ∧ Below w.heap.size w w' := by
  obtain ⟨E, hE⟩ : ∃ E, lostE n (-1) ld = E := ⟨_, rfl⟩
  have h4 : E ≠ 0 := by rw [← hE]; exact h4'
  have HV : Hid (grpE n m ds ps ld lp = E) := by
    show _ = _
    have h1 : grp1E n m ld lp = E := by
      unfold grp1E
      simp [firstE, whenE, h0, h1, h2, h3, hE, h4]
    unfold grpE
    rw [h1, if_neg h4]
  have CL : Hid (∀ W, RdI W C l ld → Calls Tryd.prog 36 #[.slice C l cc, .int .i64 n] W fun e w' => e = .returned (.int .i64 E) ∧ Below W.heap.size W w') := fun W h => by rw [← hE]; exact lostErr_any C l cc ld n W h hl (by omega)
  have h4b : (E != 0) = true := by simpa using h4
  clear hE h4'
  obtain ⟨w1, hw1⟩ : ∃ W, (w.alloc (.cells #[.slice A n ca, .slice B m cb, .slice C l cc, .slice D r cd] 33)) = W := ⟨_, rfl⟩
  have b1 : Below w.heap.size w w1 := by rw [← hw1]; exact (Below.refl _ _).alloc (Nat.le_refl _) _
  have X1 : Hid (Bk w1 w.heap.size 33 #[.slice A n ca, .slice B m cb, .slice C l cc, .slice D r cd]) := by show Bk _ _ _ _; rw [← hw1]; exact Bk.new _ _ _
  have B1 := Lib.hid b1
  have HW1 := Lib.hid hw1
  have RA := Lib.hid (hA.below b1)
  have RB := Lib.hid (hB.below b1)
  have RC := Lib.hid (hC.below b1)
  have RD := Lib.hid (hD.below b1)
  clear b1 hw1 hA hB hC hD
  go_enter Tryd.func14, Tryd.ntmps14
  go_upto_region 1 with fail
  rw [show (w.alloc (.cells #[.slice A n ca, .slice B m cb, .slice C l cc, .slice D r cd] 33)) = w1 from HW1.out]
  clear HW1
  obtain ⟨x0, x1, x2, x3⟩ := bk4 X1.out
  have h0b : ((n : Int) == 0) = false := by simp; omega
  have h1b : ((m : Int) == 0) = false := by simp; omega
  have h2I : ¬ (12 : Int) < (n : Int) := by omega
  have h3I : ¬ (4 : Int) < (m : Int) := by omega
  go_wp2_with fail
  refine (CL.out w1 RC.out).mono ?_
  rintro e w2 ⟨rfl, hb⟩
  clear CL
  have X2 : Hid (Bk w2 w.heap.size 33 #[.slice A n ca, .slice B m cb, .slice C l cc, .slice D r cd]) := X1.out.laterE hb
  have B2 := Lib.hid (B1.out.trans (hb.mono B1.out.size))
  have RA2 := Lib.hid (RA.out.below hb)
  have RB2 := Lib.hid (RB.out.below hb)
  have RC2 := Lib.hid (RC.out.below hb)
  have RD2 := Lib.hid (RD.out.below hb)
  clear hb x0 x1 x2 x3 X1 B1 RA RB RC RD
  obtain ⟨x0, x1, x2, x3⟩ := bk4 X2.out
  go_wp2
  go_ret
  exact ⟨by rw [HV.out]; rfl, B2.out⟩
set_option maxRecDepth 100000 in
set_option maxHeartbeats 8000000 in
theorem ge_lp (A B C D : Option Addr) (n m l r ca cb cc cd : Nat) (ds ps : List (List Int)) (ld lp : List Int) (w : World) (hA : RdD w A n ds) (hB : RdD w B m ps) (hC : RdI w C l ld) (hD : RdI w D r lp) (hl : l ≤ 1000000) (hr : r ≤ 1000000) (h0 : ¬ n = 0) (h1 : ¬ m = 0) (h2 : ¬ 12 < n) (h3 : ¬ 4 < m) (h5 : lostE n (-1) ld = 0) (h4' : lostE m (-1) lp ≠ 0) :
    Calls Tryd.prog 14 #[.agg #[.slice A n ca, .slice B m cb, .slice C l cc, .slice D r cd]] w fun e w' => e = .returned (.int .i64 (grpE n m ds ps ld lp)) ∧ Below w.heap.size w w' := by
  obtain ⟨E, hE⟩ : ∃ E, lostE m (-1) lp = E := ⟨_, rfl⟩
  have h4 : E ≠ 0 := by rw [← hE]; exact h4'
  have HV : Hid (grpE n m ds ps ld lp = E) := by
    show _ = _
    have h1 : grp1E n m ld lp = E := by
      unfold grp1E
      simp [firstE, whenE, h0, h1, h2, h3, h5, hE, h4]
    unfold grpE
    rw [h1, if_neg h4]
  have CL : Hid (∀ W, RdI W C l ld → Calls Tryd.prog 36 #[.slice C l cc, .int .i64 n] W fun e w' => e = .returned (.int .i64 0) ∧ Below W.heap.size W w') := fun W h => by rw [← h5]; exact lostErr_any C l cc ld n W h hl (by omega)
  have CP : Hid (∀ W, RdI W D r lp → Calls Tryd.prog 36 #[.slice D r cd, .int .i64 m] W fun e w' => e = .returned (.int .i64 E) ∧ Below W.heap.size W w') := fun W h => by rw [← hE]; exact lostErr_any D r cd lp m W h hr (by omega)
  have h4b : (E != 0) = true := by simpa using h4
  clear hE h4' h5
  obtain ⟨w1, hw1⟩ : ∃ W, (w.alloc (.cells #[.slice A n ca, .slice B m cb, .slice C l cc, .slice D r cd] 33)) = W := ⟨_, rfl⟩
  have b1 : Below w.heap.size w w1 := by rw [← hw1]; exact (Below.refl _ _).alloc (Nat.le_refl _) _
  have X1 : Hid (Bk w1 w.heap.size 33 #[.slice A n ca, .slice B m cb, .slice C l cc, .slice D r cd]) := by show Bk _ _ _ _; rw [← hw1]; exact Bk.new _ _ _
  have B1 := Lib.hid b1
  have HW1 := Lib.hid hw1
  have RA := Lib.hid (hA.below b1)
  have RB := Lib.hid (hB.below b1)
  have RC := Lib.hid (hC.below b1)
  have RD := Lib.hid (hD.below b1)
  clear b1 hw1 hA hB hC hD
  go_enter Tryd.func14, Tryd.ntmps14
  go_upto_region 1 with fail
  rw [show (w.alloc (.cells #[.slice A n ca, .slice B m cb, .slice C l cc, .slice D r cd] 33)) = w1 from HW1.out]
  clear HW1
  obtain ⟨x0, x1, x2, x3⟩ := bk4 X1.out
  have h0b : ((n : Int) == 0) = false := by simp; omega
  have h1b : ((m : Int) == 0) = false := by simp; omega
  have h2I : ¬ (12 : Int) < (n : Int) := by omega
  have h3I : ¬ (4 : Int) < (m : Int) := by omega
  go_wp2_with fail
  refine (CL.out w1 RC.out).mono ?_
  rintro e w2 ⟨rfl, hb⟩
  clear CL
  have X2 : Hid (Bk w2 w.heap.size 33 #[.slice A n ca, .slice B m cb, .slice C l cc, .slice D r cd]) := X1.out.laterE hb
  have B2 := Lib.hid (B1.out.trans (hb.mono B1.out.size))
  have RA2 := Lib.hid (RA.out.below hb)
  have RB2 := Lib.hid (RB.out.below hb)
  have RC2 := Lib.hid (RC.out.below hb)
  have RD2 := Lib.hid (RD.out.below hb)
  clear hb x0 x1 x2 x3 X1 B1 RA RB RC RD
  obtain ⟨x0, x1, x2, x3⟩ := bk4 X2.out
  go_wp2_with fail
  refine (CP.out w2 RD2.out).mono ?_
  rintro e w3 ⟨rfl, hb⟩
  clear CP
  have X3 : Hid (Bk w3 w.heap.size 33 #[.slice A n ca, .slice B m cb, .slice C l cc, .slice D r cd]) := X2.out.laterE hb
  have B3 := Lib.hid (B2.out.trans (hb.mono B2.out.size))
  have RA3 := Lib.hid (RA2.out.below hb)
  have RB3 := Lib.hid (RB2.out.below hb)
  have RC3 := Lib.hid (RC2.out.below hb)
  have RD3 := Lib.hid (RD2.out.below hb)
  clear hb x0 x1 x2 x3 X2 B2 RA2 RB2 RC2 RD2
  obtain ⟨x0, x1, x2, x3⟩ := bk4 X3.out
  go_wp2
  go_ret
  exact ⟨by rw [HV.out]; rfl, B3.out⟩
set_option maxRecDepth 100000 in
set_option maxHeartbeats 8000000 in
theorem ge_main (A B C D : Option Addr) (n m l r ca cb cc cd : Nat) (ds ps : List (List Int)) (ld lp : List Int) (w : World) (hA : RdD w A n ds) (hB : RdD w B m ps) (hC : RdI w C l ld) (hD : RdI w D r lp) (hl : l ≤ 1000000) (hr : r ≤ 1000000) (h0 : ¬ n = 0) (h1 : ¬ m = 0) (h2 : ¬ 12 < n) (h3 : ¬ 4 < m) (h5 : lostE n (-1) ld = 0) (h4 : lostE m (-1) lp = 0) :
    Calls Tryd.prog 14 #[.agg #[.slice A n ca, .slice B m cb, .slice C l cc, .slice D r cd]] w fun e w' => e = .returned (.int .i64 (grpE n m ds ps ld lp)) ∧ Below w.heap.size w w' := by
  have HG1 : Hid (grp1E n m ld lp = 0) := by
    show _ = _
    unfold grp1E
    simp [firstE, whenE, h0, h1, h2, h3, h5, h4]
  have CL : Hid (∀ W, RdI W C l ld → Calls Tryd.prog 36 #[.slice C l cc, .int .i64 n] W fun e w' => e = .returned (.int .i64 0) ∧ Below W.heap.size W w') := fun W h => by rw [← h5]; exact lostErr_any C l cc ld n W h hl (by omega)
  have CP : Hid (∀ W, RdI W D r lp → Calls Tryd.prog 36 #[.slice D r cd, .int .i64 m] W fun e w' => e = .returned (.int .i64 0) ∧ Below W.heap.size W w') := fun W h => by rw [← h4]; exact lostErr_any D r cd lp m W h hr (by omega)
  clear h4 h5
  obtain ⟨w1, hw1⟩ : ∃ W, (w.alloc (.cells #[.slice A n ca, .slice B m cb, .slice C l cc, .slice D r cd] 33)) = W := ⟨_, rfl⟩
  have b1 : Below w.heap.size w w1 := by rw [← hw1]; exact (Below.refl _ _).alloc (Nat.le_refl _) _
  have X1 : Hid (Bk w1 w.heap.size 33 #[.slice A n ca, .slice B m cb, .slice C l cc, .slice D r cd]) := by show Bk _ _ _ _; rw [← hw1]; exact Bk.new _ _ _
  have B1 := Lib.hid b1
  have HW1 := Lib.hid hw1
  have RA := Lib.hid (hA.below b1)
  have RB := Lib.hid (hB.below b1)
  have RC := Lib.hid (hC.below b1)
  have RD := Lib.hid (hD.below b1)
  clear b1 hw1 hA hB hC hD
  go_enter Tryd.func14, Tryd.ntmps14
  go_upto_region 1 with fail
  rw [show (w.alloc (.cells #[.slice A n ca, .slice B m cb, .slice C l cc, .slice D r cd] 33)) = w1 from HW1.out]
  clear HW1
  obtain ⟨x0, x1, x2, x3⟩ := bk4 X1.out
  have h0b : ((n : Int) == 0) = false := by simp; omega
  have h1b : ((m : Int) == 0) = false := by simp; omega
  have h2I : ¬ (12 : Int) < (n : Int) := by omega
  have h3I : ¬ (4 : Int) < (m : Int) := by omega
  go_wp2_with fail
  refine (CL.out w1 RC.out).mono ?_
  rintro e w2 ⟨rfl, hb⟩
  clear CL
  have X2 : Hid (Bk w2 w.heap.size 33 #[.slice A n ca, .slice B m cb, .slice C l cc, .slice D r cd]) := X1.out.laterE hb
  have B2 := Lib.hid (B1.out.trans (hb.mono B1.out.size))
  have RA2 := Lib.hid (RA.out.below hb)
  have RB2 := Lib.hid (RB.out.below hb)
  have RC2 := Lib.hid (RC.out.below hb)
  have RD2 := Lib.hid (RD.out.below hb)
  clear hb x0 x1 x2 x3 X1 B1 RA RB RC RD
  obtain ⟨x0, x1, x2, x3⟩ := bk4 X2.out
  go_wp2_with fail
  refine (CP.out w2 RD2.out).mono ?_
  rintro e w3 ⟨rfl, hb⟩
  clear CP
  have X3 : Hid (Bk w3 w.heap.size 33 #[.slice A n ca, .slice B m cb, .slice C l cc, .slice D r cd]) := X2.out.laterE hb
  have B3 := Lib.hid (B2.out.trans (hb.mono B2.out.size))
  have RA3 := Lib.hid (RA2.out.below hb)
  have RB3 := Lib.hid (RB2.out.below hb)
  have RC3 := Lib.hid (RC2.out.below hb)
  have RD3 := Lib.hid (RD2.out.below hb)
  clear hb x0 x1 x2 x3 X2 B2 RA2 RB2 RC2 RD2
  obtain ⟨x0, x1, x2, x3⟩ := bk4 X3.out
  have H8 := Lib.hid RB3.out.2.1
  have HPL := Lib.hid RB3.out.1
  clear x0 x1 x2 x3
  obtain ⟨y0, y1, y2, y3⟩ := bk4 X3.out
  go_upto_region 12 with fail
  clear y0 y1 y2 y3
  go_loopw [5] (fun i wr => ∃ k : Nat, k ≤ n ∧ i = .int .i64 k ∧ Hid (∀ j, j < k → hasB ld (j : Int) = false → rangesE (ds.getD j []) (-32767) 32767 = 0) ∧ Hid (Below w3.heap.size w3 wr)) (fun i _ => n - (intOf i).toNat)
  case atStart => exact ⟨0, Nat.zero_le _, rfl, (fun j hj => absurd hj (by omega)), Below.refl _ _⟩
  case round =>
    obtain ⟨k, hk, rfl, HI, HB⟩ := hrel
    obtain ⟨x0, x1, x2, x3⟩ := bk4 (X3.out.laterE HB.out)
    by_cases hlt : k < n
    · have hkI : (k : Int) < (n : Int) := by omega
      obtain ⟨hb0, hhb⟩ : ∃ b, hasB ld (k : Int) = b := ⟨_, rfl⟩
      have CH : Hid (∀ W, RdI W C l ld → Calls Tryd.prog 37 #[.slice C l cc, .int .i64 k] W fun e w' => e = .returned (.bool hb0) ∧ W = w') := fun W h => by rw [← hhb]; exact has_any C l cc ld k W h hl
      have RCR := Lib.hid (RC3.out.below HB.out)
      cases hb0 with
      | true =>
        have HH := Lib.hid hhb
        clear hhb
        go_wp2_with fail
        refine (CH.out _ RCR.out).mono ?_
        rintro e w' ⟨rfl, rfl⟩
        go_wp2
        go_roundw
        case rel => exact ⟨k + 1, by omega, by go_num, (fun j hj hh => by
          by_cases e : j = k
          · subst e; rw [HH.out] at hh; cases hh
          · exact HI.out j (by omega) hh), HB.out⟩
        case measure => simp [intOf]; omega
      | false =>
        obtain ⟨ad, z0, z1, z2, z3, z4, z5, z6, z7, rfl, hbl, hrow, p0, p1, p2, p3, p4, p5, p6, p7⟩ := (RA3.out.below HB.out).row hlt
        obtain ⟨q, hq⟩ : ∃ q, rangesE [z0, z1, z2, z3, z4, z5, z6, z7] (-32767) 32767 = q := ⟨_, rfl⟩
        have CS : Hid (∀ W, Calls Tryd.prog 23 #[.agg #[.int .i64 z0, .int .i64 z1, .int .i64 z2, .int .i64 z3, .int .i64 z4, .int .i64 z5, .int .i64 z6, .int .i64 z7]] W fun e w' => e = .returned (.int .i64 q) ∧ Below W.heap.size W w') := fun W => by rw [← hq]; exact samplesErr_any _ _ W (is8_lit z0 z1 z2 z3 z4 z5 z6 z7)
        have HR : Hid (rangesE (ds.getD k []) (-32767) 32767 = q) := by show _ = _; rw [hrow, hq]
        have HH := Lib.hid hhb
        clear hhb hrow hq
        by_cases hq0 : q = 0
        · subst hq0
          go_wp2_with fail
          refine (CH.out _ RCR.out).mono ?_
          rintro e w' ⟨rfl, rfl⟩
          go_wp2_with fail
          refine (CS.out _).mono ?_
          rintro e w' ⟨rfl, hb⟩
          have NB := Lib.hid (HB.out.trans (hb.mono HB.out.size))
          clear hb
          go_wp2
          go_roundw
          case rel => exact ⟨k + 1, by omega, by go_num, (fun j hj hh => by
            by_cases e : j = k
            · subst e; exact HR.out
            · exact HI.out j (by omega) hh), NB.out⟩
          case measure => simp [intOf]; omega
        · have hqb : (q != 0) = true := by simpa using hq0
          have HV : Hid (grpE n m ds ps ld lp = 2) := grp_dbad HG1.out hlt HH.out (by rw [HR.out]; exact hq0)
          go_wp2_with fail
          refine (CH.out _ RCR.out).mono ?_
          rintro e w' ⟨rfl, rfl⟩
          go_wp2_with fail
          refine (CS.out _).mono ?_
          rintro e w' ⟨rfl, hb⟩
          have NB := Lib.hid (HB.out.trans (hb.mono HB.out.size))
          clear hb
          go_wp2
          go_ret
          exact ⟨by rw [HV.out]; rfl, B3.out.trans (NB.out.mono B3.out.size)⟩
    · obtain rfl : n = k := by omega
      have HI1 := Lib.hid HI.out
      have hsz : w3.heap.size ≤ wr.heap.size := HB.out.size
      have X4 := Lib.hid (X3.out.laterE HB.out)
      have B4 := Lib.hid (B3.out.trans (HB.out.mono B3.out.size))
      have RB4 := Lib.hid (RB3.out.below HB.out)
      have RD4 := Lib.hid (RD3.out.below HB.out)
      clear HI HB X3 B3 RB3 RD3 RC3
      go_upto_region 17 with fail
      clear x0 x1 x2 x3
      obtain ⟨w4, hw4⟩ : ∃ X, X = wr := ⟨_, rfl⟩
      subst hw4
      go_loopw [6] (fun i wr => ∃ k : Nat, k ≤ m ∧ i = .int .i64 k ∧ Hid (∀ j, j < k → hasB lp (j : Int) = false → ∀ s, s < 8 → inB ((ps.getD j []).getD s 0) 0 65536 = true) ∧ Hid (Below w4.heap.size w4 wr)) (fun i _ => m - (intOf i).toNat)
      case atStart => exact ⟨0, Nat.zero_le _, rfl, (fun j hj => absurd hj (by omega)), Below.refl _ _⟩
      case round =>
        obtain ⟨k, hk, rfl, HI, HB⟩ := hrel
        obtain ⟨x0, x1, x2, x3⟩ := bk4 (X4.out.laterE HB.out)
        by_cases hlt : k < m
        · have hkI : (k : Int) < (m : Int) := by omega
          obtain ⟨hb0, hhb⟩ : ∃ b, hasB lp (k : Int) = b := ⟨_, rfl⟩
          have CH : Hid (∀ W, RdI W D r lp → Calls Tryd.prog 37 #[.slice D r cd, .int .i64 k] W fun e w' => e = .returned (.bool hb0) ∧ W = w') := fun W h => by rw [← hhb]; exact has_any D r cd lp k W h hr
          have HH := Lib.hid hhb
          clear hhb
          obtain ⟨w5, hw5⟩ : ∃ X, X = wr := ⟨_, rfl⟩
          subst hw5
          go_upto_region 20 with fail
          clear x0 x1 x2 x3
          go_loopw [7] (fun i wr => ∃ s : Nat, s ≤ 8 ∧ i = .int .i64 s ∧ Hid (hb0 = false → ∀ s', s' < s → inB ((ps.getD k []).getD s' 0) 0 65536 = true) ∧ Hid (Below w4.heap.size w4 wr)) (fun i _ => 8 - (intOf i).toNat)
          case atStart => exact ⟨0, Nat.zero_le _, rfl, (fun _ j hj => absurd hj (by omega)), HB.out⟩
          case round =>
            clear HB
            obtain ⟨s, hs8, rfl, HJ, HB⟩ := hrel
            obtain ⟨x0, x1, x2, x3⟩ := bk4 (X4.out.laterE HB.out)
            have RDR := Lib.hid (RD4.out.below HB.out)
            by_cases hs : s < 8
            · have hsI : (s : Int) < 8 := by omega
              cases hb0 with
              | true =>
                go_wp2_with fail
                refine (CH.out _ RDR.out).mono ?_
                rintro e w' ⟨rfl, rfl⟩
                go_wp2
                go_roundw
                case rel => exact ⟨s + 1, by omega, by go_num, (fun h => by cases h), HB.out⟩
                case measure => simp [intOf]; omega
              | false =>
                obtain ⟨ad, rfl, hadl, hcx⟩ := (RB4.out.below HB.out).2.2 (by omega)
                have hck := hcx k s hlt hs
                clear hcx
                obtain ⟨z, hz⟩ : ∃ z, dc ps k s = z := ⟨_, rfl⟩
                rw [hz] at hck
                have HZ : Hid ((ps.getD k []).getD s 0 = z) := hz
                clear hz
                obtain ⟨b, hbv⟩ : ∃ b, inB z 0 65536 = b := ⟨_, rfl⟩
                have CW : Hid (∀ W, Calls Tryd.prog 13 #[.int .i64 z, .int .i64 0, .int .i64 65536] W fun e w' => e = .returned (.bool b) ∧ W = w') := fun W => by rw [← hbv]; exact within_any _ _ _ W
                have HBV := Lib.hid hbv
                clear hbv
                cases b with
                | true =>
                  go_wp2_with fail
                  refine (CH.out _ RDR.out).mono ?_
                  rintro e w' ⟨rfl, rfl⟩
                  go_wp2_with fail
                  refine (CW.out _).mono ?_
                  rintro e w' ⟨rfl, rfl⟩
                  go_wp2
                  go_roundw
                  case rel => exact ⟨s + 1, by omega, by go_num, (fun h j hj => by
                    by_cases e : j = s
                    · subst e; rw [HZ.out]; exact HBV.out
                    · exact HJ.out h j (by omega)), HB.out⟩
                  case measure => simp [intOf]; omega
                | false =>
                  have HV : Hid (grpE n m ds ps ld lp = 2) := grp_pbad HG1.out hlt HH.out (by rw [H8.out k (by rw [HPL.out]; exact hlt)]; exact hs) (by rw [HZ.out]; exact HBV.out)
                  go_wp2_with fail
                  refine (CH.out _ RDR.out).mono ?_
                  rintro e w' ⟨rfl, rfl⟩
                  go_wp2_with fail
                  refine (CW.out _).mono ?_
                  rintro e w' ⟨rfl, rfl⟩
                  go_wp2
                  go_ret
                  exact ⟨by rw [HV.out]; rfl, B4.out.trans (HB.out.mono B4.out.size)⟩
            · obtain rfl : 8 = s := by omega
              have HJ1 := Lib.hid HJ.out
              go_wp2
              go_roundw
              case rel => exact ⟨k + 1, by omega, by go_num, (fun j hj hh s hs => by
                by_cases e : j = k
                · subst e; exact HJ1.out (HH.out.symm.trans hh) s hs
                · exact HI.out j (by omega) hh s hs), HB.out⟩
              case measure => simp [intOf]; omega
        · obtain rfl : m = k := by omega
          have HV : Hid (grpE n m ds ps ld lp = 0) := grp_fine HG1.out H8.out HPL.out HI1.out HI.out
          go_wp2
          go_ret
          exact ⟨by rw [HV.out]; rfl, B4.out.trans (HB.out.mono B4.out.size)⟩
/-- What the reference's GroupErr answers. -/
theorem refGroupErr_any (A B C D : Option Addr) (n m l r ca cb cc cd : Nat) (ds ps : List (List Int)) (ld lp : List Int) (w : World) (hA : RdD w A n ds) (hB : RdD w B m ps) (hC : RdI w C l ld) (hD : RdI w D r lp) (hl : l ≤ 1000000) (hr : r ≤ 1000000) :
    Calls Tryd.prog 14 #[.agg #[.slice A n ca, .slice B m cb, .slice C l cc, .slice D r cd]] w fun e w' => e = .returned (.int .i64 (grpE n m ds ps ld lp)) ∧ Below w.heap.size w w' := by
  by_cases h0 : n = 0
  · exact ge_n0 A B C D n m l r ca cb cc cd ds ps ld lp w hA hB hC hD hl hr h0
  by_cases h1 : m = 0
  · exact ge_m0 A B C D n m l r ca cb cc cd ds ps ld lp w hA hB hC hD hl hr h0 h1
  by_cases h2 : 12 < n
  · exact ge_nl A B C D n m l r ca cb cc cd ds ps ld lp w hA hB hC hD hl hr h0 h1 h2
  by_cases h3 : 4 < m
  · exact ge_ml A B C D n m l r ca cb cc cd ds ps ld lp w hA hB hC hD hl hr h0 h1 h2 h3
  by_cases h5 : lostE n (-1) ld = 0
  · by_cases h4 : lostE m (-1) lp = 0
    · exact ge_main A B C D n m l r ca cb cc cd ds ps ld lp w hA hB hC hD hl hr h0 h1 h2 h3 h5 h4
    · exact ge_lp A B C D n m l r ca cb cc cd ds ps ld lp w hA hB hC hD hl hr h0 h1 h2 h3 h5 h4
  · exact ge_ld A B C D n m l r ca cb cc cd ds ps ld lp w hA hB hC hD hl hr h0 h1 h2 h3 h5
end Go.Proofs.YtjjflbnopphciabDoor

