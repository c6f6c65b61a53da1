import Derived.Test.YtccoflhoggpgoaaNbad
import Derived.Test.YtccoflhoggpgoaaNbaa
import Derived.Test.YtccoflhoggpgoaaRows
import Derived.ProofKit
import Derived.OpenShut
import Derived.Deep.Slices
import Derived.Test.YtccoflhoggpgoaaNbab
namespace Go.Proofs.Ytccoflhoggpgoaa
open Go.RowKit

open Go.Shelf

set_option maxRecDepth 100000 in
set_option maxHeartbeats 8000000 in
theorem nobetter_s (A : Option Addr) (n c : Nat) (p : List (List Int)) (B : Option Addr) (m d : Nat) (w : World) (HP0 : Hid (RdGo w A n p))
    (hs : shF p = false) :
    Calls Try.prog 12 #[.slice A n c, .slice B m d] w fun e w' => e = .returned (.bool true) ∧ Below w.heap.size w w' := by
  go_enter Try.func12, Try.ntmps12
  go_wp2_with fail
  refine (awake_any _).mono ?_
  rintro e w1 ⟨rfl, hb1⟩
  have HB := Lib.hid hb1
  clear hb1
  go_wp2_with fail
  refine (shortP_any A n c p _ (HP0.out.below HB.out)).mono ?_
  rintro e w' ⟨rfl, rfl⟩
  rw [hs]
  go_wp2
  go_ret
  exact ⟨rfl, HB.out⟩
set_option maxRecDepth 100000 in
set_option maxHeartbeats 8000000 in
theorem nobetter_p (A : Option Addr) (n c : Nat) (p : List (List Int)) (B : Option Addr) (m d : Nat) (w : World) (HP0 : Hid (RdGo w A n p))
    (hs : shF p = true) (hn8 : n ≤ 8) (V : Int) (hV : pfE p = V) (h0 : V ≠ 0) :
    Calls Try.prog 12 #[.slice A n c, .slice B m d] w fun e w' => e = .returned (.bool true) ∧ Below w.heap.size w w' := by
  have hd : (V != 0) = true := by rw [bne_iff_ne]; exact h0
  have hd1 : (V == 0) = false := by rw [beq_eq_false_iff_ne]; exact h0
  go_enter Try.func12, Try.ntmps12
  go_wp2_with fail
  refine (awake_any _).mono ?_
  rintro e w1 ⟨rfl, hb1⟩
  have HB := Lib.hid hb1
  clear hb1
  go_wp2_with fail
  refine (shortP_any A n c p _ (HP0.out.below HB.out)).mono ?_
  rintro e w' ⟨rfl, rfl⟩
  rw [hs]
  go_wp2_with fail
  refine (refPreferencesErr_any A n c p _ (HP0.out.below HB.out) (by omega)).mono ?_
  rintro e w' ⟨rfl, rfl⟩
  rw [hV]
  clear h0 hV
  go_wp2
  go_ret
  exact ⟨rfl, HB.out⟩
set_option maxRecDepth 100000 in
set_option maxHeartbeats 8000000 in
theorem nobetter_l (A : Option Addr) (n c : Nat) (p : List (List Int)) (B : Option Addr) (m d : Nat) (w : World) (HP0 : Hid (RdGo w A n p))
    (hs : shF p = true) (hn8 : n ≤ 8) (hV : pfE p = 0) (hm : 8 < m) :
    Calls Try.prog 12 #[.slice A n c, .slice B m d] w fun e w' => e = .returned (.bool true) ∧ Below w.heap.size w w' := by
  have hmI : (8 : Int) < (m : Int) := by omega
  go_enter Try.func12, Try.ntmps12
  go_wp2_with fail
  refine (awake_any _).mono ?_
  rintro e w1 ⟨rfl, hb1⟩
  have HB := Lib.hid hb1
  clear hb1
  go_wp2_with fail
  refine (shortP_any A n c p _ (HP0.out.below HB.out)).mono ?_
  rintro e w' ⟨rfl, rfl⟩
  rw [hs]
  go_wp2_with fail
  refine (refPreferencesErr_any A n c p _ (HP0.out.below HB.out) (by omega)).mono ?_
  rintro e w' ⟨rfl, rfl⟩
  rw [hV]
  clear hV hs
  go_wp2
  go_ret
  exact ⟨rfl, HB.out⟩
set_option maxRecDepth 100000 in
set_option maxHeartbeats 8000000 in
theorem nobetter_m (A : Option Addr) (n c : Nat) (p : List (List Int)) (B : Option Addr) (m d : Nat) (o : List Int) (w : World) (HP0 : Hid (RdGo w A n p)) (HR0 : Hid (RdI w B m o))
    (hs : shF p = true) (hn8 : n ≤ 8) (hV : pfE p = 0) (hm : m ≤ 8) (hmd : m ≤ d) (hBn : B = none → m = 0 ∧ d = 0) :
    Calls Try.prog 12 #[.slice A n c, .slice B m d] w fun e w' => e = .returned (.bool true) ∧ Below w.heap.size w w' := by
  have HLN : Hid (p.length = n) := HP0.out.1
  have hv := pfE_zero hV
  rw [HLN.out] at hv
  have HVP := Lib.hid hv.2
  have hn6 := hv.1
  have CCL : Hid (∀ W, RdGo W A n p → Calls Try.prog 66 #[.slice A n c] W fun e w' => (∃ A' c', e = .returned (.slice A' n c') ∧ RdGo w' A' n p) ∧ Below W.heap.size W w') := fun W h => (copyLists_any A n c p W h (by omega) (fun k hk => by rw [(hv.2.row hk).1]; omega)).mono (fun e w' ⟨⟨A', c', h1, _, h2, _⟩, h3⟩ => ⟨⟨A', c', h1, h2⟩, h3⟩)
  have HBV := Lib.hid (brF_in HLN.out (by omega))
  have HBL := Lib.hid (odE_zero HBV.out.1).1
  have HBO := Lib.hid (VO.of_odE HBV.out.1)
  have HLE := Lib.hid (rbF_le HLN.out (by omega))
  have HNR := Lib.hid (fun (i : Nat) (hi : i + 1 < n) => brF_near HLN.out (by omega) hi)
  have HLS := Lib.hid (fun h => brF_least HLN.out (by omega) (o := o) h)
  have CBR : Hid (∀ A' c' W, RdGo W A' n p → Calls Try.prog 67 #[.slice A' n c'] W fun e w' => (∃ B d, e = .returned (.tuple #[.slice B n d, .int .i64 (dsF p (brF p)), .int .i64 0]) ∧ n ≤ d ∧ RdI w' B n (brF p) ∧ (B = none → n = 0 ∧ d = 0)) ∧ Below W.heap.size W w') := fun A' c' W h => (bestRanking_any A' n c' p W h (by omega)).mono (fun e w' ⟨_, h2, h3⟩ => ⟨h2 hV, h3⟩)
  have CRB : Hid (∀ A' c' W, RdGo W A' n p → Calls Try.prog 68 #[.slice A' n c'] W fun e w' => e = .returned (.tuple #[.int .i64 (rbF p), .int .i64 0]) ∧ Below W.heap.size W w') := fun A' c' W h => (rankingBound_any A' n c' p W h (by omega)).mono (fun e w' ⟨h2, h3⟩ => ⟨by rw [h2, hV, if_pos rfl], h3⟩)
  have CDB : Hid (∀ A' c' B' d' W, RdGo W A' n p → RdI W B' n (brF p) → n ≤ d' → Calls Try.prog 65 #[.slice A' n c', .slice B' n d'] W fun e w' => e = .returned (.tuple #[.int .i64 (dsF p (brF p)), .int .i64 0]) ∧ Below W.heap.size W w') := fun A' c' B' d' W h1 h2 h3 => (disagreementsOf_any A' n c' p B' n d' (brF p) W h1 h2 h3 (by omega) (by omega)).mono (fun e w' ⟨h2, h3⟩ => ⟨by
    have e0 : dgE p (brF p) = 0 := by unfold dgE; rw [if_pos hV, HLN.out]; exact HBV.out.1
    rw [h2]; unfold dgV; rw [e0, if_pos rfl], h3⟩)
  have CDO : Hid (odE n o = 0 → ∀ A' c' B' d' W, RdGo W A' n p → RdI W B' m o → m ≤ d' → Calls Try.prog 65 #[.slice A' n c', .slice B' m d'] W fun e w' => e = .returned (.tuple #[.int .i64 (dsF p o), .int .i64 0]) ∧ Below W.heap.size W w') := fun ho A' c' B' d' W h1 h2 h3 => (disagreementsOf_any A' n c' p B' m d' o W h1 h2 h3 (by omega) (by omega)).mono (fun e w' ⟨h2, h3⟩ => ⟨by
    have e0 : dgE p o = 0 := by unfold dgE; rw [if_pos hV, HLN.out]; exact ho
    rw [h2]; unfold dgV; rw [e0, if_pos rfl], h3⟩)
  obtain ⟨br, hbr⟩ : ∃ b, brF p = b := ⟨_, rfl⟩
  rw [hbr] at HBV HBL HBO HLE HNR HLS CBR CDB
  obtain ⟨D, hD⟩ : ∃ b, dsF p br = b := ⟨_, rfl⟩
  rw [hD] at HLE HLS CBR CDB
  obtain ⟨b, hb⟩ : ∃ b, rbF p = b := ⟨_, rfl⟩
  rw [hb] at HLE CRB
  obtain ⟨T, hT⟩ : ∃ b, dsF p o = b := ⟨_, rfl⟩
  rw [hT] at HLS CDO
  have HOE := Lib.hid (fun W (h : RdI W B m o) => orderErrB_any A n c B m d o W h hmd (by omega) (by omega))
  have HB1E := Lib.hid (fun B' d' W (h : RdI W B' n br) (hd : n ≤ d') => orderErrB_any A n c B' n d' br W h hd (by omega) (by omega))
  rw [HBV.out.1] at HB1E
  have HBF := Lib.hid (fun B' d' W (h : RdI W B m o) (h2 : RdI W B' n br) => beforeB_any B m d o B' n d' br W h h2 (by omega) (by omega))
  obtain ⟨OE, hOE⟩ : ∃ b, odE n o = b := ⟨_, rfl⟩
  rw [hOE] at CDO HLS HOE
  have hm0 : ¬ (8 : Int) < (m : Int) := by omega
  have hbD := HLE.out
  have hbI : ¬ b > D := by omega
  clear hv hbr hD hb hT hOE
  go_enter Try.func12, Try.ntmps12
  go_wp2_with fail
  refine (awake_any _).mono ?_
  rintro e w1 ⟨rfl, hb1⟩
  have HB := Lib.hid hb1
  clear hb1
  go_wp2_with fail
  refine (shortP_any A n c p _ (HP0.out.below HB.out)).mono ?_
  rintro e w' ⟨rfl, rfl⟩
  rw [hs]
  go_wp2_with fail
  refine (refPreferencesErr_any A n c p _ (HP0.out.below HB.out) (by omega)).mono ?_
  rintro e w' ⟨rfl, rfl⟩
  rw [hV]
  clear hV hs
  have HB1 := Lib.hid HB.out
  have HP1 := Lib.hid (HP0.out.below HB.out)
  have HR1 := Lib.hid (HR0.out.below HB.out)
  clear HB HP0 HR0
  go_wp2_with fail
  refine (CCL.out _ HP1.out).mono ?_
  rintro e w2 ⟨⟨A1, cA1, rfl, hr⟩, hb⟩
  have HB2 := Lib.hid (HB1.out.trans (hb.mono HB1.out.size))
  have HP2 := Lib.hid (HP1.out.below hb)
  have HR2 := Lib.hid (HR1.out.below hb)
  clear HB1 HP1 HR1
  have HX2 := Lib.hid hr
  clear hr hb
  go_wp2_with fail
  refine (CBR.out _ _ _ HX2.out).mono ?_
  rintro e w3 ⟨⟨O, dO, rfl, hdO, hrO, hO⟩, hb⟩
  have HB3 := Lib.hid (HB2.out.trans (hb.mono HB2.out.size))
  have HP3 := Lib.hid (HP2.out.below hb)
  have HR3 := Lib.hid (HR2.out.below hb)
  have HX3 := Lib.hid (HX2.out.below hb)
  clear HB2 HP2 HR2 HX2
  clear HX3
  have HO3 := Lib.hid hrO
  have HON := Lib.hid hO
  clear hrO hO hb
  go_wp2_with fail
  refine (CCL.out _ HP3.out).mono ?_
  rintro e w4 ⟨⟨A2, cA2, rfl, hr⟩, hb⟩
  have HB4 := Lib.hid (HB3.out.trans (hb.mono HB3.out.size))
  have HP4 := Lib.hid (HP3.out.below hb)
  have HR4 := Lib.hid (HR3.out.below hb)
  have HO4 := Lib.hid (HO3.out.below hb)
  clear HB3 HP3 HR3 HO3
  have HX4 := Lib.hid hr
  clear hr hb
  go_wp2_with fail
  refine (CRB.out _ _ _ HX4.out).mono ?_
  rintro e w5 ⟨rfl, hb⟩
  have HB5 := Lib.hid (HB4.out.trans (hb.mono HB4.out.size))
  have HP5 := Lib.hid (HP4.out.below hb)
  have HR5 := Lib.hid (HR4.out.below hb)
  have HO5 := Lib.hid (HO4.out.below hb)
  have HX5 := Lib.hid (HX4.out.below hb)
  clear HB4 HP4 HR4 HO4 HX4
  clear HX5
  clear hb
  go_wp2_with fail
  refine (HB1E.out _ _ _ HO5.out hdO).mono ?_
  rintro e w6 ⟨rfl, hb⟩
  have HB6 := Lib.hid (HB5.out.trans (hb.mono HB5.out.size))
  have HP6 := Lib.hid (HP5.out.below hb)
  have HR6 := Lib.hid (HR5.out.below hb)
  have HO6 := Lib.hid (HO5.out.below hb)
  clear HB5 HP5 HR5 HO5
  clear hb
  go_wp2_with fail
  refine (CCL.out _ HP6.out).mono ?_
  rintro e w7 ⟨⟨A3, cA3, rfl, hr⟩, hb⟩
  have HB7 := Lib.hid (HB6.out.trans (hb.mono HB6.out.size))
  have HP7 := Lib.hid (HP6.out.below hb)
  have HR7 := Lib.hid (HR6.out.below hb)
  have HO7 := Lib.hid (HO6.out.below hb)
  clear HB6 HP6 HR6 HO6
  have HX7 := Lib.hid hr
  clear hr hb
  go_wp2_with fail
  refine (copyIntsR_any O n dO br _ HON.out HO7.out (by omega)).mono ?_
  rintro e w8 ⟨⟨O2, dO2, rfl, hdO2, hrO⟩, hb⟩
  have HB8 := Lib.hid (HB7.out.trans (hb.mono HB7.out.size))
  have HP8 := Lib.hid (HP7.out.below hb)
  have HR8 := Lib.hid (HR7.out.below hb)
  have HO8 := Lib.hid (HO7.out.below hb)
  have HX8 := Lib.hid (HX7.out.below hb)
  clear HB7 HP7 HR7 HO7 HX7
  have HY8 := Lib.hid hrO
  clear hrO hb
  go_wp2_with fail
  refine (CDB.out _ _ _ _ _ HX8.out HY8.out hdO2).mono ?_
  rintro e w9 ⟨rfl, hb⟩
  have HB9 := Lib.hid (HB8.out.trans (hb.mono HB8.out.size))
  have HP9 := Lib.hid (HP8.out.below hb)
  have HR9 := Lib.hid (HR8.out.below hb)
  have HO9 := Lib.hid (HO8.out.below hb)
  have HX9 := Lib.hid (HX8.out.below hb)
  have HY9 := Lib.hid (HY8.out.below hb)
  clear HB8 HP8 HR8 HO8 HX8 HY8
  clear HX9
  clear HY9
  clear hb
  go_wp2
  go_loopw [12] (fun i wr => ∃ j1 : Nat, 1 ≤ j1 ∧ i = .int .i64 (j1 : Int) ∧ Hid (∃ q, wr = w9.drewN q)) (fun i _ => n - (intOf i).toNat)
  case atStart => exact ⟨1, Nat.le_refl _, rfl, ⟨0, rfl⟩⟩
  case round =>
    obtain ⟨j1, hj, rfl, HD⟩ := hrel
    obtain ⟨q, rfl⟩ := HD.out
    by_cases hlt : j1 < n
    · have hjI : (j1 : Int) < (n : Int) := by omega
      obtain ⟨j, hjj⟩ : ∃ j, j1 = j + 1 := ⟨j1 - 1, by omega⟩
      have HJ := Lib.hid hjj
      have hj1I : (j : Int) < (n : Int) := by omega
      have hj0 : (0 : Int) ≤ (j : Int) := by omega
      have hj10 : (0 : Int) ≤ (j1 : Int) := by omega
      have hsub : IntKind.i64.wrap ((j1 : Int) - 1) = (j : Int) := by rw [IntWalk.i64_in _ (by omega)]; omega
      obtain ⟨od, ho, _, hco⟩ := HO9.out.2 (by omega)
      subst ho
      have hx1 := hco j1 hlt
      have hx0 := hco j (by omega)
      have hv1 := HBO.out.at (k := j1) (by omega)
      have hv0 := HBO.out.at (k := j) (by omega)
      have hnr := HNR.out j (by omega)
      rw [← hjj] at hnr
      obtain ⟨x, hx⟩ : ∃ x, br.getD j1 0 = x := ⟨_, rfl⟩
      obtain ⟨y, hy⟩ : ∃ y, br.getD j 0 = y := ⟨_, rfl⟩
      rw [hx] at hx1 hv1 hnr
      rw [hy] at hx0 hv0 hnr
      obtain ⟨x, rfl⟩ : ∃ xn : Nat, x = xn := ⟨x.toNat, by omega⟩
      obtain ⟨y, rfl⟩ : ∃ xn : Nat, y = xn := ⟨y.toNat, by omega⟩
      have hxn : x < n := by omega
      have hyn : y < n := by omega
      have hxI : (x : Int) < (n : Int) := by omega
      have hyI : (y : Int) < (n : Int) := by omega
      have hx00 : (0 : Int) ≤ (x : Int) := by omega
      have hy00 : (0 : Int) ≤ (y : Int) := by omega
      obtain ⟨ad, ha, _, hc⟩ := HP9.out.2 (by omega)
      subst ha
      obtain ⟨B1, m1, c1, hr1, hd1, _⟩ := hc x hxn
      obtain ⟨B2, m2, c2, hr2, hd2, _⟩ := hc y hyn
      have hm1 : m1 = n := by have := hd1.1; have := (HVP.out.row hxn).1; omega
      have hm2 : m2 = n := by have := hd2.1; have := (HVP.out.row hyn).1; omega
      subst hm1
      subst hm2
      obtain ⟨r1, hB1, _, hc1⟩ := hd1.2 (by omega)
      obtain ⟨r2, hB2, _, hc2⟩ := hd2.2 (by omega)
      subst hB1 hB2
      have he1 : w9.cell? (r1.add y) = some (.int .i64 (ent p x y)) := by rw [hc1 y hyn]; rfl
      have he2 : w9.cell? (r2.add x) = some (.int .i64 (ent p y x)) := by rw [hc2 x hxn]; rfl
      obtain ⟨e1, hh1⟩ : ∃ e, ent p x y = e := ⟨_, rfl⟩
      obtain ⟨e2, hh2⟩ : ∃ e, ent p y x = e := ⟨_, rfl⟩
      rw [hh1] at he1 hnr
      rw [hh2] at he2 hnr
      have hgt : ¬ e2 < e1 := by omega
      clear hjj hc hco hd1 hd2 hc1 hc2 hh1 hh2 hx hy hnr
      go_wp2
      go_quiet (fail)
      go_wp2
      go_roundw
      case rel => exact ⟨j1 + 1, by omega, by go_num, ⟨_, by first | rfl | exact World.drewN_drewN _ _ _⟩⟩
      case measure => simp only [intOf]; omega
    · have hjI : ¬ (j1 : Int) < (n : Int) := by omega
      have HBz := Lib.hid (blw_drewN HB9.out q)
      have HPz := Lib.hid (HP9.out.below (blw_drewN (Below.refl _ _) q))
      have HRz := Lib.hid (HR9.out.below (blw_drewN (Below.refl _ _) q))
      have HOz := Lib.hid (HO9.out.below (blw_drewN (Below.refl _ _) q))
      obtain ⟨wz, hwz⟩ : ∃ W, w9.drewN q = W := ⟨_, rfl⟩
      rw [hwz] at HBz HPz HRz HOz ⊢
      clear hwz HD hjI HB9 HP9 HR9 HO9
      go_wp2_with fail
      refine (HOE.out _ HRz.out).mono ?_
      rintro e wy ⟨rfl, hb⟩
      have HBy := Lib.hid (HBz.out.trans (hb.mono HBz.out.size))
      have HPy := Lib.hid (HPz.out.below hb)
      have HRy := Lib.hid (HRz.out.below hb)
      have HOy := Lib.hid (HOz.out.below hb)
      clear hb HBz HPz HRz HOz
      by_cases h0 : OE = 0
      case neg =>
        have hd : (OE != 0) = true := by rw [bne_iff_ne]; exact h0
        have hd1 : (OE == 0) = false := by rw [beq_eq_false_iff_ne]; exact h0
        clear h0
        go_wp2
        go_ret
        exact ⟨rfl, HBy.out⟩
      subst h0
      obtain ⟨hDT, hbf⟩ := HLS.out rfl
      have CDO2 := Lib.hid (CDO.out rfl)
      have HBFV := Lib.hid hbf
      clear hbf
      go_wp2_with fail
      refine (CCL.out _ HPy.out).mono ?_
      rintro e wx ⟨⟨A5, cA5, rfl, hr⟩, hb⟩
      have HBx := Lib.hid (HBy.out.trans (hb.mono HBy.out.size))
      have HRx := Lib.hid (HRy.out.below hb)
      have HOx := Lib.hid (HOy.out.below hb)
      have HXx := Lib.hid hr
      clear hb hr HBy HPy HRy HOy
      go_wp2_with fail
      refine (copyIntsR_any B m d o _ hBn HRx.out (by omega)).mono ?_
      rintro e wv ⟨⟨O3, dO3, rfl, hdO3, hrO⟩, hb⟩
      have HBv := Lib.hid (HBx.out.trans (hb.mono HBx.out.size))
      have HRv := Lib.hid (HRx.out.below hb)
      have HOv := Lib.hid (HOx.out.below hb)
      have HXv := Lib.hid (HXx.out.below hb)
      have HYv := Lib.hid hrO
      clear hb hrO HBx HRx HOx HXx
      go_wp2_with fail
      refine (CDO2.out _ _ _ _ _ HXv.out HYv.out hdO3).mono ?_
      rintro e wu ⟨rfl, hb⟩
      have HBu := Lib.hid (HBv.out.trans (hb.mono HBv.out.size))
      have HRu := Lib.hid (HRv.out.below hb)
      have HOu := Lib.hid (HOv.out.below hb)
      clear hb HBv HRv HOv HXv HYv
      by_cases hTD : T = D
      · subst hTD
        have CBF := Lib.hid (HBF.out O dO _ HRu.out HOu.out)
        rw [HBFV.out rfl] at CBF
        have hgt : ¬ T > T := by omega
        have heq : (T == T) = true := by rw [beq_iff_eq]
        clear hDT
        go_wp2_with fail
        refine CBF.out.mono ?_
        rintro e wt ⟨rfl, hb⟩
        have HBt := Lib.hid (HBu.out.trans (hb.mono HBu.out.size))
        clear hb
        go_wp2
        go_ret
        exact ⟨rfl, HBt.out⟩
      · have hgt : T > D := by omega
        have hgtI : D < T := hgt
        clear hDT hTD
        go_wp2
        go_ret
        exact ⟨rfl, HBu.out⟩

theorem nobetter_any (A : Option Addr) (n c : Nat) (p : List (List Int)) (B : Option Addr) (m d : Nat) (o : List Int) (w : World) (hp : RdGo w A n p) (hr : RdI w B m o) (hmd : m ≤ d) (_hcm : d ≤ 9223372036854775807) (hBn : B = none → m = 0 ∧ d = 0) :
    Calls Try.prog 12 #[.slice A n c, .slice B m d] w fun e w' => e = .returned (.bool true) ∧ Below w.heap.size w w' := by
  cases hs : shF p with
  | false => exact nobetter_s A n c p B m d w (Lib.hid hp) hs
  | true =>
    have hn8 : n ≤ 8 := by have := (shF_true hs).1; have := hp.1; omega
    by_cases hV : pfE p = 0
    · by_cases hm : 8 < m
      · exact nobetter_l A n c p B m d w (Lib.hid hp) hs hn8 hV hm
      · exact nobetter_m A n c p B m d o w (Lib.hid hp) (Lib.hid hr) hs hn8 hV (by omega) hmd hBn
    · exact nobetter_p A n c p B m d w (Lib.hid hp) hs hn8 _ rfl hV

end Go.Proofs.Ytccoflhoggpgoaa

namespace Go.Proofs.Ytccoflhoggpgoaa.op
open Go.ChangeShapes Go.WideShapes Go.ChangeAt Go.RowKit

theorem own : ownKnob Try.prog.godebug = none := by kernel_rfl
theorem laidOut : laidOutB Try.prog = true := by kernel_rfl
theorem cellsInt1 : Try.prog.cellsOf 3 = 1 := by kernel_rfl
theorem cellsI : Try.prog.cellsOf 3 = 1 := cellsInt1
theorem cellsInts : Try.prog.cellsOf 43 = 1 := by kernel_rfl
theorem lt_of_cell {w : World} {a : Addr} {v : Value} (h : w.cell? a = some v) : a.block < w.heap.size := World.block_lt_of_cell? _ _ h

set_option maxRecDepth 100000 in
theorem open_frac {H : Type} {enc : TypeId × Value → H} {w : World} {base : Nat} {spare : Nat → Bool} {held : Bool} {r : Reach} {b0 : Nat} {v : Value} {d : DataW H} {p : List MemPlace}
    (hv : Value.okWide Try.prog w r b0 23 v) (h : DataW.Trod enc Try.prog w base spare held 23 v d p) :
    ∃ z0 z1 : Int, v = .agg #[.int .i64 z0, .int .i64 z1] := by
  obtain ⟨cs, rfl, hsz⟩ := okWide_struct Try.underlying23 hv
  obtain ⟨fuel, hf⟩ := h
  obtain ⟨xs, n, _, _, hl, hxl, hg⟩ := DataW.trod_struct Try.underlying23 hf
  have h3 : Try.prog.cellsOf 23 = 2 := by kernel_rfl
  obtain ⟨l⟩ := cs
  have hl3 : l.length = 2 := by rw [← h3]; simpa using hsz
  match l, hl3, xs, hxl with
  | [c0, c1], _, [y0, y1], _ =>
    have g0 := hg 0 _ rfl
    have g1 := hg 1 _ rfl
    simp [Value.cells, cellsI] at g0 g1
    obtain ⟨z0, e0, _, _⟩ := DataW.trod_int Try.underlying3 g0
    obtain ⟨z1, e1, _, _⟩ := DataW.trod_int Try.underlying3 g1
    simp at e0 e1
    exact ⟨z0, z1, by rw [e0, e1]⟩

set_option maxRecDepth 100000 in
theorem open_test {H : Type} {enc : TypeId × Value → H} {w : World} {base : Nat} {spare : Nat → Bool} {held : Bool} {r : Reach} {b0 : Nat} {v : Value} {d : DataW H} {p : List MemPlace}
    (hv : Value.okWide Try.prog w r b0 108 v) (h : DataW.Trod enc Try.prog w base spare held 108 v d p) :
    ∃ z0 z1 z2 : Int, v = .agg #[.int .i64 z0, .int .i64 z1, .int .i64 z2] := by
  obtain ⟨cs, rfl, hsz⟩ := okWide_struct Try.underlying108 hv
  obtain ⟨fuel, hf⟩ := h
  obtain ⟨xs, n, _, _, hl, hxl, hg⟩ := DataW.trod_struct Try.underlying108 hf
  have h3 : Try.prog.cellsOf 108 = 3 := by kernel_rfl
  obtain ⟨l⟩ := cs
  have hl3 : l.length = 3 := by rw [← h3]; simpa using hsz
  match l, hl3, xs, hxl with
  | [c0, c1, c2], _, [y0, y1, y2], _ =>
    have g0 := hg 0 _ rfl
    have g1 := hg 1 _ rfl
    have g2 := hg 2 _ rfl
    simp [Value.cells, cellsI] at g0 g1 g2
    obtain ⟨z0, e0, _, _⟩ := DataW.trod_int Try.underlying3 g0
    obtain ⟨z1, e1, _, _⟩ := DataW.trod_int Try.underlying3 g1
    obtain ⟨z2, e2, _, _⟩ := DataW.trod_int Try.underlying3 g2
    simp at e0 e1 e2
    exact ⟨z0, z1, z2, by rw [e0, e1, e2]⟩

set_option maxRecDepth 100000 in
theorem open_meter {H : Type} {enc : TypeId × Value → H} {w : World} {base : Nat} {spare : Nat → Bool} {held : Bool} {r : Reach} {b0 : Nat} {v : Value} {d : DataW H} {p : List MemPlace}
    (hv : Value.okWide Try.prog w r b0 42 v) (h : DataW.Trod enc Try.prog w base spare held 42 v d p) :
    ∃ z0 z1 z2 z3 : Int, v = .agg #[.int .i64 z0, .int .i64 z1, .int .i64 z2, .int .i64 z3] := by
  obtain ⟨cs, rfl, hsz⟩ := okWide_struct Try.underlying42 hv
  obtain ⟨fuel, hf⟩ := h
  obtain ⟨xs, n, _, _, hl, hxl, hg⟩ := DataW.trod_struct Try.underlying42 hf
  have h3 : Try.prog.cellsOf 42 = 4 := by kernel_rfl
  obtain ⟨l⟩ := cs
  have hl3 : l.length = 4 := by rw [← h3]; simpa using hsz
  match l, hl3, xs, hxl with
  | [c0, c1, c2, c3], _, [y0, y1, y2, y3], _ =>
    have g0 := hg 0 _ rfl
    have g1 := hg 1 _ rfl
    have g2 := hg 2 _ rfl
    have g3 := hg 3 _ rfl
    simp [Value.cells, cellsI] at g0 g1 g2 g3
    obtain ⟨z0, e0, _, _⟩ := DataW.trod_int Try.underlying3 g0
    obtain ⟨z1, e1, _, _⟩ := DataW.trod_int Try.underlying3 g1
    obtain ⟨z2, e2, _, _⟩ := DataW.trod_int Try.underlying3 g2
    obtain ⟨z3, e3, _, _⟩ := DataW.trod_int Try.underlying3 g3
    simp at e0 e1 e2 e3
    exact ⟨z0, z1, z2, z3, by rw [e0, e1, e2, e3]⟩

/-- Numbers as they come in. -/
theorem open_rd {H : Type} {enc : TypeId × Value → H} {w : World} {base : Nat} {spare : Nat → Bool} {held : Bool} {A : Option Addr} {n c : Nat} {d : DataW H} {p : List MemPlace}
    (h : DataW.Trod enc Try.prog w base spare held 43 (.slice A n c) d p) : ∃ l, RdI w A n l ∧ n ≤ c ∧ c ≤ 9223372036854775807 ∧ (A = none → n = 0 ∧ c = 0) := by
  obtain ⟨fuel, hf⟩ := h
  rcases open_ints Try.underlying43 Try.underlying3 cellsInt1 hf with ⟨hcs, _⟩ | ⟨a, len, cap, zs, hcs, _, hl, hm, hz, _, hcell, _⟩
  · simp [Value.cells] at hcs
    obtain ⟨rfl, rfl, rfl⟩ := hcs
    exact ⟨[], ⟨rfl, fun h => absurd h (by omega)⟩, by omega, by omega, fun _ => ⟨rfl, rfl⟩⟩
  · simp [Value.cells] at hcs
    obtain ⟨rfl, rfl, rfl⟩ := hcs
    have hlen : n ≤ zs.length := by rw [hz]; split <;> omega
    refine ⟨zs.take n, ⟨by rw [List.length_take]; omega, fun hn => ⟨a, rfl, ?_, fun j hj => ?_⟩⟩, hl, by unfold maxLen at hm; omega, fun h => by cases h⟩
    · have := lt_of_cell (hcell 0 (by omega))
      rwa [addBlock] at this
    · rw [hcell j (by omega)]
      simp [List.getD_eq_getElem?_getD, List.getElem?_take, hj]

/-- Numbers of a field as they come in. -/
theorem open_rdf {H : Type} {enc : TypeId × Value → H} {w : World} {base : Nat} {spare : Nat → Bool} {held : Bool} {fuel : Nat} {v : Value} {x : DataW H × List MemPlace}
    (hf : DataW.trod enc Try.prog w base spare held fuel 43 [v] = some x) : ∃ A n c l, v = .slice A n c ∧ RdI w A n l ∧ n ≤ c ∧ c ≤ 9223372036854775807 ∧ (A = none → n = 0 ∧ c = 0) := by
  rcases open_ints Try.underlying43 Try.underlying3 cellsInt1 hf with ⟨hcs, _⟩ | ⟨a, len, cap, zs, hcs, _, hl, hm, hz, _, hcell, _⟩
  · injection hcs with hcs
    exact ⟨none, 0, 0, [], hcs, ⟨rfl, fun h => absurd h (by omega)⟩, by omega, by omega, fun _ => ⟨rfl, rfl⟩⟩
  · injection hcs with hcs
    have hlen : len ≤ zs.length := by rw [hz]; split <;> omega
    refine ⟨some a, len, cap, zs.take len, hcs, ⟨by rw [List.length_take]; omega, fun hn => ⟨a, rfl, ?_, fun j hj => ?_⟩⟩, hl, by unfold maxLen at hm; omega, fun h => by cases h⟩
    · have := lt_of_cell (hcell 0 (by omega))
      rwa [addBlock] at this
    · rw [hcell j (by omega)]
      simp [List.getD_eq_getElem?_getD, List.getElem?_take, hj]
end Go.Proofs.Ytccoflhoggpgoaa.op

namespace Go.Proofs.Ytccoflhoggpgoaa.op
open Go.ChangeShapes Go.WideShapes Go.ChangeAt Go.RowKit

set_option maxRecDepth 100000 in
theorem openb_frac {H : Type} {enc : TypeId × Value → H} {w : World} {base : Nat} {spare : Nat → Bool} {held : Bool} {r : Reach} {b0 : Nat} {v : Value} {d : DataW H} {p : List MemPlace}
    (hv : Value.okWide Try.prog w r b0 23 v) (h : DataW.Trod enc Try.prog w base spare held 23 v d p) :
    ∃ z0 z1 : Int, v = .agg #[.int .i64 z0, .int .i64 z1] ∧ (-9223372036854775808 ≤ z0 ∧ z0 ≤ 9223372036854775807) ∧ (-9223372036854775808 ≤ z1 ∧ z1 ≤ 9223372036854775807) := by
  obtain ⟨cs, rfl, hsz⟩ := okWide_struct Try.underlying23 hv
  obtain ⟨fuel, hf⟩ := h
  obtain ⟨xs, n, _, _, hl, hxl, hg⟩ := DataW.trod_struct Try.underlying23 hf
  have h3 : Try.prog.cellsOf 23 = 2 := by kernel_rfl
  obtain ⟨l⟩ := cs
  have hl3 : l.length = 2 := by rw [← h3]; simpa using hsz
  match l, hl3, xs, hxl with
  | [c0, c1], _, [y0, y1], _ =>
    have g0 := hg 0 _ rfl
    have g1 := hg 1 _ rfl
    simp [Value.cells, cellsI] at g0 g1
    obtain ⟨z0, e0, _, f0⟩ := DataW.trod_int Try.underlying3 g0
    obtain ⟨z1, e1, _, f1⟩ := DataW.trod_int Try.underlying3 g1
    simp at e0 e1
    exact ⟨z0, z1, by rw [e0, e1], bounds_i64 f0, bounds_i64 f1⟩

set_option maxRecDepth 100000 in
theorem openb_meter {H : Type} {enc : TypeId × Value → H} {w : World} {base : Nat} {spare : Nat → Bool} {held : Bool} {r : Reach} {b0 : Nat} {v : Value} {d : DataW H} {p : List MemPlace}
    (hv : Value.okWide Try.prog w r b0 42 v) (h : DataW.Trod enc Try.prog w base spare held 42 v d p) :
    ∃ z0 z1 z2 z3 : Int, v = .agg #[.int .i64 z0, .int .i64 z1, .int .i64 z2, .int .i64 z3] ∧ (-9223372036854775808 ≤ z0 ∧ z0 ≤ 9223372036854775807) ∧ (-9223372036854775808 ≤ z1 ∧ z1 ≤ 9223372036854775807) ∧ (-9223372036854775808 ≤ z2 ∧ z2 ≤ 9223372036854775807) ∧ (-9223372036854775808 ≤ z3 ∧ z3 ≤ 9223372036854775807) := by
  obtain ⟨cs, rfl, hsz⟩ := okWide_struct Try.underlying42 hv
  obtain ⟨fuel, hf⟩ := h
  obtain ⟨xs, n, _, _, hl, hxl, hg⟩ := DataW.trod_struct Try.underlying42 hf
  have h3 : Try.prog.cellsOf 42 = 4 := by kernel_rfl
  obtain ⟨l⟩ := cs
  have hl3 : l.length = 4 := by rw [← h3]; simpa using hsz
  match l, hl3, xs, hxl with
  | [c0, c1, c2, c3], _, [y0, y1, y2, y3], _ =>
    have g0 := hg 0 _ rfl
    have g1 := hg 1 _ rfl
    have g2 := hg 2 _ rfl
    have g3 := hg 3 _ rfl
    simp [Value.cells, cellsI] at g0 g1 g2 g3
    obtain ⟨z0, e0, _, f0⟩ := DataW.trod_int Try.underlying3 g0
    obtain ⟨z1, e1, _, f1⟩ := DataW.trod_int Try.underlying3 g1
    obtain ⟨z2, e2, _, f2⟩ := DataW.trod_int Try.underlying3 g2
    obtain ⟨z3, e3, _, f3⟩ := DataW.trod_int Try.underlying3 g3
    simp at e0 e1 e2 e3
    exact ⟨z0, z1, z2, z3, by rw [e0, e1, e2, e3], bounds_i64 f0, bounds_i64 f1, bounds_i64 f2, bounds_i64 f3⟩

theorem openb_int {H : Type} {enc : TypeId × Value → H} {w : World} {base : Nat} {spare : Nat → Bool} {held : Bool} {z : Int} {d : DataW H} {p : List MemPlace}
    (h : DataW.Trod enc Try.prog w base spare held 3 (.int .i64 z) d p) : -9223372036854775808 ≤ z ∧ z ≤ 9223372036854775807 := by
  obtain ⟨fuel, hf⟩ := h
  obtain ⟨z0, e0, _, f0⟩ := DataW.trod_int Try.underlying3 hf
  simp [Value.cells] at e0
  subst e0
  exact bounds_i64 f0
end Go.Proofs.Ytccoflhoggpgoaa.op

namespace Go.Proofs.Ytccoflhoggpgoaa.op
open Go.ChangeShapes Go.WideShapes Go.ChangeAt Go.RowKit

theorem row_of {H : Type} {enc : TypeId × Value → H} {w : World} {base : Nat} {spare : Nat → Bool} {held : Bool} {v : Value} {fuel : Nat} {x : DataW H × List MemPlace}
    (h : DataW.trod enc Try.prog w base spare held fuel 43 [v] = some x) : ∃ B m c l, v = .slice B m c ∧ RdI w B m l ∧ (B = none → m = 0 ∧ c = 0) := by
  obtain ⟨B, m, c, l, h1, h2, _, _, h3⟩ := open_rdf h
  exact ⟨B, m, c, l, h1, h2, h3⟩

/-- Lists of numbers as they come in. -/
theorem open_rows {H : Type} {enc : TypeId × Value → H} {w : World} {base : Nat} {spare : Nat → Bool} {held : Bool} {A : Option Addr} {n c : Nat} {d : DataW H} {p : List MemPlace}
    (h : DataW.Trod enc Try.prog w base spare held 95 (.slice A n c) d p) : ∃ rows, RdGo w A n rows ∧ n ≤ c := by
  obtain ⟨fuel, hf⟩ := h
  rcases Deep.open_slice1 Try.underlying95 cellsInts hf with ⟨hcs, _⟩ | ⟨a, len, cap, m, k, V, D, Pl, hcs, _, hl, hm, hz, _, hx⟩
  · simp [Value.cells] at hcs
    obtain ⟨rfl, rfl, rfl⟩ := hcs
    exact ⟨[], ⟨rfl, fun h => absurd h (by omega)⟩, by omega⟩
  · simp [Value.cells] at hcs
    obtain ⟨rfl, rfl, rfl⟩ := hcs
    have hlen : n ≤ m := by rw [hz]; split <;> omega
    obtain ⟨f, hf⟩ := Deep.choose_lt (α := List Int) (n := n) (p := fun i l => ∃ B m c, w.cell? (a.add i) = some (.slice B m c) ∧ RdI w B m l ∧ (B = none → m = 0 ∧ c = 0)) (fun i hi => by
      obtain ⟨h1, h2⟩ := hx i (by omega)
      obtain ⟨B, m', c', l, hv, h3⟩ := row_of h2
      exact ⟨l, B, m', c', by rw [h1, hv], h3⟩)
    refine ⟨(List.range n).map f, ⟨by simp, fun hn => ⟨a, rfl, ?_, fun j hj => ?_⟩⟩, hl⟩
    · have := lt_of_cell (hx 0 (by omega)).1
      rwa [addBlock] at this
    · have e : ((List.range n).map f).getD j [] = f j := by simp [List.getD_eq_getElem?_getD, hj]
      rw [e]
      exact hf j hj
end Go.Proofs.Ytccoflhoggpgoaa.op

