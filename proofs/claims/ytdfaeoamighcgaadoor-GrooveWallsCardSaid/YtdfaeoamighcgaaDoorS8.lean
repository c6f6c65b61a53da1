import Derived.Test.YtdfaeoamighcgaaDoorS6
namespace Go.Proofs.YtdfaeoamighcgaaDoor
open Go.RowKit

set_option maxRecDepth 100000 in
set_option maxHeartbeats 8000000 in
theorem walls_err (A : Option Addr) (n c : Nat) (ws : List (Int × Int)) (B : Option Addr) (k cB : Nat) (ms : List (Int × Int)) (w : World) (hl : LaidSides w) (hA : A = none → n = 0 ∧ c = 0) (hB : B = none → k = 0 ∧ cB = 0) (hw : RdP w A n ws) (hm : RdP w B k ms) (hn : n ≤ 203) (hk : k ≤ 203) (d dm : Int) (wl : List Int) (ml xl : List (Int × Int)) (nx : Nat) (hd : wallsE ws = d) (hdm : matsE ms = dm) (hwl : widL ws = wl) (hml : matL ws = ml) (hxl : wlsL ms = xl) (hxn : xl.length = nx) (hxb : nx ≤ 203) (hd0 : (d != 0) = true) (k1 : wl = []) (k2 : ml = []) :
    Calls Tryd.prog 15 #[.slice A n c, .slice B k cB] w fun e w' => e = .returned (.bool true) ∧ Below w.heap.size w w' := by
  have HL := Lib.hid hl
  have HA := Lib.hid hA
  have HB := Lib.hid hB
  have HW := Lib.hid hw
  have HM := Lib.hid hm
  clear hl hA hB hw hm
  have HN : Hid (n ≤ 1000000) := by show _ ≤ _; omega
  have HK : Hid (k ≤ 1000000) := by show _ ≤ _; omega
  have hnI : ¬ (203 : Int) < (n : Int) := by omega
  have hkI : ¬ (203 : Int) < (k : Int) := by omega
  have hxx : ((nx : Int) != (nx : Int)) = false := bne_self_eq_false' _
  have hmm : (dm != dm) = false := bne_self_eq_false' _
  have HXLN : Hid (xl.length = nx) := hxn
  have CWID : Hid (∀ W g c, RdR W g n ws → Calls Tryd.prog 74 #[.slice (some ⟨g, 0, none⟩) n c] W (OwnRes W d wl)) := fun W g c h => by rw [← hd, ← hwl]; exact WidthsOf_any g n c ws W h HN.out
  have CMAT : Hid (∀ W g c, RdR W g n ws → Calls Tryd.prog 76 #[.slice (some ⟨g, 0, none⟩) n c] W (OwnResM W d ml)) := fun W g c h => by rw [← hd, ← hml]; exact MatrixOf_any g n c ws W h HN.out
  have CWLS : Hid (∀ W g c, RdR W g k ms → Calls Tryd.prog 77 #[.slice (some ⟨g, 0, none⟩) k c] W (OwnResW W dm xl)) := fun W g c h => by rw [← hdm, ← hxl]; exact WallsOf_any g k c ms W h HK.out
  have CRW : Hid (∀ W A c, RdP W A k ms → Calls Tryd.prog 79 #[.slice A k c] W (OwnResW W dm xl)) := fun W A c h => by rw [← hdm, ← hxl]; exact refWallsOf_any A k c ms W h HK.out
  have CRE : Hid (∀ W A c, RdP W A n ws → Calls Tryd.prog 80 #[.slice A n c] W fun e w' => e = .returned (.int .i64 d) ∧ Below W.heap.size W w') := fun W A c h => by rw [← hd]; exact refWallsErr_any A n c ws W h HN.out
  have hdd : (d == d) = true := by simp
  clear hd hdm hwl hml hxl hxn
  subst k1 k2
  go_enter Tryd.func15, Tryd.ntmps15
  go_wp2_with fail
  refine (awake_any _ HL.out).mono ?_
  rintro e w1 ⟨rfl, hb1⟩
  have Fw1 := Lib.hid (HW.out.below hb1)
  have Fm1 := Lib.hid (HM.out.below hb1)
  have low1 := Lib.hid hb1
  clear hb1 HW HM
  go_wp2_with fail
  refine (copyWalls_any A n c ws _ HA.out Fw1.out HN.out).mono ?_
  rintro e w2 ⟨⟨g2, c2, rfl, hr2⟩, hb2⟩
  have Fw2 := Lib.hid (Fw1.out.below hb2)
  have Fm2 := Lib.hid (Fm1.out.below hb2)
  have low2 := Lib.hid (low1.out.trans (hb2.mono low1.out.size))
  have G1 := Lib.hid hr2
  clear hb2 Fw1 Fm1 low1 hr2
  go_wp2_with fail
  refine (CWID.out _ _ _ G1.out).mono ?_
  rintro e w3 ⟨⟨v, rfl, ho3⟩, hb3⟩
  have Fw3 := Lib.hid (Fw2.out.below hb3)
  have Fm3 := Lib.hid (Fm2.out.below hb3)
  have low3 := Lib.hid (low2.out.trans (hb3.mono low2.out.size))
  obtain ⟨Aa, ca, rfl, _, hra, na⟩ := rd_ownN ho3
  have Fa := Lib.hid hra
  clear hb3 Fw2 Fm2 low2 ho3 hra G1
  go_wp2_with fail
  refine (copyWalls_any A n c ws _ HA.out Fw3.out HN.out).mono ?_
  rintro e w4 ⟨⟨g4, c4, rfl, hr4⟩, hb4⟩
  have Fw4 := Lib.hid (Fw3.out.below hb4)
  have Fm4 := Lib.hid (Fm3.out.below hb4)
  have Fa4 := Lib.hid (Fa.out.below hb4)
  have low4 := Lib.hid (low3.out.trans (hb4.mono low3.out.size))
  have G2 := Lib.hid hr4
  clear hb4 Fw3 Fm3 Fa low3 hr4
  go_wp2_with fail
  refine (CMAT.out _ _ _ G2.out).mono ?_
  rintro e w5 ⟨⟨v, rfl, ho5⟩, hb5⟩
  have Fw5 := Lib.hid (Fw4.out.below hb5)
  have Fm5 := Lib.hid (Fm4.out.below hb5)
  have Fa5 := Lib.hid (Fa4.out.below hb5)
  have low5 := Lib.hid (low4.out.trans (hb5.mono low4.out.size))
  obtain ⟨Ab, cb, rfl, hrb, nb⟩ := rdO_own ho5 rfl
  have Fb := Lib.hid hrb
  have NB := Lib.hid nb
  clear hb5 Fw4 Fm4 Fa4 low4 ho5 hrb G2 nb
  go_wp2_with fail
  refine (copyMats_any B k cB ms _ HB.out Fm5.out HK.out).mono ?_
  rintro e w6 ⟨⟨g6, c6, rfl, hr6⟩, hb6⟩
  have Fw6 := Lib.hid (Fw5.out.below hb6)
  have Fm6 := Lib.hid (Fm5.out.below hb6)
  have Fa6 := Lib.hid (Fa5.out.below hb6)
  have Fb6 := Lib.hid (Fb.out.below hb6)
  have low6 := Lib.hid (low5.out.trans (hb6.mono low5.out.size))
  have G3 := Lib.hid hr6
  clear hb6 Fw5 Fm5 Fa5 Fb low5 hr6
  go_wp2_with fail
  refine (CWLS.out _ _ _ G3.out).mono ?_
  rintro e w7 ⟨⟨v, rfl, ho7⟩, hb7⟩
  have Fw7 := Lib.hid (Fw6.out.below hb7)
  have Fm7 := Lib.hid (Fm6.out.below hb7)
  have Fa7 := Lib.hid (Fa6.out.below hb7)
  have Fb7 := Lib.hid (Fb6.out.below hb7)
  have low7 := Lib.hid (low6.out.trans (hb7.mono low6.out.size))
  rw [HXLN.out] at ho7
  obtain ⟨Ac, cc, rfl, hrc, nnc⟩ := rdO_own ho7 HXLN.out
  have Fc := Lib.hid hrc
  clear hb7 Fw6 Fm6 Fa6 Fb6 low6 ho7 hrc G3 nnc
  go_wp2_with fail
  refine (CRW.out _ _ _ Fm7.out).mono ?_
  rintro e w8 ⟨⟨v, rfl, ho8⟩, hb8⟩
  have Fw8 := Lib.hid (Fw7.out.below hb8)
  have Fa8 := Lib.hid (Fa7.out.below hb8)
  have Fb8 := Lib.hid (Fb7.out.below hb8)
  have Fc8 := Lib.hid (Fc.out.below hb8)
  have low8 := Lib.hid (low7.out.trans (hb8.mono low7.out.size))
  rw [HXLN.out] at ho8
  obtain ⟨Ad, cd, rfl, hrd, nnd⟩ := rdO_own ho8 HXLN.out
  have Fd := Lib.hid hrd
  clear hb8 Fw7 Fm7 Fa7 Fb7 Fc low7 ho8 hrd nnd
  go_wp2_with fail
  go_loopw [13] (fun i wr => ∃ j : Nat, j ≤ nx ∧ i = .int .i64 j ∧ Hid (Below w8.heap.size w8 wr)) (fun i _ => nx - (intOf i).toNat)
  case atStart => exact ⟨0, Nat.zero_le _, rfl, Below.refl _ _⟩
  case round =>
    obtain ⟨j, hj, rfl, HX⟩ := hrel
    by_cases hlt : j < nx
    · have hjI : (j : Int) < (nx : Int) := by omega
      have hj0 : (0 : Int) ≤ (j : Int) := by omega
      obtain ⟨gc, hgc, hrc⟩ := (Fc8.out.below HX.out).2 (by omega)
      obtain ⟨gd, hgd, hrd⟩ := (Fd.out.below HX.out).2 (by omega)
      obtain ⟨q1, q2⟩ := hrc.2.2 j hlt
      obtain ⟨q3, q4⟩ := hrd.2.2 j hlt
      clear hrc hrd
      subst hgc hgd
      obtain ⟨⟨l, r⟩, hxy⟩ : ∃ p, xl.getD j (0, 0) = p := ⟨_, rfl⟩
      rw [hxy] at q1 q2 q3 q4
      dsimp only at q1 q2 q3 q4
      have HS2 : Hid ((fun w' : World => w'.cell? ⟨gc, j * 2, none⟩ = some (.int .i64 l) ∧ w'.cell? ⟨gc, j * 2 + 1, none⟩ = some (.int .i64 r) ∧ w'.cell? ⟨gd, j * 2, none⟩ = some (.int .i64 l) ∧ w'.cell? ⟨gd, j * 2 + 1, none⟩ = some (.int .i64 r)) wr.drew) := ⟨q1, q2, q3, q4⟩
      clear q1 q2 q3 q4 hxy
      go_wp2_with fail
      refine wp_region_held_drew (S := (fun w' : World => w'.cell? ⟨gc, j * 2, none⟩ = some (.int .i64 l) ∧ w'.cell? ⟨gc, j * 2 + 1, none⟩ = some (.int .i64 r) ∧ w'.cell? ⟨gd, j * 2, none⟩ = some (.int .i64 l) ∧ w'.cell? ⟨gd, j * 2 + 1, none⟩ = some (.int .i64 r))) (by kernel_rfl) ?_ ?_
      · exact HS2.out
      intro hHeld
      refine wpAnyH_take (i := 0) (v := ?_) rfl (by kernel_rfl) (by kernel_rfl) (by kernel_rfl) (fun _ _ _ h => h) (Or.inl ⟨by rfl, ?_⟩) (by assumption) ?_
      rotate_left
      · intro w hSw; (try dsimp only at hSw); go_simp; (try (with_reducible rfl))
      try simp only [List.getElem_toArray, List.getElem_cons_succ, List.getElem_cons_zero, Act.put, List.setIfInBounds_toArray, List.set_cons_zero, List.set_cons_succ]
      refine wpAnyH_take (i := 1) (v := ?_) rfl (by kernel_rfl) (by kernel_rfl) (by kernel_rfl) (fun _ _ _ h => h) (Or.inl ⟨by rfl, ?_⟩) (by assumption) ?_
      rotate_left
      · intro w hSw; (try dsimp only at hSw); go_simp; (try (with_reducible rfl))
      try simp only [List.getElem_toArray, List.getElem_cons_succ, List.getElem_cons_zero, Act.put, List.setIfInBounds_toArray, List.set_cons_zero, List.set_cons_succ]
      refine wpAnyH_take (i := 2) (v := ?_) rfl (by kernel_rfl) (by kernel_rfl) (by kernel_rfl) (fun _ _ _ h => h) (Or.inl ⟨by rfl, ?_⟩) (by assumption) ?_
      rotate_left
      · intro w hSw; (try dsimp only at hSw); go_simp; (try (with_reducible rfl))
      try simp only [List.getElem_toArray, List.getElem_cons_succ, List.getElem_cons_zero, Act.put, List.setIfInBounds_toArray, List.set_cons_zero, List.set_cons_succ]
      refine wpAnyH_take (i := 3) (v := ?_) rfl (by kernel_rfl) (by kernel_rfl) (by kernel_rfl) (fun _ _ _ h => h) (Or.inl ⟨by rfl, ?_⟩) (by assumption) ?_
      rotate_left
      · intro w hSw; (try dsimp only at hSw); go_simp; (try (with_reducible rfl))
      try simp only [List.getElem_toArray, List.getElem_cons_succ, List.getElem_cons_zero, Act.put, List.setIfInBounds_toArray, List.set_cons_zero, List.set_cons_succ]
      refine wpAnyH_take (i := 4) (v := ?_) rfl (by kernel_rfl) (by kernel_rfl) (by kernel_rfl) (fun _ _ _ h => h) (Or.inl ⟨by rfl, ?_⟩) (by assumption) ?_
      rotate_left
      · intro w hSw; (try dsimp only at hSw); go_simp; (try (with_reducible rfl))
      try simp only [List.getElem_toArray, List.getElem_cons_succ, List.getElem_cons_zero, Act.put, List.setIfInBounds_toArray, List.set_cons_zero, List.set_cons_succ]
      refine wpAnyH_take (i := 5) (v := ?_) rfl (by kernel_rfl) (by kernel_rfl) (by kernel_rfl) (fun _ _ _ h => h) (Or.inl ⟨by rfl, ?_⟩) (by assumption) ?_
      rotate_left
      · intro w hSw; (try dsimp only at hSw); go_simp; (try (with_reducible rfl))
      try simp only [List.getElem_toArray, List.getElem_cons_succ, List.getElem_cons_zero, Act.put, List.setIfInBounds_toArray, List.set_cons_zero, List.set_cons_succ]
      refine wpAnyH_take (i := 6) (v := ?_) rfl (by kernel_rfl) (by kernel_rfl) (by kernel_rfl) (fun _ _ _ h => h) (Or.inl ⟨by rfl, ?_⟩) (by assumption) ?_
      rotate_left
      · intro w hSw; (try dsimp only at hSw); go_simp; (try (with_reducible rfl))
      try simp only [List.getElem_toArray, List.getElem_cons_succ, List.getElem_cons_zero, Act.put, List.setIfInBounds_toArray, List.set_cons_zero, List.set_cons_succ]
      refine wpAnyH_take (i := 7) (v := ?_) rfl (by kernel_rfl) (by kernel_rfl) (by kernel_rfl) (fun _ _ _ h => h) (Or.inl ⟨by rfl, ?_⟩) (by assumption) ?_
      rotate_left
      · intro w hSw; (try dsimp only at hSw); go_simp; (try (with_reducible rfl))
      try simp only [List.getElem_toArray, List.getElem_cons_succ, List.getElem_cons_zero, Act.put, List.setIfInBounds_toArray, List.set_cons_zero, List.set_cons_succ]
      refine wpAnyH_take (i := 8) (v := ?_) rfl (by kernel_rfl) (by kernel_rfl) (by kernel_rfl) (fun _ _ _ h => h) (Or.inl ⟨by rfl, ?_⟩) (by assumption) ?_
      rotate_left
      · intro w hSw; (try dsimp only at hSw); go_simp; (try (with_reducible rfl))
      try simp only [List.getElem_toArray, List.getElem_cons_succ, List.getElem_cons_zero, Act.put, List.setIfInBounds_toArray, List.set_cons_zero, List.set_cons_succ]
      refine wpAnyH_done (by kernel_rfl) ?_ _
      clear hHeld HS2
      go_wp2
      go_roundw
      case rel => exact ⟨j + 1, by omega, by go_num, HX.out.drew⟩
      case measure => simp [intOf]; omega
    · obtain rfl : nx = j := by omega
      have hb9 := HX.out
      have Fw9 := Lib.hid (Fw8.out.below hb9)
      have Fa9 := Lib.hid (Fa8.out.below hb9)
      have Fb9 := Lib.hid (Fb8.out.below hb9)
      have low9 := Lib.hid (low8.out.trans (hb9.mono low8.out.size))
      clear hb9 HX hlt hj Fw8 Fa8 Fb8 Fc8 Fd low8
      obtain ⟨w9, hw9⟩ : ∃ W, wr = W := ⟨_, rfl⟩
      subst hw9
      go_wp2_with fail
      refine (CRE.out _ _ _ Fw9.out).mono ?_
      rintro e w10 ⟨rfl, hb10⟩
      have Fw10 := Lib.hid (Fw9.out.below hb10)
      have Fa10 := Lib.hid (Fa9.out.below hb10)
      have Fb10 := Lib.hid (Fb9.out.below hb10)
      have low10 := Lib.hid (low9.out.trans (hb10.mono low9.out.size))
      clear hb10 Fw9 Fa9 Fb9 low9
      go_wp2
      go_ret
      exact ⟨rfl, low10.out⟩

end Go.Proofs.YtdfaeoamighcgaaDoor
