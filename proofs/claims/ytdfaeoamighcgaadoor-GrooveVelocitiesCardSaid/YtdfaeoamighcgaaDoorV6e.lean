import Derived.Test.YtdfaeoamighcgaaDoorV2
import Derived.Test.YtdfaeoamighcgaaDoorV3
import Derived.Test.YtdfaeoamighcgaaDoorV5
namespace Go.Proofs.YtdfaeoamighcgaaDoor
open Go.RowKit


set_option maxRecDepth 100000 in
set_option maxHeartbeats 4000000 in
theorem vel_ok0 (A : Option Addr) (n c : Nat) (xs : List Int) (start limit : Int) (w : World) (hl : LaidSides w) (hA : A = none → n = 0 ∧ c = 0) (hr : RdI w A n xs) (hn : n ≤ 203) (te je d dl : Int) (vx jx : List Int) (hte : turnErr xs = te) (hvx : velX xs = vx) (hje : jmpE xs limit = je) (hjx : jmpL xs limit = jx) (hd : posE xs = d) (hdl : limE limit = dl) (hsm : Small xs) (hlb : 0 ≤ limit ∧ limit ≤ 2000000) (hjj : jmpL xs limit = jmpTo xs limit n) (k1 : d = 0) (k2 : je = 0) (k3 : te = 10) (k4 : dl = 0) (k5 : vx = []) (k6 : ((n : Int) == 0) = true) :
    Calls Tryd.prog 11 #[.slice A n c, .int .i64 start, .int .i64 limit] w fun e w' => e = .returned (.bool true) ∧ Below w.heap.size w w' := by
  have HL := Lib.hid hl
  have HA := Lib.hid hA
  have HR := Lib.hid hr
  have HLN : Hid (xs.length = n) := hr.1
  clear hl hA hr
  have HN : Hid (n ≤ 1000000) := by show _ ≤ _; omega
  have CLONG : Hid (∀ (W : World) (c : Nat), Calls Tryd.prog 59 #[.slice A n c] W fun e w' => e = .returned (.bool true) ∧ W = w') := fun W c => by have h := long_any A n c W; rw [decide_eq_true hn] at h; exact h
  have CV : Hid (∀ W A c, RdI W A n xs → Calls Tryd.prog 60 #[.slice A n c] W (OwnRes W te vx)) := fun W A c h => by rw [← hte, ← hvx]; exact VelocitiesOf_any A n c xs W h HN.out
  obtain ⟨PE, hPE⟩ : ∃ E, psE start xs = E := ⟨_, rfl⟩
  obtain ⟨PL, hPL⟩ : ∃ L, psL start xs = L := ⟨_, rfl⟩
  have HPL : Hid (PL.length ≤ 9223372036854775806) := by
    show _ ≤ _
    rw [← hPL]; unfold psL
    split
    · rw [posTo_length, HR.out.1]; omega
    · simp
  have CP : Hid (∀ W A c, RdI W A n xs → Calls Tryd.prog 61 #[.int .i64 start, .slice A n c] W (OwnRes W PE PL)) := fun W A c h => by rw [← hPE, ← hPL]; exact PositionsOf_any start A n c xs W h HN.out
  have CW : Hid (∀ W A c, RdI W A n xs → Calls Tryd.prog 63 #[.int .i64 start, .slice A n c] W (OwnRes W PE PL)) := fun W A c h => by rw [← hPE, ← hPL]; exact refPositions_any start A n c xs W h HN.out
  have CJ : Hid (∀ W A c, RdI W A n xs → Calls Tryd.prog 62 #[.slice A n c, .int .i64 limit] W (OwnRes W je jx)) := fun W A c h => by rw [← hje, ← hjx]; exact JumpsIn_any A n c xs limit W h HN.out
  have CE : Hid (∀ W A c, RdI W A n xs → Calls Tryd.prog 64 #[.slice A n c] W fun e w' => e = .returned (.int .i64 d) ∧ W = w') := fun W A c h => by rw [← hd]; exact refPosErr_any A n c xs W h (by omega)
  have CLIM : Hid (∀ W, Calls Tryd.prog 65 #[.int .i64 limit] W fun e w' => e = .returned (.int .i64 dl) ∧ W = w') := fun W => by rw [← hdl]; exact refLimErr_any limit W
  clear hPE hPL
  have CRJ : Hid (∀ W A c, RdI W A n xs → Calls Tryd.prog 66 #[.slice A n c, .int .i64 limit] W (OwnS W jx)) := fun W A c h => by rw [← hjx, hjj]; exact refJumps_any A n c xs limit W h HN.out hsm hlb
  have HJL : Hid (jx.length ≤ 9223372036854775806) := by show _ ≤ _; rw [← hjx, hjj]; have := jmpTo_length xs limit n; omega
  clear hjj
  clear hte hvx hje hjx hd hdl hsm
  subst k1 k2 k3 k4 k5
  go_enter Tryd.func11, Tryd.ntmps11
  go_wp2_with fail
  refine (awake_any _ HL.out).mono ?_
  rintro e w1 ⟨rfl, hb1⟩
  have Fl1 := Lib.hid (HR.out.below hb1)
  have l1 := Lib.hid hb1
  clear HR hb1
  go_wp2_with fail
  refine (CLONG.out _ _).mono ?_
  rintro e w' ⟨rfl, rfl⟩
  go_wp2_with fail
  refine (copyInts_any _ n c xs _ HA.out Fl1.out HN.out).mono ?_
  rintro e w3 ⟨⟨v3, rfl, ho3⟩, hb3⟩
  have Fl3 := Lib.hid (Fl1.out.below hb3)
  have l3 := Lib.hid (l1.out.trans (hb3.mono l1.out.size))
  rw [HLN.out] at ho3
  obtain ⟨Aa, ca, rfl, _, hr3, nna⟩ := rd_ownN ho3
  have Fa3 := Lib.hid hr3
  have Na := Lib.hid nna
  clear Fl1 l1 hr3 ho3 nna hb3
  go_wp2_with fail
  refine (CV.out _ _ _ Fa3.out).mono ?_
  rintro e w4 ⟨⟨v4, rfl, ho4⟩, hb4⟩
  have Fl4 := Lib.hid (Fl3.out.below hb4)
  have l4 := Lib.hid (l3.out.trans (hb4.mono l3.out.size))
  obtain ⟨Av, cv, rfl, _, hr4, nnv⟩ := rd_ownN ho4
  have Fv4 := Lib.hid hr4
  have Nv := Lib.hid nnv
  clear Fl3 Fa3 l3 hr4 ho4 nnv hb4
  go_wp2_with fail
  refine (copyInts_any _ n c xs _ HA.out Fl4.out HN.out).mono ?_
  rintro e w5 ⟨⟨v5, rfl, ho5⟩, hb5⟩
  have Fl5 := Lib.hid (Fl4.out.below hb5)
  have Fv5 := Lib.hid (Fv4.out.below hb5)
  have l5 := Lib.hid (l4.out.trans (hb5.mono l4.out.size))
  rw [HLN.out] at ho5
  obtain ⟨Ab, cb, rfl, _, hr5, nnb⟩ := rd_ownN ho5
  have Fb5 := Lib.hid hr5
  have Nb := Lib.hid nnb
  clear Fl4 Fv4 l4 hr5 ho5 nnb hb5
  go_wp2_with fail
  refine (CP.out _ _ _ Fb5.out).mono ?_
  rintro e w6 ⟨⟨v6, rfl, ho6⟩, hb6⟩
  have Fl6 := Lib.hid (Fl5.out.below hb6)
  have Fv6 := Lib.hid (Fv5.out.below hb6)
  have l6 := Lib.hid (l5.out.trans (hb6.mono l5.out.size))
  obtain ⟨Ap, cp, rfl, _, hr6, nnp⟩ := rd_ownN ho6
  have Fp6 := Lib.hid hr6
  have Np := Lib.hid nnp
  clear Fl5 Fv5 Fb5 l5 hr6 ho6 nnp hb6
  go_wp2_with fail
  refine (copyInts_any _ n c xs _ HA.out Fl6.out HN.out).mono ?_
  rintro e w7 ⟨⟨v7, rfl, ho7⟩, hb7⟩
  have Fl7 := Lib.hid (Fl6.out.below hb7)
  have Fv7 := Lib.hid (Fv6.out.below hb7)
  have Fp7 := Lib.hid (Fp6.out.below hb7)
  have l7 := Lib.hid (l6.out.trans (hb7.mono l6.out.size))
  rw [HLN.out] at ho7
  obtain ⟨Ad, cd, rfl, _, hr7, nnd⟩ := rd_ownN ho7
  have Fd7 := Lib.hid hr7
  have Nd := Lib.hid nnd
  clear Fl6 Fv6 Fp6 l6 hr7 ho7 nnd hb7
  go_wp2_with fail
  refine (CJ.out _ _ _ Fd7.out).mono ?_
  rintro e w8 ⟨⟨v8, rfl, ho8⟩, hb8⟩
  have Fl8 := Lib.hid (Fl7.out.below hb8)
  have Fv8 := Lib.hid (Fv7.out.below hb8)
  have Fp8 := Lib.hid (Fp7.out.below hb8)
  have l8 := Lib.hid (l7.out.trans (hb8.mono l7.out.size))
  obtain ⟨Aj, cj, rfl, _, hr8, nnj⟩ := rd_ownN ho8
  have Fj8 := Lib.hid hr8
  have Nj := Lib.hid nnj
  clear Fl7 Fv7 Fp7 Fd7 l7 hr8 ho8 nnj hb8
  go_wp2_with fail
  refine (CW.out _ _ _ Fl8.out).mono ?_
  rintro e w9 ⟨⟨v9, rfl, ho9⟩, hb9⟩
  have Fl9 := Lib.hid (Fl8.out.below hb9)
  have Fv9 := Lib.hid (Fv8.out.below hb9)
  have Fp9 := Lib.hid (Fp8.out.below hb9)
  have Fj9 := Lib.hid (Fj8.out.below hb9)
  have l9 := Lib.hid (l8.out.trans (hb9.mono l8.out.size))
  obtain ⟨Aq, cq, rfl, _, hr9, nnq⟩ := rd_ownN ho9
  have Fq9 := Lib.hid hr9
  have Nq := Lib.hid nnq
  clear Fl8 Fv8 Fp8 Fj8 l8 hr9 ho9 nnq hb9
  go_wp2_with fail
  refine (ints_any _ _ _ _ _ _ PL PL _ Fp9.out Fq9.out HPL.out HPL.out).mono ?_
  rintro e w' ⟨rfl, kk10, rfl⟩
  have hb10 : Below w9.heap.size w9 (w9.drewN kk10) := belowDrewN (Below.refl _ _) kk10
  obtain ⟨w10, hw10⟩ : ∃ W, w9.drewN kk10 = W := ⟨_, rfl⟩
  rw [hw10] at hb10 ⊢
  have Fl10 := Lib.hid (Fl9.out.below hb10)
  have Fv10 := Lib.hid (Fv9.out.below hb10)
  have Fj10 := Lib.hid (Fj9.out.below hb10)
  have l10 := Lib.hid (l9.out.trans (hb10.mono l9.out.size))
  clear Fl9 Fv9 Fp9 Fj9 Fq9 l9 hb10 hw10
  go_wp2_with fail
  refine (CE.out _ _ _ Fl10.out).mono ?_
  rintro e w' ⟨rfl, rfl⟩
  go_wp2_with fail
  refine (CLIM.out _).mono ?_
  rintro e w' ⟨rfl, rfl⟩
  go_wp2_with fail
  refine (CRJ.out _ _ _ Fl10.out).mono ?_
  rintro e w13 ⟨⟨v13, rfl, ho13⟩, hb13⟩
  have Fl13 := Lib.hid (Fl10.out.below hb13)
  have Fv13 := Lib.hid (Fv10.out.below hb13)
  have Fj13 := Lib.hid (Fj10.out.below hb13)
  have l13 := Lib.hid (l10.out.trans (hb13.mono l10.out.size))
  obtain ⟨Ak, ck, rfl, _, hr13, nnk⟩ := rd_ownN ho13
  have Fk13 := Lib.hid hr13
  have Nk := Lib.hid nnk
  clear Fl10 Fv10 Fj10 l10 hr13 ho13 nnk hb13
  go_wp2_with fail
  refine (ints_any _ _ _ _ _ _ jx jx _ Fj13.out Fk13.out HJL.out HJL.out).mono ?_
  rintro e w' ⟨rfl, kk14, rfl⟩
  have hb14 : Below w13.heap.size w13 (w13.drewN kk14) := belowDrewN (Below.refl _ _) kk14
  obtain ⟨w14, hw14⟩ : ∃ W, w13.drewN kk14 = W := ⟨_, rfl⟩
  rw [hw14] at hb14 ⊢
  have Fl14 := Lib.hid (Fl13.out.below hb14)
  have Fv14 := Lib.hid (Fv13.out.below hb14)
  have l14 := Lib.hid (l13.out.trans (hb14.mono l13.out.size))
  clear Fl13 Fv13 Fj13 Fk13 l13 hb14 hw14
  go_wp2
  go_ret
  exact ⟨rfl, l14.out⟩

end Go.Proofs.YtdfaeoamighcgaaDoor
