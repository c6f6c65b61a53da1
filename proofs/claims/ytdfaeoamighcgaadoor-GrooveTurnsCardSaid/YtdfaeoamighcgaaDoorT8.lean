import Derived.Test.YtdfaeoamighcgaaDoorT1
import Derived.Test.YtdfaeoamighcgaaDoorT2
import Derived.Test.YtdfaeoamighcgaaDoorT4
namespace Go.Proofs.YtdfaeoamighcgaaDoor
open Go.RowKit

set_option maxRecDepth 100000 in
set_option maxHeartbeats 4000000 in
theorem turns_ok (A : Option Addr) (n c : Nat) (rows : List (List Int)) (limit : Int) (w : World) (hl : LaidSides w) (hr : RdGN w A n rows) (hn : n ≤ 22) (hm : ∀ j, j < n → (rows.getD j []).length ≤ 203) (E d dl : Int) (L : List Int) (hE : brkE rows limit = E) (hL : brkL rows limit = L) (hd : turnsE rows = d) (hdl : limE limit = dl) (k0 : d = 0) (k1 : dl = 0) (k2 : E = 0) (hlb : 0 ≤ limit ∧ limit ≤ 2000000) (hLL : L = brkTo rows limit n) :
    Calls Tryd.prog 14 #[.slice A n c, .int .i64 limit] w fun e w' => e = .returned (.bool true) ∧ Below w.heap.size w w' := by
  have HL := Lib.hid hl
  have HR := Lib.hid hr
  have HLN : Hid (rows.length = n) := hr.1
  clear hl hr
  have HN : Hid (n ≤ 1000000) := by show _ ≤ _; omega
  have h22 : ¬ (22 : Int) < (n : Int) := by omega
  have HM : Hid (True ∧ ∀ j, j < n → (rows.getD j []).length ≤ 203) := ⟨trivial, hm⟩
  clear hm
  have CB : Hid (∀ W A c, RdGN W A n rows → Calls Tryd.prog 71 #[.slice A n c, .int .i64 limit] W (OwnRes W E L)) := fun W A c h => by rw [← hE, ← hL]; exact BreaksBetween_any A n c rows limit W h HN.out
  have CT : Hid (∀ W A c, RdGN W A n rows → Calls Tryd.prog 72 #[.slice A n c] W fun e w' => e = .returned (.int .i64 d) ∧ W = w') := fun W A c h => by rw [← hd]; exact refTurnsErr_any A n c rows W h (by omega)
  have CLIM : Hid (∀ W, Calls Tryd.prog 65 #[.int .i64 limit] W fun e w' => e = .returned (.int .i64 dl) ∧ W = w') := fun W => by rw [← hdl]; exact refLimErr_any limit W
  have CRB : Hid (∀ W A c, RdGN W A n rows → Calls Tryd.prog 73 #[.slice A n c, .int .i64 limit] W (OwnS W L)) := fun W A c h => by rw [hLL]; exact refBreaks_any A n c rows limit W h HN.out (hd.trans k0) hlb
  have HLL : Hid (L.length ≤ 9223372036854775806) := by show _ ≤ _; rw [hLL]; have := brkTo_length rows limit n; omega
  clear hE hL hd hdl hLL
  subst k0 k1 k2
  go_enter Tryd.func14, Tryd.ntmps14
  go_wp2_with fail
  refine (awake_any _ HL.out).mono ?_
  rintro e w1 ⟨rfl, hb1⟩
  have F1 := Lib.hid (HR.out.below hb1)
  have l1 := Lib.hid hb1
  clear HR HL hb1
  go_wp2
  go_loop [5] (fun i => ∃ k : Nat, k ≤ n ∧ i = .int .i64 k) (fun i => n - (intOf i).toNat)
  case atStart => exact ⟨0, Nat.zero_le _, rfl⟩
  case round =>
    obtain ⟨k, hk, rfl⟩ := hrel
    by_cases hlt : k < n
    · obtain ⟨ad, ha, _, hc⟩ := F1.out.2 (by omega)
      obtain ⟨B, m, c', hck, hrow, _, _⟩ := hc k hlt
      have hm2 := HM.out.2 k hlt
      rw [hrow.1] at hm2
      clear hc hrow
      subst ha
      have C : Hid (∀ (W : World), Calls Tryd.prog 59 #[.slice B m c'] W fun e w' => e = .returned (.bool true) ∧ W = w') := fun W => by have h := long_any B m c' W; rw [decide_eq_true hm2] at h; exact h
      have hkI : (k : Int) < (n : Int) := by omega
      clear hm2
      go_wp2_with fail
      refine (C.out _).mono ?_
      rintro e w' ⟨rfl, rfl⟩
      go_wp2
      go_round
      case rel => exact ⟨k + 1, by omega, by go_num⟩
      case measure => simp [intOf]; omega
    · have hkI : ¬ (k : Int) < (n : Int) := by omega
      obtain rfl : n = k := by omega
      clear hlt hk hkI
      go_wp2_with fail
      refine (copyLists_any A n c rows _ F1.out HN.out HM.out.2).mono ?_
      rintro e w2 ⟨⟨v, rfl, ho⟩, hb⟩
      obtain ⟨A2, c2, rfl, hr2⟩ := ho.read HLN.out HM.out.2
      have F2 := Lib.hid (F1.out.below hb)
      have G2 := Lib.hid hr2
      have l2 := Lib.hid (l1.out.trans (hb.mono l1.out.size))
      clear ho hb hr2 F1 l1
      go_wp2_with fail
      refine (CB.out _ _ _ G2.out).mono ?_
      rintro e w3 ⟨⟨v, rfl, ho⟩, hb⟩
      obtain ⟨A3, c3, rfl, _, hr3, _⟩ := rd_ownN ho
      have F3 := Lib.hid (F2.out.below hb)
      have G3 := Lib.hid hr3
      have l3 := Lib.hid (l2.out.trans (hb.mono l2.out.size))
      clear ho hb hr3 F2 G2 l2
      go_wp2_with fail
      refine (CT.out _ _ _ F3.out).mono ?_
      rintro e w' ⟨rfl, rfl⟩
      go_wp2_with fail
      refine (CLIM.out _).mono ?_
      rintro e w' ⟨rfl, rfl⟩
      go_wp2_with fail
      refine (CRB.out _ _ _ F3.out).mono ?_
      rintro e w4 ⟨⟨v, rfl, ho⟩, hb⟩
      obtain ⟨A4, c4, rfl, _, hr4, _⟩ := rd_ownN ho
      have G4 := Lib.hid (G3.out.below hb)
      have H4 := Lib.hid hr4
      have l4 := Lib.hid (l3.out.trans (hb.mono l3.out.size))
      clear ho hb hr4 F3 G3 l3
      go_wp2_with fail
      refine (ints_any _ _ _ _ _ _ L L _ G4.out H4.out HLL.out HLL.out).mono ?_
      rintro e w' ⟨rfl, kz, rfl⟩
      go_wp2
      go_ret
      exact ⟨rfl, belowDrewN l4.out kz⟩

end Go.Proofs.YtdfaeoamighcgaaDoor
