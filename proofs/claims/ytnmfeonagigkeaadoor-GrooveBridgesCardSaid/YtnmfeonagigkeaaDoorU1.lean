import Derived.Test.YtnmfeonagigkeaaDoorU0
namespace Go.Proofs.YtnmfeonagigkeaaDoor
open Go.RowKit

set_option maxRecDepth 100000 in
set_option maxHeartbeats 8000000 in
theorem bridges_err1n (A : Option Addr) (n c : Nat) (xs : List Int) (B : Option Addr) (k cB : Nat) (gs : List (Int × Int)) (w : World) (hl : LaidSides w) (hA : A = none → n = 0 ∧ c = 0) (hB : B = none → k = 0 ∧ cB = 0) (hr : RdI w A n xs) (hg : RdP w B k gs) (hn : n ≤ 203) (hk : k ≤ 20) (hBn : B = none) (d : Int) (hd : posE xs = d) (hd0 : (d != 0) = true) :
    Calls Tryd.prog 5 #[.slice A n c, .slice B k cB] w fun e w' => e = .returned (.bool true) ∧ Below w.heap.size w w' := by
  have HL := Lib.hid hl
  have HA := Lib.hid hA
  have HB := Lib.hid hB
  have HR := Lib.hid hr
  have HG := Lib.hid hg
  have HXL : Hid (xs.length = n) := hr.1
  have HGL : Hid (gs.length = k) := hg.1
  clear hl hA hB hr hg
  have HN : Hid (n ≤ 1000000) := by show _ ≤ _; omega
  have HK : Hid (k ≤ 1000) := by show _ ≤ _; omega
  have CLONG : Hid (∀ (W : World) (c : Nat), Calls Tryd.prog 26 #[.slice A n c] W fun e w' => e = .returned (.bool true) ∧ W = w') := fun W c => by have h := long_any A n c W; rw [decide_eq_true hn] at h; exact h
  have hkI : ¬ (20 : Int) < (k : Int) := by omega
  obtain ⟨i0, hi, hz0, hz1, hz2⟩ := info_parts rngInfo
  have CE : Hid (∀ W, RdI W A n xs → Calls Tryd.prog 29 #[.slice A n c] W fun e w' => e = .returned (.int .i64 d) ∧ W = w') := fun W h => by rw [← hd]; exact refPosErr_any A n c xs W h (by omega)
  have CB : Hid (∀ W A c g cm, RdI W A n xs → RdR W g k gs → Calls Tryd.prog 27 #[.slice A n c, .slice (some ⟨g, 0, none⟩) k cm] W (OwnRes W d [])) := fun W A c g cm h1 h2 => by
    have e1 : brE xs gs = d := by unfold brE; rw [if_neg (by rw [hd]; simpa using hd0), hd]
    have e2 : brL xs gs = [] := by unfold brL; rw [if_neg (by rw [e1]; simpa using hd0)]
    rw [← e1, ← e2]
    exact Bridged_any A n c g k cm xs gs W h1 h2 HN.out (by omega)
  have hdd : (d == d) = true := by simp
  have hd1 : (d == 0) = false := by simpa using hd0
  clear hd hn hk
  subst hBn
  obtain ⟨rfl, rfl⟩ := HB.out rfl
  obtain rfl : gs = [] := List.eq_nil_of_length_eq_zero HGL.out
  go_enter Tryd.func5, Tryd.ntmps5
  go_wp2_with fail
  refine (awake_any _ HL.out).mono ?_
  rintro e w1 ⟨rfl, hb1⟩
  have Fx1 := Lib.hid (HR.out.below hb1)
  have Fg1 := Lib.hid (HG.out.below hb1)
  have low1 := Lib.hid hb1
  clear hb1 HR HG HL
  go_wp2_with fail
  refine (CLONG.out _ _).mono ?_
  rintro e w' ⟨rfl, rfl⟩
  go_wp2_with fail
  refine (copyInts_any A n c xs _ HA.out Fx1.out HN.out).mono ?_
  rintro e w2 ⟨⟨v2, rfl, ho2⟩, hb2⟩
  have Fx2 := Lib.hid (Fx1.out.below hb2)
  have Fg2 := Lib.hid (Fg1.out.below hb2)
  have low2 := Lib.hid (low1.out.trans (hb2.mono low1.out.size))
  rw [HXL.out] at ho2
  obtain ⟨Aa, ca, rfl, _, hra, na⟩ := rd_ownN ho2
  have Fa := Lib.hid hra
  clear hb2 Fx1 Fg1 low1 ho2 hra na
  have ho : Hid ((w2.alloc (.cells #[] 28)).ownsRow w2.heap.size 28 2 (.slice (some ⟨w2.heap.size, 0, none⟩) 0 0) 0 ([] : List Value)) := World.ownsRow_lit w2 #[] 0 (Nat.le_refl _) (by unfold maxLen; omega) rfl
  go_wp2_with (at_builtin; refine wpList_append_own_none rfl (.tmp 26) (.tmp 27) 65 rfl w2.heap.size 28 i0 2 Tryd.underlying65 hi _ _ _ rfl ho.out rfl ?_)
  have hb3 : Below w2.heap.size w2 (w2.alloc (.cells #[] 28)) := (Below.refl _ _).alloc (Nat.le_refl _) _
  have hrd3 := rdR_of_own ho.out rfl (ps := [])
  obtain ⟨g, hgg⟩ : ∃ g, w2.heap.size = g := ⟨_, rfl⟩
  obtain ⟨w3, hw3⟩ : ∃ W, w2.alloc (.cells #[] 28) = W := ⟨_, rfl⟩
  rw [hgg] at hrd3
  rw [hw3] at hb3 hrd3 ⊢
  try rw [hgg]
  have FG := Lib.hid hrd3
  have Fx3 := Lib.hid (Fx2.out.below hb3)
  have Fg3 := Lib.hid (Fg2.out.below hb3)
  have Fa3 := Lib.hid (Fa.out.below hb3)
  have low3 := Lib.hid (low2.out.trans (hb3.mono low2.out.size))
  clear ho hb3 hw3 hgg hrd3 Fx2 Fg2 Fa low2
  go_wp2_with fail
  refine (CB.out _ _ _ _ _ Fa3.out FG.out).mono ?_
  rintro e w4 ⟨⟨v4, rfl, ho4⟩, hb4⟩
  have Fx4 := Lib.hid (Fx3.out.below hb4)
  have Fg4 := Lib.hid (Fg3.out.below hb4)
  have low4 := Lib.hid (low3.out.trans (hb4.mono low3.out.size))
  obtain ⟨Ay, cy, rfl, _, hry, ny⟩ := rd_ownN ho4
  have Fy := Lib.hid hry
  clear hb4 Fx3 Fg3 Fa3 low3 ho4 hry ny FG
  go_wp2_with fail
  refine (CE.out _ Fx4.out).mono ?_
  rintro e w' ⟨rfl, rfl⟩
  go_wp2
  go_ret
  exact ⟨rfl, low4.out⟩

set_option maxRecDepth 100000 in
set_option maxHeartbeats 8000000 in
theorem bridges_err2n (A : Option Addr) (n c : Nat) (xs : List Int) (B : Option Addr) (k cB : Nat) (gs : List (Int × Int)) (w : World) (hl : LaidSides w) (hA : A = none → n = 0 ∧ c = 0) (hB : B = none → k = 0 ∧ cB = 0) (hr : RdI w A n xs) (hg : RdP w B k gs) (hn : n ≤ 203) (hk : k ≤ 20) (hBn : B = none) (hd : posE xs = 0) (d2 : Int) (hd2 : gapsE n gs = d2) (hd0 : (d2 != 0) = true) :
    Calls Tryd.prog 5 #[.slice A n c, .slice B k cB] w fun e w' => e = .returned (.bool true) ∧ Below w.heap.size w w' := by
  have HL := Lib.hid hl
  have HA := Lib.hid hA
  have HB := Lib.hid hB
  have HR := Lib.hid hr
  have HG := Lib.hid hg
  have HXL : Hid (xs.length = n) := hr.1
  have HGL : Hid (gs.length = k) := hg.1
  clear hl hA hB hr hg
  have HN : Hid (n ≤ 1000000) := by show _ ≤ _; omega
  have HK : Hid (k ≤ 1000) := by show _ ≤ _; omega
  have CLONG : Hid (∀ (W : World) (c : Nat), Calls Tryd.prog 26 #[.slice A n c] W fun e w' => e = .returned (.bool true) ∧ W = w') := fun W c => by have h := long_any A n c W; rw [decide_eq_true hn] at h; exact h
  have hkI : ¬ (20 : Int) < (k : Int) := by omega
  obtain ⟨i0, hi, hz0, hz1, hz2⟩ := info_parts rngInfo
  have CE : Hid (∀ W, RdI W A n xs → Calls Tryd.prog 29 #[.slice A n c] W fun e w' => e = .returned (.int .i64 0) ∧ W = w') := fun W h => by rw [← hd]; exact refPosErr_any A n c xs W h (by omega)
  have CGE : Hid (∀ W, RdP W B k gs → Calls Tryd.prog 30 #[.int .i64 n, .slice B k cB] W fun e w' => e = .returned (.int .i64 d2) ∧ Below W.heap.size W w') := fun W h => by rw [← hd2]; exact refGapsErr_any n B k cB gs W h HK.out (by omega)
  have CB : Hid (∀ W A c g cm, RdI W A n xs → RdR W g k gs → Calls Tryd.prog 27 #[.slice A n c, .slice (some ⟨g, 0, none⟩) k cm] W (OwnRes W d2 [])) := fun W A c g cm h1 h2 => by
    have e1 : brE xs gs = d2 := by unfold brE; rw [if_pos hd, HXL.out, hd2]
    have e2 : brL xs gs = [] := by unfold brL; rw [if_neg (by rw [e1]; simpa using hd0)]
    rw [← e1, ← e2]
    exact Bridged_any A n c g k cm xs gs W h1 h2 HN.out (by omega)
  have hdd : (d2 == d2) = true := by simp
  clear hd hd2 hn hk
  subst hBn
  obtain ⟨rfl, rfl⟩ := HB.out rfl
  obtain rfl : gs = [] := List.eq_nil_of_length_eq_zero HGL.out
  go_enter Tryd.func5, Tryd.ntmps5
  go_wp2_with fail
  refine (awake_any _ HL.out).mono ?_
  rintro e w1 ⟨rfl, hb1⟩
  have Fx1 := Lib.hid (HR.out.below hb1)
  have Fg1 := Lib.hid (HG.out.below hb1)
  have low1 := Lib.hid hb1
  clear hb1 HR HG HL
  go_wp2_with fail
  refine (CLONG.out _ _).mono ?_
  rintro e w' ⟨rfl, rfl⟩
  go_wp2_with fail
  refine (copyInts_any A n c xs _ HA.out Fx1.out HN.out).mono ?_
  rintro e w2 ⟨⟨v2, rfl, ho2⟩, hb2⟩
  have Fx2 := Lib.hid (Fx1.out.below hb2)
  have Fg2 := Lib.hid (Fg1.out.below hb2)
  have low2 := Lib.hid (low1.out.trans (hb2.mono low1.out.size))
  rw [HXL.out] at ho2
  obtain ⟨Aa, ca, rfl, _, hra, na⟩ := rd_ownN ho2
  have Fa := Lib.hid hra
  clear hb2 Fx1 Fg1 low1 ho2 hra na
  have ho : Hid ((w2.alloc (.cells #[] 28)).ownsRow w2.heap.size 28 2 (.slice (some ⟨w2.heap.size, 0, none⟩) 0 0) 0 ([] : List Value)) := World.ownsRow_lit w2 #[] 0 (Nat.le_refl _) (by unfold maxLen; omega) rfl
  go_wp2_with (at_builtin; refine wpList_append_own_none rfl (.tmp 26) (.tmp 27) 65 rfl w2.heap.size 28 i0 2 Tryd.underlying65 hi _ _ _ rfl ho.out rfl ?_)
  have hb3 : Below w2.heap.size w2 (w2.alloc (.cells #[] 28)) := (Below.refl _ _).alloc (Nat.le_refl _) _
  have hrd3 := rdR_of_own ho.out rfl (ps := [])
  obtain ⟨g, hgg⟩ : ∃ g, w2.heap.size = g := ⟨_, rfl⟩
  obtain ⟨w3, hw3⟩ : ∃ W, w2.alloc (.cells #[] 28) = W := ⟨_, rfl⟩
  rw [hgg] at hrd3
  rw [hw3] at hb3 hrd3 ⊢
  try rw [hgg]
  have FG := Lib.hid hrd3
  have Fx3 := Lib.hid (Fx2.out.below hb3)
  have Fg3 := Lib.hid (Fg2.out.below hb3)
  have Fa3 := Lib.hid (Fa.out.below hb3)
  have low3 := Lib.hid (low2.out.trans (hb3.mono low2.out.size))
  clear ho hb3 hw3 hgg hrd3 Fx2 Fg2 Fa low2
  go_wp2_with fail
  refine (CB.out _ _ _ _ _ Fa3.out FG.out).mono ?_
  rintro e w4 ⟨⟨v4, rfl, ho4⟩, hb4⟩
  have Fx4 := Lib.hid (Fx3.out.below hb4)
  have Fg4 := Lib.hid (Fg3.out.below hb4)
  have low4 := Lib.hid (low3.out.trans (hb4.mono low3.out.size))
  obtain ⟨Ay, cy, rfl, _, hry, ny⟩ := rd_ownN ho4
  have Fy := Lib.hid hry
  clear hb4 Fx3 Fg3 Fa3 low3 ho4 hry ny FG
  go_wp2_with fail
  refine (CE.out _ Fx4.out).mono ?_
  rintro e w' ⟨rfl, rfl⟩
  go_wp2_with fail
  refine (CGE.out _ Fg4.out).mono ?_
  rintro e w5 ⟨rfl, hb5⟩
  have Fx5 := Lib.hid (Fx4.out.below hb5)
  have Fg5 := Lib.hid (Fg4.out.below hb5)
  have Fy5 := Lib.hid (Fy.out.below hb5)
  have low5 := Lib.hid (low4.out.trans (hb5.mono low4.out.size))
  clear hb5 Fx4 Fg4 Fy low4
  go_wp2
  go_ret
  exact ⟨rfl, low5.out⟩

set_option maxRecDepth 100000 in
set_option maxHeartbeats 8000000 in
theorem bridges_err1s (A : Option Addr) (n c : Nat) (xs : List Int) (B : Option Addr) (k cB : Nat) (gs : List (Int × Int)) (w : World) (hl : LaidSides w) (hA : A = none → n = 0 ∧ c = 0) (hB : B = none → k = 0 ∧ cB = 0) (hr : RdI w A n xs) (hg : RdP w B k gs) (hn : n ≤ 203) (hk : k ≤ 20) (ad : Addr) (hBs : B = some ad) (d : Int) (hd : posE xs = d) (hd0 : (d != 0) = true) :
    Calls Tryd.prog 5 #[.slice A n c, .slice B k cB] w fun e w' => e = .returned (.bool true) ∧ Below w.heap.size w w' := by
  have HL := Lib.hid hl
  have HA := Lib.hid hA
  have HB := Lib.hid hB
  have HR := Lib.hid hr
  have HG := Lib.hid hg
  have HXL : Hid (xs.length = n) := hr.1
  have HGL : Hid (gs.length = k) := hg.1
  clear hl hA hB hr hg
  have HN : Hid (n ≤ 1000000) := by show _ ≤ _; omega
  have HK : Hid (k ≤ 1000) := by show _ ≤ _; omega
  have CLONG : Hid (∀ (W : World) (c : Nat), Calls Tryd.prog 26 #[.slice A n c] W fun e w' => e = .returned (.bool true) ∧ W = w') := fun W c => by have h := long_any A n c W; rw [decide_eq_true hn] at h; exact h
  have hkI : ¬ (20 : Int) < (k : Int) := by omega
  obtain ⟨i0, hi, hz0, hz1, hz2⟩ := info_parts rngInfo
  have CE : Hid (∀ W, RdI W A n xs → Calls Tryd.prog 29 #[.slice A n c] W fun e w' => e = .returned (.int .i64 d) ∧ W = w') := fun W h => by rw [← hd]; exact refPosErr_any A n c xs W h (by omega)
  have CB : Hid (∀ W A c g cm, RdI W A n xs → RdR W g k gs → Calls Tryd.prog 27 #[.slice A n c, .slice (some ⟨g, 0, none⟩) k cm] W (OwnRes W d [])) := fun W A c g cm h1 h2 => by
    have e1 : brE xs gs = d := by unfold brE; rw [if_neg (by rw [hd]; simpa using hd0), hd]
    have e2 : brL xs gs = [] := by unfold brL; rw [if_neg (by rw [e1]; simpa using hd0)]
    rw [← e1, ← e2]
    exact Bridged_any A n c g k cm xs gs W h1 h2 HN.out (by omega)
  have hdd : (d == d) = true := by simp
  have hd1 : (d == 0) = false := by simpa using hd0
  clear hd hn hk
  subst hBs
  go_enter Tryd.func5, Tryd.ntmps5
  go_wp2_with fail
  refine (awake_any _ HL.out).mono ?_
  rintro e w1 ⟨rfl, hb1⟩
  have Fx1 := Lib.hid (HR.out.below hb1)
  have Fg1 := Lib.hid (HG.out.below hb1)
  have low1 := Lib.hid hb1
  clear hb1 HR HG HL
  go_wp2_with fail
  refine (CLONG.out _ _).mono ?_
  rintro e w' ⟨rfl, rfl⟩
  go_wp2_with fail
  refine (copyInts_any A n c xs _ HA.out Fx1.out HN.out).mono ?_
  rintro e w2 ⟨⟨v2, rfl, ho2⟩, hb2⟩
  have Fx2 := Lib.hid (Fx1.out.below hb2)
  have Fg2 := Lib.hid (Fg1.out.below hb2)
  have low2 := Lib.hid (low1.out.trans (hb2.mono low1.out.size))
  rw [HXL.out] at ho2
  obtain ⟨Aa, ca, rfl, _, hra, na⟩ := rd_ownN ho2
  have Fa := Lib.hid hra
  clear hb2 Fx1 Fg1 low1 ho2 hra na
  have ho : Hid ((w2.alloc (.cells #[] 28)).ownsRow w2.heap.size 28 2 (.slice (some ⟨w2.heap.size, 0, none⟩) 0 0) 0 ([] : List Value)) := World.ownsRow_lit w2 #[] 0 (Nat.le_refl _) (by unfold maxLen; omega) rfl
  have hlen : Hid ((pairCells gs).length = k * 2) := by show _ = _; rw [pairCells_length, HGL.out]
  have hsrc : Hid (∀ j u, (pairCells gs)[j]? = some u → (w2.alloc (.cells #[] 28)).cell? (ad.add j) = some u) := rng_src Fg2.out _
  have hone : Hid (∀ u ∈ pairCells gs, u.oneCell' = true) := pairCells_one gs
  obtain ⟨news, hnews⟩ : ∃ news, pairCells gs = news := ⟨_, rfl⟩
  rw [hnews] at hlen hsrc hone
  have HNW := Lib.hid hnews
  clear hnews
  go_wp2_with (at_builtin; refine wpList_append_own _ rfl (.tmp 26) (.tmp 27) 65 rfl w2.heap.size 28 i0 _ 2 16 Tryd.underlying65 hi hz0 hz1 hz2 rfl (by decide) _ _ _ rfl ho.out ad k cB news rfl hlen.out hsrc.out hone.out (by unfold maxLen; omega) (by omega) (by simp) ?_)
  intro v w3 ho2 hg2 hnil
  have hb3 : Below w2.heap.size w2 w3 := ((Below.refl _ _).alloc (Nat.le_refl _) _).grown hg2 (by simp) (fun g hg => (ho.out.lt g hg).1)
  have hv : ∃ g cap, v = .slice (some ⟨g, 0, none⟩) k cap := by
    have h2 := ho2.2
    rcases h2 with ⟨e, h0⟩ | ⟨g, cap, cur, e, _⟩
    · exact absurd e hnil
    · exact ⟨g, cap, by rw [e]⟩
  obtain ⟨g, cap, rfl⟩ := hv
  have FG : Hid (RdR w3 g k gs) := by
    refine rdR_of_own (base := w2.heap.size) (t := 28) (cap := cap) ?_ HGL.out
    rw [HNW.out]
    simpa using ho2
  have Fx3 := Lib.hid (Fx2.out.below hb3)
  have Fg3 := Lib.hid (Fg2.out.below hb3)
  have Fa3 := Lib.hid (Fa.out.below hb3)
  have low3 := Lib.hid (low2.out.trans (hb3.mono low2.out.size))
  clear ho ho2 hg2 hnil hlen hsrc hone HNW hb3 Fx2 Fg2 Fa low2
  go_wp2_with fail
  refine (CB.out _ _ _ _ _ Fa3.out FG.out).mono ?_
  rintro e w4 ⟨⟨v4, rfl, ho4⟩, hb4⟩
  have Fx4 := Lib.hid (Fx3.out.below hb4)
  have Fg4 := Lib.hid (Fg3.out.below hb4)
  have low4 := Lib.hid (low3.out.trans (hb4.mono low3.out.size))
  obtain ⟨Ay, cy, rfl, _, hry, ny⟩ := rd_ownN ho4
  have Fy := Lib.hid hry
  clear hb4 Fx3 Fg3 Fa3 low3 ho4 hry ny FG
  go_wp2_with fail
  refine (CE.out _ Fx4.out).mono ?_
  rintro e w' ⟨rfl, rfl⟩
  go_wp2
  go_ret
  exact ⟨rfl, low4.out⟩

set_option maxRecDepth 100000 in
set_option maxHeartbeats 8000000 in
theorem bridges_err2s (A : Option Addr) (n c : Nat) (xs : List Int) (B : Option Addr) (k cB : Nat) (gs : List (Int × Int)) (w : World) (hl : LaidSides w) (hA : A = none → n = 0 ∧ c = 0) (hB : B = none → k = 0 ∧ cB = 0) (hr : RdI w A n xs) (hg : RdP w B k gs) (hn : n ≤ 203) (hk : k ≤ 20) (ad : Addr) (hBs : B = some ad) (hd : posE xs = 0) (d2 : Int) (hd2 : gapsE n gs = d2) (hd0 : (d2 != 0) = true) :
    Calls Tryd.prog 5 #[.slice A n c, .slice B k cB] w fun e w' => e = .returned (.bool true) ∧ Below w.heap.size w w' := by
  have HL := Lib.hid hl
  have HA := Lib.hid hA
  have HB := Lib.hid hB
  have HR := Lib.hid hr
  have HG := Lib.hid hg
  have HXL : Hid (xs.length = n) := hr.1
  have HGL : Hid (gs.length = k) := hg.1
  clear hl hA hB hr hg
  have HN : Hid (n ≤ 1000000) := by show _ ≤ _; omega
  have HK : Hid (k ≤ 1000) := by show _ ≤ _; omega
  have CLONG : Hid (∀ (W : World) (c : Nat), Calls Tryd.prog 26 #[.slice A n c] W fun e w' => e = .returned (.bool true) ∧ W = w') := fun W c => by have h := long_any A n c W; rw [decide_eq_true hn] at h; exact h
  have hkI : ¬ (20 : Int) < (k : Int) := by omega
  obtain ⟨i0, hi, hz0, hz1, hz2⟩ := info_parts rngInfo
  have CE : Hid (∀ W, RdI W A n xs → Calls Tryd.prog 29 #[.slice A n c] W fun e w' => e = .returned (.int .i64 0) ∧ W = w') := fun W h => by rw [← hd]; exact refPosErr_any A n c xs W h (by omega)
  have CGE : Hid (∀ W, RdP W B k gs → Calls Tryd.prog 30 #[.int .i64 n, .slice B k cB] W fun e w' => e = .returned (.int .i64 d2) ∧ Below W.heap.size W w') := fun W h => by rw [← hd2]; exact refGapsErr_any n B k cB gs W h HK.out (by omega)
  have CB : Hid (∀ W A c g cm, RdI W A n xs → RdR W g k gs → Calls Tryd.prog 27 #[.slice A n c, .slice (some ⟨g, 0, none⟩) k cm] W (OwnRes W d2 [])) := fun W A c g cm h1 h2 => by
    have e1 : brE xs gs = d2 := by unfold brE; rw [if_pos hd, HXL.out, hd2]
    have e2 : brL xs gs = [] := by unfold brL; rw [if_neg (by rw [e1]; simpa using hd0)]
    rw [← e1, ← e2]
    exact Bridged_any A n c g k cm xs gs W h1 h2 HN.out (by omega)
  have hdd : (d2 == d2) = true := by simp
  clear hd hd2 hn hk
  subst hBs
  go_enter Tryd.func5, Tryd.ntmps5
  go_wp2_with fail
  refine (awake_any _ HL.out).mono ?_
  rintro e w1 ⟨rfl, hb1⟩
  have Fx1 := Lib.hid (HR.out.below hb1)
  have Fg1 := Lib.hid (HG.out.below hb1)
  have low1 := Lib.hid hb1
  clear hb1 HR HG HL
  go_wp2_with fail
  refine (CLONG.out _ _).mono ?_
  rintro e w' ⟨rfl, rfl⟩
  go_wp2_with fail
  refine (copyInts_any A n c xs _ HA.out Fx1.out HN.out).mono ?_
  rintro e w2 ⟨⟨v2, rfl, ho2⟩, hb2⟩
  have Fx2 := Lib.hid (Fx1.out.below hb2)
  have Fg2 := Lib.hid (Fg1.out.below hb2)
  have low2 := Lib.hid (low1.out.trans (hb2.mono low1.out.size))
  rw [HXL.out] at ho2
  obtain ⟨Aa, ca, rfl, _, hra, na⟩ := rd_ownN ho2
  have Fa := Lib.hid hra
  clear hb2 Fx1 Fg1 low1 ho2 hra na
  have ho : Hid ((w2.alloc (.cells #[] 28)).ownsRow w2.heap.size 28 2 (.slice (some ⟨w2.heap.size, 0, none⟩) 0 0) 0 ([] : List Value)) := World.ownsRow_lit w2 #[] 0 (Nat.le_refl _) (by unfold maxLen; omega) rfl
  have hlen : Hid ((pairCells gs).length = k * 2) := by show _ = _; rw [pairCells_length, HGL.out]
  have hsrc : Hid (∀ j u, (pairCells gs)[j]? = some u → (w2.alloc (.cells #[] 28)).cell? (ad.add j) = some u) := rng_src Fg2.out _
  have hone : Hid (∀ u ∈ pairCells gs, u.oneCell' = true) := pairCells_one gs
  obtain ⟨news, hnews⟩ : ∃ news, pairCells gs = news := ⟨_, rfl⟩
  rw [hnews] at hlen hsrc hone
  have HNW := Lib.hid hnews
  clear hnews
  go_wp2_with (at_builtin; refine wpList_append_own _ rfl (.tmp 26) (.tmp 27) 65 rfl w2.heap.size 28 i0 _ 2 16 Tryd.underlying65 hi hz0 hz1 hz2 rfl (by decide) _ _ _ rfl ho.out ad k cB news rfl hlen.out hsrc.out hone.out (by unfold maxLen; omega) (by omega) (by simp) ?_)
  intro v w3 ho2 hg2 hnil
  have hb3 : Below w2.heap.size w2 w3 := ((Below.refl _ _).alloc (Nat.le_refl _) _).grown hg2 (by simp) (fun g hg => (ho.out.lt g hg).1)
  have hv : ∃ g cap, v = .slice (some ⟨g, 0, none⟩) k cap := by
    have h2 := ho2.2
    rcases h2 with ⟨e, h0⟩ | ⟨g, cap, cur, e, _⟩
    · exact absurd e hnil
    · exact ⟨g, cap, by rw [e]⟩
  obtain ⟨g, cap, rfl⟩ := hv
  have FG : Hid (RdR w3 g k gs) := by
    refine rdR_of_own (base := w2.heap.size) (t := 28) (cap := cap) ?_ HGL.out
    rw [HNW.out]
    simpa using ho2
  have Fx3 := Lib.hid (Fx2.out.below hb3)
  have Fg3 := Lib.hid (Fg2.out.below hb3)
  have Fa3 := Lib.hid (Fa.out.below hb3)
  have low3 := Lib.hid (low2.out.trans (hb3.mono low2.out.size))
  clear ho ho2 hg2 hnil hlen hsrc hone HNW hb3 Fx2 Fg2 Fa low2
  go_wp2_with fail
  refine (CB.out _ _ _ _ _ Fa3.out FG.out).mono ?_
  rintro e w4 ⟨⟨v4, rfl, ho4⟩, hb4⟩
  have Fx4 := Lib.hid (Fx3.out.below hb4)
  have Fg4 := Lib.hid (Fg3.out.below hb4)
  have low4 := Lib.hid (low3.out.trans (hb4.mono low3.out.size))
  obtain ⟨Ay, cy, rfl, _, hry, ny⟩ := rd_ownN ho4
  have Fy := Lib.hid hry
  clear hb4 Fx3 Fg3 Fa3 low3 ho4 hry ny FG
  go_wp2_with fail
  refine (CE.out _ Fx4.out).mono ?_
  rintro e w' ⟨rfl, rfl⟩
  go_wp2_with fail
  refine (CGE.out _ Fg4.out).mono ?_
  rintro e w5 ⟨rfl, hb5⟩
  have Fx5 := Lib.hid (Fx4.out.below hb5)
  have Fg5 := Lib.hid (Fg4.out.below hb5)
  have Fy5 := Lib.hid (Fy.out.below hb5)
  have low5 := Lib.hid (low4.out.trans (hb5.mono low4.out.size))
  clear hb5 Fx4 Fg4 Fy low4
  go_wp2
  go_ret
  exact ⟨rfl, low5.out⟩

end Go.Proofs.YtnmfeonagigkeaaDoor
