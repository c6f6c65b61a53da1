import Derived.Test.YtofdjapbofagiaaDoorGF
import Derived.Test.YtofdjapbofagiaaDoorF4
import Derived.Test.YtofdjapbofagiaaDoorGX
namespace Go.Proofs.YtofdjapbofagiaaDoor
open Go.RowKit


set_option maxRecDepth 100000 in
theorem refPricesErr_any (ad : Addr) (n c m c' : Nat) (B : Option Addr) (rows : List (List Int)) (b : Int) (PA : Option Addr) (k cp : Nat) (p : List (List Int)) (w : World) (hr : RdG w (some ad) n rows) (hn : 0 < n ∧ n ≤ 1000000) (hm : 0 < m ∧ m ≤ 1000000) (hadb : ad.block < w.heap.size) (hck : w.cell? ad = some (.slice B m c')) (hp : RdG w PA k p) (hk : k ≤ 1000000) (hbb : 0 ≤ b ∧ b ≤ 1000) (hg : ∀ r ∈ rows, r.length = m ∧ ∀ x ∈ r, 0 ≤ x ∧ x ≤ 255) :
    Calls Tryd.prog 38 #[.agg #[.slice (some ad) n c, .int .i64 b], .slice PA k cp] w fun e w' => e = .returned (.int .i64 (pricesE rows b n m p)) ∧ Below w.heap.size w w' := by
  by_cases hkn : k = n
  · subst hkn
    exact refPricesErr_same ad k c m c' B rows b PA cp p w hr hn hm hadb hck hp hbb hg
  · have HE : Hid (pricesE rows b n m p = 10) := if_neg (by rw [hp.1]; exact hkn)
    have hne : ((k : Int) != (n : Int)) = true := by rw [bne_iff_ne]; omega
    have hnI : (0 : Int) < (n : Int) := by omega
    have hb0 : Below w.heap.size w (w.alloc (.cells #[.slice (some ad) n c, .int .i64 b] 53)) := (Below.refl _ w).alloc (Nat.le_refl _) _
    have HB0 := Lib.hid hb0
    have k0 : (w.alloc (.cells #[.slice (some ad) n c, .int .i64 b] 53)).cell? ad = some (.slice B m c') := (hb0.cell hadb).trans hck
    rw [HE.out]
    clear hkn HE hp hck hb0 hn
    go_enter Tryd.func38, Tryd.ntmps38
    go_wp2
    go_ret
    exact ⟨rfl, HB0.out⟩

set_option maxRecDepth 100000 in
set_option maxHeartbeats 16000000 in
theorem prices_wide (A : Option Addr) (n c : Nat) (b : Int) (rows : List (List Int)) (PA : Option Addr) (k cp : Nat) (p : List (List Int)) (Q : Option Addr) (l cq : Nat) (path : List Int) (w : World) (hl : LaidSides w) (hr : RdGo w A n rows) (hpr : RdGo w PA k p) (hq : RdI w Q l path) (hgb : gridB 40 12 rows = false) :
    Calls Tryd.prog 7 #[.agg #[.slice A n c, .int .i64 b], .slice PA k cp, .slice Q l cq] w fun e w' => e = .returned (.bool true) ∧ Below w.heap.size w w' := by
  have hb0 : Below w.heap.size w (w.alloc (.cells #[.slice A n c, .int .i64 b] 53)) := (Below.refl _ _).alloc (Nat.le_refl _) _
  have HL := Lib.hid (hl.later hb0)
  have HT : Hid (TaskAt (w.alloc (.cells #[.slice A n c, .int .i64 b] 53)) w.heap.size A n c b) := Bk.new w 53 #[.slice A n c, .int .i64 b]
  have HRO := Lib.hid (hr.below hb0)
  have HPO := Lib.hid (hpr.below hb0)
  have HQO := Lib.hid (hq.below hb0)
  have low0 := Lib.hid hb0
  have CST : Hid (∀ W, RdGo W A n rows → Calls Tryd.prog 19 #[.slice A n c] W fun e w' => e = .returned (.bool false) ∧ W = w') := fun W h => by rw [← hgb]; exact strip_any _ n c rows W h
  clear hl hr hpr hq hb0 hgb
  go_enter Tryd.func7, Tryd.ntmps7
  go_wp2_with fail
  refine (awake_any _ HL.out).mono ?_
  rintro e w1 ⟨rfl, hb1⟩
  have Ft1 := Lib.hid (HT.out.below hb1)
  have Fo1 := Lib.hid (HRO.out.below hb1)
  have Fu1 := Lib.hid (HPO.out.below hb1)
  have Fp1 := Lib.hid (HQO.out.below hb1)
  have low1 := Lib.hid (low0.out.trans (hb1.mono low0.out.size))
  clear HT HRO HPO HQO low0 HL hb1
  have n0 : w1.cell? ⟨w.heap.size, 0, none⟩ = some (.slice A n c) := Ft1.out.c0
  have n1 : w1.cell? ⟨w.heap.size, 1, none⟩ = some (.int .i64 b) := Ft1.out.c1
  go_wp2_with fail
  refine (CST.out _ Fo1.out).mono ?_
  rintro e w' ⟨rfl, rfl⟩
  go_wp2
  go_ret
  exact ⟨rfl, low1.out⟩

set_option maxRecDepth 100000 in
set_option maxHeartbeats 16000000 in
theorem prices_wide2 (A : Option Addr) (n c : Nat) (b : Int) (rows : List (List Int)) (PA : Option Addr) (k cp : Nat) (p : List (List Int)) (Q : Option Addr) (l cq : Nat) (path : List Int) (w : World) (hl : LaidSides w) (hr : RdGo w A n rows) (hpr : RdGo w PA k p) (hq : RdI w Q l path) (hgb : gridB 40 12 rows = true) (hgp : gridB 40 12 p = false) :
    Calls Tryd.prog 7 #[.agg #[.slice A n c, .int .i64 b], .slice PA k cp, .slice Q l cq] w fun e w' => e = .returned (.bool true) ∧ Below w.heap.size w w' := by
  have hb0 : Below w.heap.size w (w.alloc (.cells #[.slice A n c, .int .i64 b] 53)) := (Below.refl _ _).alloc (Nat.le_refl _) _
  have HL := Lib.hid (hl.later hb0)
  have HT : Hid (TaskAt (w.alloc (.cells #[.slice A n c, .int .i64 b] 53)) w.heap.size A n c b) := Bk.new w 53 #[.slice A n c, .int .i64 b]
  have HRO := Lib.hid (hr.below hb0)
  have HPO := Lib.hid (hpr.below hb0)
  have HQO := Lib.hid (hq.below hb0)
  have low0 := Lib.hid hb0
  have CST : Hid (∀ W, RdGo W A n rows → Calls Tryd.prog 19 #[.slice A n c] W fun e w' => e = .returned (.bool true) ∧ W = w') := fun W h => by rw [← hgb]; exact strip_any _ n c rows W h
  have CGR : Hid (∀ W, RdGo W PA k p → Calls Tryd.prog 42 #[.slice PA k cp, .int .i64 40, .int .i64 12] W fun e w' => e = .returned (.bool false) ∧ W = w') := fun W h => by rw [← hgp]; exact grid_any _ k cp 40 12 p W h (by omega) (by omega)
  clear hl hr hpr hq hb0 hgb hgp
  go_enter Tryd.func7, Tryd.ntmps7
  go_wp2_with fail
  refine (awake_any _ HL.out).mono ?_
  rintro e w1 ⟨rfl, hb1⟩
  have Ft1 := Lib.hid (HT.out.below hb1)
  have Fo1 := Lib.hid (HRO.out.below hb1)
  have Fu1 := Lib.hid (HPO.out.below hb1)
  have Fp1 := Lib.hid (HQO.out.below hb1)
  have low1 := Lib.hid (low0.out.trans (hb1.mono low0.out.size))
  clear HT HRO HPO HQO low0 HL hb1
  have n0 : w1.cell? ⟨w.heap.size, 0, none⟩ = some (.slice A n c) := Ft1.out.c0
  have n1 : w1.cell? ⟨w.heap.size, 1, none⟩ = some (.int .i64 b) := Ft1.out.c1
  go_wp2_with fail
  refine (CST.out _ Fo1.out).mono ?_
  rintro e w' ⟨rfl, rfl⟩
  go_wp2_with fail
  refine (CGR.out _ Fu1.out).mono ?_
  rintro e w' ⟨rfl, rfl⟩
  go_wp2
  go_ret
  exact ⟨rfl, low1.out⟩

set_option maxRecDepth 100000 in
set_option maxHeartbeats 16000000 in
theorem prices_long (A : Option Addr) (n c : Nat) (b : Int) (rows : List (List Int)) (PA : Option Addr) (k cp : Nat) (p : List (List Int)) (Q : Option Addr) (l cq : Nat) (path : List Int) (w : World) (hl : LaidSides w) (hr : RdGo w A n rows) (hpr : RdGo w PA k p) (hq : RdI w Q l path) (hgb : gridB 40 12 rows = true) (hgp : gridB 40 12 p = true) (hk : ¬ l ≤ 42) :
    Calls Tryd.prog 7 #[.agg #[.slice A n c, .int .i64 b], .slice PA k cp, .slice Q l cq] w fun e w' => e = .returned (.bool true) ∧ Below w.heap.size w w' := by
  have hb0 : Below w.heap.size w (w.alloc (.cells #[.slice A n c, .int .i64 b] 53)) := (Below.refl _ _).alloc (Nat.le_refl _) _
  have HL := Lib.hid (hl.later hb0)
  have HT : Hid (TaskAt (w.alloc (.cells #[.slice A n c, .int .i64 b] 53)) w.heap.size A n c b) := Bk.new w 53 #[.slice A n c, .int .i64 b]
  have HRO := Lib.hid (hr.below hb0)
  have HPO := Lib.hid (hpr.below hb0)
  have HQO := Lib.hid (hq.below hb0)
  have low0 := Lib.hid hb0
  have CST : Hid (∀ W, RdGo W A n rows → Calls Tryd.prog 19 #[.slice A n c] W fun e w' => e = .returned (.bool true) ∧ W = w') := fun W h => by rw [← hgb]; exact strip_any _ n c rows W h
  have CGR : Hid (∀ W, RdGo W PA k p → Calls Tryd.prog 42 #[.slice PA k cp, .int .i64 40, .int .i64 12] W fun e w' => e = .returned (.bool true) ∧ W = w') := fun W h => by rw [← hgp]; exact grid_any _ k cp 40 12 p W h (by omega) (by omega)
  have hkI : (42 : Int) < (l : Int) := by omega
  clear hl hr hpr hq hb0 hgb hgp
  go_enter Tryd.func7, Tryd.ntmps7
  go_wp2_with fail
  refine (awake_any _ HL.out).mono ?_
  rintro e w1 ⟨rfl, hb1⟩
  have Ft1 := Lib.hid (HT.out.below hb1)
  have Fo1 := Lib.hid (HRO.out.below hb1)
  have Fu1 := Lib.hid (HPO.out.below hb1)
  have Fp1 := Lib.hid (HQO.out.below hb1)
  have low1 := Lib.hid (low0.out.trans (hb1.mono low0.out.size))
  clear HT HRO HPO HQO low0 HL hb1
  have n0 : w1.cell? ⟨w.heap.size, 0, none⟩ = some (.slice A n c) := Ft1.out.c0
  have n1 : w1.cell? ⟨w.heap.size, 1, none⟩ = some (.int .i64 b) := Ft1.out.c1
  go_wp2_with fail
  refine (CST.out _ Fo1.out).mono ?_
  rintro e w' ⟨rfl, rfl⟩
  go_wp2_with fail
  refine (CGR.out _ Fu1.out).mono ?_
  rintro e w' ⟨rfl, rfl⟩
  go_wp2
  go_ret
  exact ⟨rfl, low1.out⟩

end Go.Proofs.YtofdjapbofagiaaDoor

namespace Go.Proofs.YtofdjapbofagiaaDoor
open Go.RowKit

set_option maxRecDepth 100000 in
set_option maxHeartbeats 16000000 in
theorem prices_err1 (A : Option Addr) (n c : Nat) (b : Int) (rows : List (List Int)) (PA : Option Addr) (k cp : Nat) (p : List (List Int)) (Q : Option Addr) (l cq : Nat) (path : List Int) (w : World) (hl : LaidSides w) (hr : RdGo w A n rows) (hpr : RdGo w PA k p) (hq : RdI w Q l path) (hgb : gridB 40 12 rows = true) (hgp : gridB 40 12 p = true) (hk : l ≤ 42) (hn42 : n ≤ 42) (hm203 : ∀ j, j < n → (rows.getD j []).length ≤ 203) (hk42 : k ≤ 42) (hp203 : ∀ j, j < k → (p.getD j []).length ≤ 203) (E : Int) (hE0 : E ≠ 0) (htE : taskE rows b = E) (hcpe : cpE rows b n p = E) :
    Calls Tryd.prog 7 #[.agg #[.slice A n c, .int .i64 b], .slice PA k cp, .slice Q l cq] w fun e w' => e = .returned (.bool true) ∧ Below w.heap.size w w' := by
  have hb0 : Below w.heap.size w (w.alloc (.cells #[.slice A n c, .int .i64 b] 53)) := (Below.refl _ _).alloc (Nat.le_refl _) _
  have HL := Lib.hid (hl.later hb0)
  have HT : Hid (TaskAt (w.alloc (.cells #[.slice A n c, .int .i64 b] 53)) w.heap.size A n c b) := Bk.new w 53 #[.slice A n c, .int .i64 b]
  have HRO := Lib.hid (hr.below hb0)
  have HPO := Lib.hid (hpr.below hb0)
  have HQO := Lib.hid (hq.below hb0)
  have low0 := Lib.hid hb0
  have HRN := Lib.hid ((hr.full hm203).below hb0)
  have HPN := Lib.hid ((hpr.full hp203).below hb0)
  have hkI : ¬ (42 : Int) < (l : Int) := by omega
  have CST : Hid (∀ W, RdGo W A n rows → Calls Tryd.prog 19 #[.slice A n c] W fun e w' => e = .returned (.bool true) ∧ W = w') := fun W h => by rw [← hgb]; exact strip_any _ n c rows W h
  have CGR : Hid (∀ W, RdGo W PA k p → Calls Tryd.prog 42 #[.slice PA k cp, .int .i64 40, .int .i64 12] W fun e w' => e = .returned (.bool true) ∧ W = w') := fun W h => by rw [← hgp]; exact grid_any _ k cp 40 12 p W h (by omega) (by omega)
  have CCT : Hid (∀ W, RdGN W A n rows → Calls Tryd.prog 21 #[.agg #[.slice A n c, .int .i64 b]] W fun e w' => (∃ A' c', e = .returned (.agg #[.slice A' n c', .int .i64 b]) ∧ RdGN w' A' n rows) ∧ Below W.heap.size W w') := fun W h => copyTask_any _ n c rows b W h (by omega) hm203
  have CCL : Hid (∀ W, RdGN W PA k p → Calls Tryd.prog 25 #[.slice PA k cp] W fun e w' => (∃ A' c', e = .returned (.slice A' k c') ∧ RdGN w' A' k p) ∧ Below W.heap.size W w') := fun W h => by
    refine (copyLists_any _ k cp p W h (by omega) hp203).mono ?_
    rintro e w' ⟨⟨v, he, ho⟩, hb⟩
    obtain ⟨A', c', e2, h2⟩ := ho.read hpr.1 hp203
    exact ⟨⟨A', c', by rw [he, e2], h2⟩, hb⟩
  have CCP : Hid (∀ W A' c' P' cp', RdGN W A' n rows → RdGN W P' k p → Calls Tryd.prog 40 #[.agg #[.slice A' n c', .int .i64 b], .slice P' k cp'] W fun e w' => e = .returned (.tuple #[.int .i64 0, .int .i64 E]) ∧ Below W.heap.size W w') := fun W A' c' P' cp' h1 h2 => by
    have h := CheckPrices_any A' n c' rows b P' k cp' p W h1.toG (by omega) h2.toG (by omega)
    rw [hcpe] at h
    rw [if_neg hE0] at h
    exact h
  have CTE : Hid (∀ W, RdGN W A n rows → Calls Tryd.prog 27 #[.agg #[.slice A n c, .int .i64 b]] W fun e w' => e = .returned (.int .i64 E) ∧ Below W.heap.size W w') := fun W h => by rw [← htE]; exact refTaskErr_any _ n c rows b W h.toG (by omega)
  have hEb : (E != 0) = true := by simpa using hE0
  have hEz : (E == 0) = false := by simpa using hE0
  have hEE : (E == E) = true := by simp
  clear hl hr hpr hq hb0 hgb hgp hm203 hp203 hE0 htE hcpe
  go_enter Tryd.func7, Tryd.ntmps7
  go_wp2_with fail
  refine (awake_any _ HL.out).mono ?_
  rintro e w1 ⟨rfl, hb1⟩
  have Ft1 := Lib.hid (HT.out.below hb1)
  have Fo1 := Lib.hid (HRO.out.below hb1)
  have Fu1 := Lib.hid (HPO.out.below hb1)
  have Fp1 := Lib.hid (HQO.out.below hb1)
  have Fr1 := Lib.hid (HRN.out.below hb1)
  have Fs1 := Lib.hid (HPN.out.below hb1)
  have low1 := Lib.hid (low0.out.trans (hb1.mono low0.out.size))
  clear HT HRO HPO HQO HRN HPN low0 HL hb1
  have n0 : w1.cell? ⟨w.heap.size, 0, none⟩ = some (.slice A n c) := Ft1.out.c0
  have n1 : w1.cell? ⟨w.heap.size, 1, none⟩ = some (.int .i64 b) := Ft1.out.c1
  go_wp2_with fail
  refine (CST.out _ Fo1.out).mono ?_
  rintro e w' ⟨rfl, rfl⟩
  go_wp2_with fail
  refine (CGR.out _ Fu1.out).mono ?_
  rintro e w' ⟨rfl, rfl⟩
  go_wp2_with fail
  refine (CCT.out _ Fr1.out).mono ?_
  rintro e w2 ⟨⟨A2, c2, rfl, hr2⟩, hb2⟩
  clear n0 n1
  have Ft2 := Lib.hid (Ft1.out.below hb2)
  have Fp2 := Lib.hid (Fp1.out.below hb2)
  have Fr2 := Lib.hid (Fr1.out.below hb2)
  have Fs2 := Lib.hid (Fs1.out.below hb2)
  have low2 := Lib.hid (low1.out.trans (hb2.mono low1.out.size))
  have Fa2 := Lib.hid hr2
  clear hr2
  clear Ft1 Fp1 Fr1 Fs1 low1 hb2
  have n0 : w2.cell? ⟨w.heap.size, 0, none⟩ = some (.slice A n c) := Ft2.out.c0
  have n1 : w2.cell? ⟨w.heap.size, 1, none⟩ = some (.int .i64 b) := Ft2.out.c1
  go_wp2_with fail
  refine (CCL.out _ Fs2.out).mono ?_
  rintro e w3 ⟨⟨P3, c3, rfl, hr3⟩, hb3⟩
  clear n0 n1
  have Ft3 := Lib.hid (Ft2.out.below hb3)
  have Fp3 := Lib.hid (Fp2.out.below hb3)
  have Fr3 := Lib.hid (Fr2.out.below hb3)
  have Fs3 := Lib.hid (Fs2.out.below hb3)
  have Fa3 := Lib.hid (Fa2.out.below hb3)
  have low3 := Lib.hid (low2.out.trans (hb3.mono low2.out.size))
  have Fq3 := Lib.hid hr3
  clear hr3
  clear Ft2 Fp2 Fr2 Fs2 Fa2 low2 hb3
  have n0 : w3.cell? ⟨w.heap.size, 0, none⟩ = some (.slice A n c) := Ft3.out.c0
  have n1 : w3.cell? ⟨w.heap.size, 1, none⟩ = some (.int .i64 b) := Ft3.out.c1
  go_wp2_with fail
  refine (CCP.out _ _ _ _ _ Fa3.out Fq3.out).mono ?_
  rintro e w4 ⟨rfl, hb4⟩
  clear n0 n1
  have Ft4 := Lib.hid (Ft3.out.below hb4)
  have Fp4 := Lib.hid (Fp3.out.below hb4)
  have Fr4 := Lib.hid (Fr3.out.below hb4)
  have Fs4 := Lib.hid (Fs3.out.below hb4)
  have Fa4 := Lib.hid (Fa3.out.below hb4)
  have Fq4 := Lib.hid (Fq3.out.below hb4)
  have low4 := Lib.hid (low3.out.trans (hb4.mono low3.out.size))
  clear Ft3 Fp3 Fr3 Fs3 Fa3 Fq3 low3 hb4
  have n0 : w4.cell? ⟨w.heap.size, 0, none⟩ = some (.slice A n c) := Ft4.out.c0
  have n1 : w4.cell? ⟨w.heap.size, 1, none⟩ = some (.int .i64 b) := Ft4.out.c1
  go_wp2_with fail
  refine (CTE.out _ Fr4.out).mono ?_
  rintro e w5 ⟨rfl, hb5⟩
  clear n0 n1
  have Ft5 := Lib.hid (Ft4.out.below hb5)
  have Fp5 := Lib.hid (Fp4.out.below hb5)
  have Fr5 := Lib.hid (Fr4.out.below hb5)
  have Fs5 := Lib.hid (Fs4.out.below hb5)
  have low5 := Lib.hid (low4.out.trans (hb5.mono low4.out.size))
  clear Ft4 Fp4 Fr4 Fs4 low4 hb5
  have n0 : w5.cell? ⟨w.heap.size, 0, none⟩ = some (.slice A n c) := Ft5.out.c0
  have n1 : w5.cell? ⟨w.heap.size, 1, none⟩ = some (.int .i64 b) := Ft5.out.c1
  go_wp2
  go_ret
  exact ⟨rfl, low5.out⟩

end Go.Proofs.YtofdjapbofagiaaDoor

namespace Go.Proofs.YtofdjapbofagiaaDoor
open Go.RowKit

set_option maxRecDepth 100000 in
set_option maxHeartbeats 16000000 in
theorem prices_err2 (ad : Addr) (n c : Nat) (b : Int) (rows : List (List Int)) (PA : Option Addr) (k cp : Nat) (p : List (List Int)) (Q : Option Addr) (l cq : Nat) (path : List Int) (w : World) (hl : LaidSides w) (hr : RdGo w (some ad) n rows) (hpr : RdGo w PA k p) (hq : RdI w Q l path) (hgb : gridB 40 12 rows = true) (hgp : gridB 40 12 p = true) (hk : l ≤ 42) (hn42 : n ≤ 42) (hm203 : ∀ j, j < n → (rows.getD j []).length ≤ 203) (hk42 : k ≤ 42) (hp203 : ∀ j, j < k → (p.getD j []).length ≤ 203) (m c' : Nat) (B : Option Addr) (hck : CellAt w ad (.slice B m c')) (h0n : 0 < n) (hm12 : 0 < m ∧ m ≤ 12) (htE : taskE rows b = 0) (hbb : 0 ≤ b ∧ b ≤ 1000) (hg : ∀ r ∈ rows, r.length = m ∧ ∀ x ∈ r, 0 ≤ x ∧ x ≤ 255) (E : Int) (hE0 : E ≠ 0) (hpe : pricesE rows b n m p = E) (hcpe : cpE rows b n p = E) :
    Calls Tryd.prog 7 #[.agg #[.slice (some ad) n c, .int .i64 b], .slice PA k cp, .slice Q l cq] w fun e w' => e = .returned (.bool true) ∧ Below w.heap.size w w' := by
  have hb0 : Below w.heap.size w (w.alloc (.cells #[.slice (some ad) n c, .int .i64 b] 53)) := (Below.refl _ _).alloc (Nat.le_refl _) _
  have HL := Lib.hid (hl.later hb0)
  have HT : Hid (TaskAt (w.alloc (.cells #[.slice (some ad) n c, .int .i64 b] 53)) w.heap.size (some ad) n c b) := Bk.new w 53 #[.slice (some ad) n c, .int .i64 b]
  have HRO := Lib.hid (hr.below hb0)
  have HPO := Lib.hid (hpr.below hb0)
  have HQO := Lib.hid (hq.below hb0)
  have low0 := Lib.hid hb0
  have HRN := Lib.hid ((hr.full hm203).below hb0)
  have HPN := Lib.hid ((hpr.full hp203).below hb0)
  have hkI : ¬ (42 : Int) < (l : Int) := by omega
  have CST : Hid (∀ W, RdGo W (some ad) n rows → Calls Tryd.prog 19 #[.slice (some ad) n c] W fun e w' => e = .returned (.bool true) ∧ W = w') := fun W h => by rw [← hgb]; exact strip_any _ n c rows W h
  have CGR : Hid (∀ W, RdGo W PA k p → Calls Tryd.prog 42 #[.slice PA k cp, .int .i64 40, .int .i64 12] W fun e w' => e = .returned (.bool true) ∧ W = w') := fun W h => by rw [← hgp]; exact grid_any _ k cp 40 12 p W h (by omega) (by omega)
  have CCT : Hid (∀ W, RdGN W (some ad) n rows → Calls Tryd.prog 21 #[.agg #[.slice (some ad) n c, .int .i64 b]] W fun e w' => (∃ A' c', e = .returned (.agg #[.slice A' n c', .int .i64 b]) ∧ RdGN w' A' n rows) ∧ Below W.heap.size W w') := fun W h => copyTask_any _ n c rows b W h (by omega) hm203
  have CCL : Hid (∀ W, RdGN W PA k p → Calls Tryd.prog 25 #[.slice PA k cp] W fun e w' => (∃ A' c', e = .returned (.slice A' k c') ∧ RdGN w' A' k p) ∧ Below W.heap.size W w') := fun W h => by
    refine (copyLists_any _ k cp p W h (by omega) hp203).mono ?_
    rintro e w' ⟨⟨v, he, ho⟩, hb⟩
    obtain ⟨A', c', e2, h2⟩ := ho.read hpr.1 hp203
    exact ⟨⟨A', c', by rw [he, e2], h2⟩, hb⟩
  have CCP : Hid (∀ W A' c' P' cp', RdGN W A' n rows → RdGN W P' k p → Calls Tryd.prog 40 #[.agg #[.slice A' n c', .int .i64 b], .slice P' k cp'] W fun e w' => e = .returned (.tuple #[.int .i64 0, .int .i64 E]) ∧ Below W.heap.size W w') := fun W A' c' P' cp' h1 h2 => by
    have h := CheckPrices_any A' n c' rows b P' k cp' p W h1.toG (by omega) h2.toG (by omega)
    rw [hcpe] at h
    rw [if_neg hE0] at h
    exact h
  have CTE : Hid (∀ W, RdGN W (some ad) n rows → Calls Tryd.prog 27 #[.agg #[.slice (some ad) n c, .int .i64 b]] W fun e w' => e = .returned (.int .i64 0) ∧ Below W.heap.size W w') := fun W h => by rw [← htE]; exact refTaskErr_any _ n c rows b W h.toG (by omega)
  have CPR : Hid (∀ W, CellAt W ad (.slice B m c') → RdGN W (some ad) n rows → RdGN W PA k p → Calls Tryd.prog 38 #[.agg #[.slice (some ad) n c, .int .i64 b], .slice PA k cp] W fun e w' => e = .returned (.int .i64 E) ∧ Below W.heap.size W w') := fun W h1 h2 h3 => by
    have h := refPricesErr_any ad n c m c' B rows b PA k cp p W h2.toG ⟨h0n, by omega⟩ ⟨hm12.1, by omega⟩ h1.1 h1.2 h3.toG (by omega) hbb hg
    rw [hpe] at h
    exact h
  have HCK := Lib.hid (hck.below hb0)
  have hEb : (E != 0) = true := by simpa using hE0
  have hEz : (E == 0) = false := by simpa using hE0
  have hEE : (E == E) = true := by simp
  clear hl hr hpr hq hb0 hgb hgp hm203 hp203 hE0 htE hcpe hpe hck hbb hg
  go_enter Tryd.func7, Tryd.ntmps7
  go_wp2_with fail
  refine (awake_any _ HL.out).mono ?_
  rintro e w1 ⟨rfl, hb1⟩
  have Ft1 := Lib.hid (HT.out.below hb1)
  have Fo1 := Lib.hid (HRO.out.below hb1)
  have Fu1 := Lib.hid (HPO.out.below hb1)
  have Fp1 := Lib.hid (HQO.out.below hb1)
  have Fr1 := Lib.hid (HRN.out.below hb1)
  have Fs1 := Lib.hid (HPN.out.below hb1)
  have Fk1 := Lib.hid (HCK.out.below hb1)
  have low1 := Lib.hid (low0.out.trans (hb1.mono low0.out.size))
  clear HT HRO HPO HQO HRN HPN HCK low0 HL hb1
  have n0 : w1.cell? ⟨w.heap.size, 0, none⟩ = some (.slice (some ad) n c) := Ft1.out.c0
  have n1 : w1.cell? ⟨w.heap.size, 1, none⟩ = some (.int .i64 b) := Ft1.out.c1
  go_wp2_with fail
  refine (CST.out _ Fo1.out).mono ?_
  rintro e w' ⟨rfl, rfl⟩
  go_wp2_with fail
  refine (CGR.out _ Fu1.out).mono ?_
  rintro e w' ⟨rfl, rfl⟩
  go_wp2_with fail
  refine (CCT.out _ Fr1.out).mono ?_
  rintro e w2 ⟨⟨A2, c2, rfl, hr2⟩, hb2⟩
  clear n0 n1
  have Ft2 := Lib.hid (Ft1.out.below hb2)
  have Fp2 := Lib.hid (Fp1.out.below hb2)
  have Fr2 := Lib.hid (Fr1.out.below hb2)
  have Fs2 := Lib.hid (Fs1.out.below hb2)
  have Fk2 := Lib.hid (Fk1.out.below hb2)
  have low2 := Lib.hid (low1.out.trans (hb2.mono low1.out.size))
  have Fa2 := Lib.hid hr2
  clear hr2
  clear Ft1 Fp1 Fr1 Fs1 Fk1 low1 hb2
  have n0 : w2.cell? ⟨w.heap.size, 0, none⟩ = some (.slice (some ad) n c) := Ft2.out.c0
  have n1 : w2.cell? ⟨w.heap.size, 1, none⟩ = some (.int .i64 b) := Ft2.out.c1
  go_wp2_with fail
  refine (CCL.out _ Fs2.out).mono ?_
  rintro e w3 ⟨⟨P3, c3, rfl, hr3⟩, hb3⟩
  clear n0 n1
  have Ft3 := Lib.hid (Ft2.out.below hb3)
  have Fp3 := Lib.hid (Fp2.out.below hb3)
  have Fr3 := Lib.hid (Fr2.out.below hb3)
  have Fs3 := Lib.hid (Fs2.out.below hb3)
  have Fk3 := Lib.hid (Fk2.out.below hb3)
  have Fa3 := Lib.hid (Fa2.out.below hb3)
  have low3 := Lib.hid (low2.out.trans (hb3.mono low2.out.size))
  have Fq3 := Lib.hid hr3
  clear hr3
  clear Ft2 Fp2 Fr2 Fs2 Fk2 Fa2 low2 hb3
  have n0 : w3.cell? ⟨w.heap.size, 0, none⟩ = some (.slice (some ad) n c) := Ft3.out.c0
  have n1 : w3.cell? ⟨w.heap.size, 1, none⟩ = some (.int .i64 b) := Ft3.out.c1
  go_wp2_with fail
  refine (CCP.out _ _ _ _ _ Fa3.out Fq3.out).mono ?_
  rintro e w4 ⟨rfl, hb4⟩
  clear n0 n1
  have Ft4 := Lib.hid (Ft3.out.below hb4)
  have Fp4 := Lib.hid (Fp3.out.below hb4)
  have Fr4 := Lib.hid (Fr3.out.below hb4)
  have Fs4 := Lib.hid (Fs3.out.below hb4)
  have Fk4 := Lib.hid (Fk3.out.below hb4)
  have Fa4 := Lib.hid (Fa3.out.below hb4)
  have Fq4 := Lib.hid (Fq3.out.below hb4)
  have low4 := Lib.hid (low3.out.trans (hb4.mono low3.out.size))
  clear Ft3 Fp3 Fr3 Fs3 Fk3 Fa3 Fq3 low3 hb4
  have n0 : w4.cell? ⟨w.heap.size, 0, none⟩ = some (.slice (some ad) n c) := Ft4.out.c0
  have n1 : w4.cell? ⟨w.heap.size, 1, none⟩ = some (.int .i64 b) := Ft4.out.c1
  go_wp2_with fail
  refine (CTE.out _ Fr4.out).mono ?_
  rintro e w5 ⟨rfl, hb5⟩
  clear n0 n1
  have Ft5 := Lib.hid (Ft4.out.below hb5)
  have Fp5 := Lib.hid (Fp4.out.below hb5)
  have Fr5 := Lib.hid (Fr4.out.below hb5)
  have Fs5 := Lib.hid (Fs4.out.below hb5)
  have Fk5 := Lib.hid (Fk4.out.below hb5)
  have low5 := Lib.hid (low4.out.trans (hb5.mono low4.out.size))
  clear Ft4 Fp4 Fr4 Fs4 Fk4 low4 hb5
  have n0 : w5.cell? ⟨w.heap.size, 0, none⟩ = some (.slice (some ad) n c) := Ft5.out.c0
  have n1 : w5.cell? ⟨w.heap.size, 1, none⟩ = some (.int .i64 b) := Ft5.out.c1
  go_wp2_with fail
  refine (CPR.out _ Fk5.out Fr5.out Fs5.out).mono ?_
  rintro e w6 ⟨rfl, hb6⟩
  clear n0 n1
  have Ft6 := Lib.hid (Ft5.out.below hb6)
  have Fp6 := Lib.hid (Fp5.out.below hb6)
  have Fr6 := Lib.hid (Fr5.out.below hb6)
  have Fs6 := Lib.hid (Fs5.out.below hb6)
  have Fk6 := Lib.hid (Fk5.out.below hb6)
  have low6 := Lib.hid (low5.out.trans (hb6.mono low5.out.size))
  clear Ft5 Fp5 Fr5 Fs5 Fk5 low5 hb6
  have n0 : w6.cell? ⟨w.heap.size, 0, none⟩ = some (.slice (some ad) n c) := Ft6.out.c0
  have n1 : w6.cell? ⟨w.heap.size, 1, none⟩ = some (.int .i64 b) := Ft6.out.c1
  go_wp2
  go_ret
  exact ⟨rfl, low6.out⟩

end Go.Proofs.YtofdjapbofagiaaDoor

namespace Go.Proofs.YtofdjapbofagiaaDoor
open Go.RowKit

set_option maxRecDepth 100000 in
set_option maxHeartbeats 16000000 in
theorem prices_ok1 (ad : Addr) (n c : Nat) (b : Int) (rows : List (List Int)) (PA : Option Addr) (k cp : Nat) (p : List (List Int)) (Q : Option Addr) (l cq : Nat) (path : List Int) (w : World) (hl : LaidSides w) (hr : RdGo w (some ad) n rows) (hpr : RdGo w PA k p) (hq : RdI w Q l path) (hgb : gridB 40 12 rows = true) (hgp : gridB 40 12 p = true) (hk : l ≤ 42) (hn42 : n ≤ 42) (hm203 : ∀ j, j < n → (rows.getD j []).length ≤ 203) (hk42 : k ≤ 42) (hp203 : ∀ j, j < k → (p.getD j []).length ≤ 203) (m c' : Nat) (B : Option Addr) (hck : CellAt w ad (.slice B m c')) (h0n : 0 < n) (hm12 : 0 < m ∧ m ≤ 12) (htE : taskE rows b = 0) (hbb : 0 ≤ b ∧ b ≤ 1000) (hg : ∀ r ∈ rows, r.length = m ∧ ∀ x ∈ r, 0 ≤ x ∧ x ≤ 255) (hpe : pricesE rows b n m p = 0) (hcpe : cpE rows b n p = 0) (bd : Int) (hbd : boundF p = bd) (hkn : k = n) (hpm : ∀ r ∈ p, r.length = m) (pE : Int) (hpath : pathE n m path = pE) (hp0 : pE ≠ 0) :
    Calls Tryd.prog 7 #[.agg #[.slice (some ad) n c, .int .i64 b], .slice PA k cp, .slice Q l cq] w fun e w' => e = .returned (.bool true) ∧ Below w.heap.size w w' := by
  have hb0 : Below w.heap.size w (w.alloc (.cells #[.slice (some ad) n c, .int .i64 b] 53)) := (Below.refl _ _).alloc (Nat.le_refl _) _
  have HL := Lib.hid (hl.later hb0)
  have HT : Hid (TaskAt (w.alloc (.cells #[.slice (some ad) n c, .int .i64 b] 53)) w.heap.size (some ad) n c b) := Bk.new w 53 #[.slice (some ad) n c, .int .i64 b]
  have HRO := Lib.hid (hr.below hb0)
  have HPO := Lib.hid (hpr.below hb0)
  have HQO := Lib.hid (hq.below hb0)
  have low0 := Lib.hid hb0
  have HRN := Lib.hid ((hr.full hm203).below hb0)
  have HPN := Lib.hid ((hpr.full hp203).below hb0)
  have hkI : ¬ (42 : Int) < (l : Int) := by omega
  have CST : Hid (∀ W, RdGo W (some ad) n rows → Calls Tryd.prog 19 #[.slice (some ad) n c] W fun e w' => e = .returned (.bool true) ∧ W = w') := fun W h => by rw [← hgb]; exact strip_any _ n c rows W h
  have CGR : Hid (∀ W, RdGo W PA k p → Calls Tryd.prog 42 #[.slice PA k cp, .int .i64 40, .int .i64 12] W fun e w' => e = .returned (.bool true) ∧ W = w') := fun W h => by rw [← hgp]; exact grid_any _ k cp 40 12 p W h (by omega) (by omega)
  have CCT : Hid (∀ W, RdGN W (some ad) n rows → Calls Tryd.prog 21 #[.agg #[.slice (some ad) n c, .int .i64 b]] W fun e w' => (∃ A' c', e = .returned (.agg #[.slice A' n c', .int .i64 b]) ∧ RdGN w' A' n rows) ∧ Below W.heap.size W w') := fun W h => copyTask_any _ n c rows b W h (by omega) hm203
  have CCL : Hid (∀ W, RdGN W PA k p → Calls Tryd.prog 25 #[.slice PA k cp] W fun e w' => (∃ A' c', e = .returned (.slice A' k c') ∧ RdGN w' A' k p) ∧ Below W.heap.size W w') := fun W h => by
    refine (copyLists_any _ k cp p W h (by omega) hp203).mono ?_
    rintro e w' ⟨⟨v, he, ho⟩, hb⟩
    obtain ⟨A', c', e2, h2⟩ := ho.read hpr.1 hp203
    exact ⟨⟨A', c', by rw [he, e2], h2⟩, hb⟩
  have CCP : Hid (∀ W A' c' P' cp', RdGN W A' n rows → RdGN W P' k p → Calls Tryd.prog 40 #[.agg #[.slice A' n c', .int .i64 b], .slice P' k cp'] W fun e w' => e = .returned (.tuple #[.int .i64 bd, .int .i64 0]) ∧ Below W.heap.size W w') := fun W A' c' P' cp' h1 h2 => by
    have h := CheckPrices_any A' n c' rows b P' k cp' p W h1.toG (by omega) h2.toG (by omega)
    rw [hcpe] at h
    rw [if_pos rfl, hbd] at h
    exact h
  have CTE : Hid (∀ W, RdGN W (some ad) n rows → Calls Tryd.prog 27 #[.agg #[.slice (some ad) n c, .int .i64 b]] W fun e w' => e = .returned (.int .i64 0) ∧ Below W.heap.size W w') := fun W h => by rw [← htE]; exact refTaskErr_any _ n c rows b W h.toG (by omega)
  have CPR : Hid (∀ W, CellAt W ad (.slice B m c') → RdGN W (some ad) n rows → RdGN W PA k p → Calls Tryd.prog 38 #[.agg #[.slice (some ad) n c, .int .i64 b], .slice PA k cp] W fun e w' => e = .returned (.int .i64 0) ∧ Below W.heap.size W w') := fun W h1 h2 h3 => by
    have h := refPricesErr_any ad n c m c' B rows b PA k cp p W h2.toG ⟨h0n, by omega⟩ ⟨hm12.1, by omega⟩ h1.1 h1.2 h3.toG (by omega) hbb hg
    rw [hpe] at h
    exact h
  have HCK := Lib.hid (hck.below hb0)
  have CBD : Hid (∀ W, RdGN W PA k p → Calls Tryd.prog 39 #[.slice PA k cp] W fun e w' => e = .returned (.int .i64 bd) ∧ W = w') := fun W h1 => by
    have h := refBound_any PA k cp m p W h1.toG (by omega) ⟨hm12.1, by omega⟩ hpm
    rw [hbd] at h
    exact h
  have hbq : (bd == bd) = true := by simp
  have CPE : Hid (∀ W, CellAt W ad (.slice B m c') → RdI W Q l path → Calls Tryd.prog 28 #[.agg #[.slice (some ad) n c, .int .i64 b], .slice Q l cq] W fun e w' => e = .returned (.int .i64 pE) ∧ Below W.heap.size W w') := fun W h1 h2 => by
    have h := refPathErr_any ad n c m c' B b Q l cq path W ⟨h0n, by omega⟩ (by omega) (by omega) h1.1 h1.2 h2
    rw [hpath] at h
    exact h
  have hEb : (pE != 0) = true := by simpa using hp0
  clear hl hr hpr hq hb0 hkn hgb hgp hm203 hp203 htE hcpe hpe hck hbb hg hbd hpath hpm hp0
  go_enter Tryd.func7, Tryd.ntmps7
  go_wp2_with fail
  refine (awake_any _ HL.out).mono ?_
  rintro e w1 ⟨rfl, hb1⟩
  have Ft1 := Lib.hid (HT.out.below hb1)
  have Fo1 := Lib.hid (HRO.out.below hb1)
  have Fu1 := Lib.hid (HPO.out.below hb1)
  have Fp1 := Lib.hid (HQO.out.below hb1)
  have Fr1 := Lib.hid (HRN.out.below hb1)
  have Fs1 := Lib.hid (HPN.out.below hb1)
  have Fk1 := Lib.hid (HCK.out.below hb1)
  have low1 := Lib.hid (low0.out.trans (hb1.mono low0.out.size))
  clear HT HRO HPO HQO HRN HPN HCK low0 HL hb1
  have n0 : w1.cell? ⟨w.heap.size, 0, none⟩ = some (.slice (some ad) n c) := Ft1.out.c0
  have n1 : w1.cell? ⟨w.heap.size, 1, none⟩ = some (.int .i64 b) := Ft1.out.c1
  go_wp2_with fail
  refine (CST.out _ Fo1.out).mono ?_
  rintro e w' ⟨rfl, rfl⟩
  go_wp2_with fail
  refine (CGR.out _ Fu1.out).mono ?_
  rintro e w' ⟨rfl, rfl⟩
  go_wp2_with fail
  refine (CCT.out _ Fr1.out).mono ?_
  rintro e w2 ⟨⟨A2, c2, rfl, hr2⟩, hb2⟩
  clear n0 n1
  have Ft2 := Lib.hid (Ft1.out.below hb2)
  have Fp2 := Lib.hid (Fp1.out.below hb2)
  have Fr2 := Lib.hid (Fr1.out.below hb2)
  have Fs2 := Lib.hid (Fs1.out.below hb2)
  have Fk2 := Lib.hid (Fk1.out.below hb2)
  have low2 := Lib.hid (low1.out.trans (hb2.mono low1.out.size))
  have Fa2 := Lib.hid hr2
  clear hr2
  clear Ft1 Fp1 Fr1 Fs1 Fk1 low1 hb2
  have n0 : w2.cell? ⟨w.heap.size, 0, none⟩ = some (.slice (some ad) n c) := Ft2.out.c0
  have n1 : w2.cell? ⟨w.heap.size, 1, none⟩ = some (.int .i64 b) := Ft2.out.c1
  go_wp2_with fail
  refine (CCL.out _ Fs2.out).mono ?_
  rintro e w3 ⟨⟨P3, c3, rfl, hr3⟩, hb3⟩
  clear n0 n1
  have Ft3 := Lib.hid (Ft2.out.below hb3)
  have Fp3 := Lib.hid (Fp2.out.below hb3)
  have Fr3 := Lib.hid (Fr2.out.below hb3)
  have Fs3 := Lib.hid (Fs2.out.below hb3)
  have Fk3 := Lib.hid (Fk2.out.below hb3)
  have Fa3 := Lib.hid (Fa2.out.below hb3)
  have low3 := Lib.hid (low2.out.trans (hb3.mono low2.out.size))
  have Fq3 := Lib.hid hr3
  clear hr3
  clear Ft2 Fp2 Fr2 Fs2 Fk2 Fa2 low2 hb3
  have n0 : w3.cell? ⟨w.heap.size, 0, none⟩ = some (.slice (some ad) n c) := Ft3.out.c0
  have n1 : w3.cell? ⟨w.heap.size, 1, none⟩ = some (.int .i64 b) := Ft3.out.c1
  go_wp2_with fail
  refine (CCP.out _ _ _ _ _ Fa3.out Fq3.out).mono ?_
  rintro e w4 ⟨rfl, hb4⟩
  clear n0 n1
  have Ft4 := Lib.hid (Ft3.out.below hb4)
  have Fp4 := Lib.hid (Fp3.out.below hb4)
  have Fr4 := Lib.hid (Fr3.out.below hb4)
  have Fs4 := Lib.hid (Fs3.out.below hb4)
  have Fk4 := Lib.hid (Fk3.out.below hb4)
  have Fa4 := Lib.hid (Fa3.out.below hb4)
  have Fq4 := Lib.hid (Fq3.out.below hb4)
  have low4 := Lib.hid (low3.out.trans (hb4.mono low3.out.size))
  clear Ft3 Fp3 Fr3 Fs3 Fk3 Fa3 Fq3 low3 hb4
  have n0 : w4.cell? ⟨w.heap.size, 0, none⟩ = some (.slice (some ad) n c) := Ft4.out.c0
  have n1 : w4.cell? ⟨w.heap.size, 1, none⟩ = some (.int .i64 b) := Ft4.out.c1
  go_wp2_with fail
  refine (CTE.out _ Fr4.out).mono ?_
  rintro e w5 ⟨rfl, hb5⟩
  clear n0 n1
  have Ft5 := Lib.hid (Ft4.out.below hb5)
  have Fp5 := Lib.hid (Fp4.out.below hb5)
  have Fr5 := Lib.hid (Fr4.out.below hb5)
  have Fs5 := Lib.hid (Fs4.out.below hb5)
  have Fk5 := Lib.hid (Fk4.out.below hb5)
  have low5 := Lib.hid (low4.out.trans (hb5.mono low4.out.size))
  clear Ft4 Fp4 Fr4 Fs4 Fk4 low4 hb5
  have n0 : w5.cell? ⟨w.heap.size, 0, none⟩ = some (.slice (some ad) n c) := Ft5.out.c0
  have n1 : w5.cell? ⟨w.heap.size, 1, none⟩ = some (.int .i64 b) := Ft5.out.c1
  go_wp2_with fail
  refine (CPR.out _ Fk5.out Fr5.out Fs5.out).mono ?_
  rintro e w6 ⟨rfl, hb6⟩
  clear n0 n1
  have Ft6 := Lib.hid (Ft5.out.below hb6)
  have Fp6 := Lib.hid (Fp5.out.below hb6)
  have Fr6 := Lib.hid (Fr5.out.below hb6)
  have Fs6 := Lib.hid (Fs5.out.below hb6)
  have Fk6 := Lib.hid (Fk5.out.below hb6)
  have low6 := Lib.hid (low5.out.trans (hb6.mono low5.out.size))
  clear Ft5 Fp5 Fr5 Fs5 Fk5 low5 hb6
  have n0 : w6.cell? ⟨w.heap.size, 0, none⟩ = some (.slice (some ad) n c) := Ft6.out.c0
  have n1 : w6.cell? ⟨w.heap.size, 1, none⟩ = some (.int .i64 b) := Ft6.out.c1
  go_wp2_with fail
  refine (CBD.out _ Fs6.out).mono ?_
  rintro e w' ⟨rfl, rfl⟩
  go_wp2_with fail
  refine (CPE.out _ Fk6.out Fp6.out).mono ?_
  rintro e w7 ⟨rfl, hb7⟩
  clear n0 n1
  have Ft7 := Lib.hid (Ft6.out.below hb7)
  have Fp7 := Lib.hid (Fp6.out.below hb7)
  have Fr7 := Lib.hid (Fr6.out.below hb7)
  have Fs7 := Lib.hid (Fs6.out.below hb7)
  have Fk7 := Lib.hid (Fk6.out.below hb7)
  have low7 := Lib.hid (low6.out.trans (hb7.mono low6.out.size))
  clear Ft6 Fp6 Fr6 Fs6 Fk6 low6 hb7
  have n0 : w7.cell? ⟨w.heap.size, 0, none⟩ = some (.slice (some ad) n c) := Ft7.out.c0
  have n1 : w7.cell? ⟨w.heap.size, 1, none⟩ = some (.int .i64 b) := Ft7.out.c1
  go_wp2
  go_ret
  exact ⟨rfl, low7.out⟩

end Go.Proofs.YtofdjapbofagiaaDoor

namespace Go.Proofs.YtofdjapbofagiaaDoor
open Go.RowKit

set_option maxRecDepth 100000 in
set_option maxHeartbeats 16000000 in
theorem prices_ok2 (ad : Addr) (n c : Nat) (b : Int) (rows : List (List Int)) (PA : Option Addr) (k cp : Nat) (p : List (List Int)) (Q : Option Addr) (l cq : Nat) (path : List Int) (w : World) (hl : LaidSides w) (hr : RdGo w (some ad) n rows) (hpr : RdGo w PA k p) (hq : RdI w Q l path) (hgb : gridB 40 12 rows = true) (hgp : gridB 40 12 p = true) (hk : l ≤ 42) (hn42 : n ≤ 42) (hm203 : ∀ j, j < n → (rows.getD j []).length ≤ 203) (hk42 : k ≤ 42) (hp203 : ∀ j, j < k → (p.getD j []).length ≤ 203) (m c' : Nat) (B : Option Addr) (hck : CellAt w ad (.slice B m c')) (h0n : 0 < n) (hm12 : 0 < m ∧ m ≤ 12) (htE : taskE rows b = 0) (hbb : 0 ≤ b ∧ b ≤ 1000) (hg : ∀ r ∈ rows, r.length = m ∧ ∀ x ∈ r, 0 ≤ x ∧ x ≤ 255) (hpe : pricesE rows b n m p = 0) (hcpe : cpE rows b n p = 0) (bd : Int) (hbd : boundF p = bd) (hkn : k = n) (hpm : ∀ r ∈ p, r.length = m) (hpath : pathE n m path = 0) (hln : l = n) (cv : Int) (hcv : costF rows b path n = cv) (hle : bd ≤ cv) :
    Calls Tryd.prog 7 #[.agg #[.slice (some ad) n c, .int .i64 b], .slice PA k cp, .slice Q l cq] w fun e w' => e = .returned (.bool true) ∧ Below w.heap.size w w' := by
  have hb0 : Below w.heap.size w (w.alloc (.cells #[.slice (some ad) n c, .int .i64 b] 53)) := (Below.refl _ _).alloc (Nat.le_refl _) _
  have HL := Lib.hid (hl.later hb0)
  have HT : Hid (TaskAt (w.alloc (.cells #[.slice (some ad) n c, .int .i64 b] 53)) w.heap.size (some ad) n c b) := Bk.new w 53 #[.slice (some ad) n c, .int .i64 b]
  have HRO := Lib.hid (hr.below hb0)
  have HPO := Lib.hid (hpr.below hb0)
  have HQO := Lib.hid (hq.below hb0)
  have low0 := Lib.hid hb0
  have HRN := Lib.hid ((hr.full hm203).below hb0)
  have HPN := Lib.hid ((hpr.full hp203).below hb0)
  have hkI : ¬ (42 : Int) < (l : Int) := by omega
  have CST : Hid (∀ W, RdGo W (some ad) n rows → Calls Tryd.prog 19 #[.slice (some ad) n c] W fun e w' => e = .returned (.bool true) ∧ W = w') := fun W h => by rw [← hgb]; exact strip_any _ n c rows W h
  have CGR : Hid (∀ W, RdGo W PA k p → Calls Tryd.prog 42 #[.slice PA k cp, .int .i64 40, .int .i64 12] W fun e w' => e = .returned (.bool true) ∧ W = w') := fun W h => by rw [← hgp]; exact grid_any _ k cp 40 12 p W h (by omega) (by omega)
  have CCT : Hid (∀ W, RdGN W (some ad) n rows → Calls Tryd.prog 21 #[.agg #[.slice (some ad) n c, .int .i64 b]] W fun e w' => (∃ A' c', e = .returned (.agg #[.slice A' n c', .int .i64 b]) ∧ RdGN w' A' n rows) ∧ Below W.heap.size W w') := fun W h => copyTask_any _ n c rows b W h (by omega) hm203
  have CCL : Hid (∀ W, RdGN W PA k p → Calls Tryd.prog 25 #[.slice PA k cp] W fun e w' => (∃ A' c', e = .returned (.slice A' k c') ∧ RdGN w' A' k p) ∧ Below W.heap.size W w') := fun W h => by
    refine (copyLists_any _ k cp p W h (by omega) hp203).mono ?_
    rintro e w' ⟨⟨v, he, ho⟩, hb⟩
    obtain ⟨A', c', e2, h2⟩ := ho.read hpr.1 hp203
    exact ⟨⟨A', c', by rw [he, e2], h2⟩, hb⟩
  have CCP : Hid (∀ W A' c' P' cp', RdGN W A' n rows → RdGN W P' k p → Calls Tryd.prog 40 #[.agg #[.slice A' n c', .int .i64 b], .slice P' k cp'] W fun e w' => e = .returned (.tuple #[.int .i64 bd, .int .i64 0]) ∧ Below W.heap.size W w') := fun W A' c' P' cp' h1 h2 => by
    have h := CheckPrices_any A' n c' rows b P' k cp' p W h1.toG (by omega) h2.toG (by omega)
    rw [hcpe] at h
    rw [if_pos rfl, hbd] at h
    exact h
  have CTE : Hid (∀ W, RdGN W (some ad) n rows → Calls Tryd.prog 27 #[.agg #[.slice (some ad) n c, .int .i64 b]] W fun e w' => e = .returned (.int .i64 0) ∧ Below W.heap.size W w') := fun W h => by rw [← htE]; exact refTaskErr_any _ n c rows b W h.toG (by omega)
  have CPR : Hid (∀ W, CellAt W ad (.slice B m c') → RdGN W (some ad) n rows → RdGN W PA k p → Calls Tryd.prog 38 #[.agg #[.slice (some ad) n c, .int .i64 b], .slice PA k cp] W fun e w' => e = .returned (.int .i64 0) ∧ Below W.heap.size W w') := fun W h1 h2 h3 => by
    have h := refPricesErr_any ad n c m c' B rows b PA k cp p W h2.toG ⟨h0n, by omega⟩ ⟨hm12.1, by omega⟩ h1.1 h1.2 h3.toG (by omega) hbb hg
    rw [hpe] at h
    exact h
  have HCK := Lib.hid (hck.below hb0)
  have CBD : Hid (∀ W, RdGN W PA k p → Calls Tryd.prog 39 #[.slice PA k cp] W fun e w' => e = .returned (.int .i64 bd) ∧ W = w') := fun W h1 => by
    have h := refBound_any PA k cp m p W h1.toG (by omega) ⟨hm12.1, by omega⟩ hpm
    rw [hbd] at h
    exact h
  have hbq : (bd == bd) = true := by simp
  have CPE : Hid (∀ W, CellAt W ad (.slice B m c') → RdI W Q l path → Calls Tryd.prog 28 #[.agg #[.slice (some ad) n c, .int .i64 b], .slice Q l cq] W fun e w' => e = .returned (.int .i64 0) ∧ Below W.heap.size W w') := fun W h1 h2 => by
    have h := refPathErr_any ad n c m c' B b Q l cq path W ⟨h0n, by omega⟩ (by omega) (by omega) h1.1 h1.2 h2
    rw [hpath] at h
    exact h
  have CCC : Hid (∀ W, RdGN W (some ad) n rows → RdI W Q l path → Calls Tryd.prog 29 #[.agg #[.slice (some ad) n c, .int .i64 b], .slice Q l cq] W fun e w' => e = .returned (.int .i64 cv) ∧ Below W.heap.size W w') := fun W h1 h2 => by
    subst hln
    have h := refCost_any ad l c m rows b Q cq path W h1.toG ⟨h0n, by omega⟩ (by omega) h2 hpath hg hbb
    rw [hcv] at h
    exact h
  have hdc : decide (bd ≤ cv) = true := decide_eq_true hle
  clear hl hr hpr hq hb0 hkn hgb hgp hm203 hp203 htE hcpe hpe hck hbb hg hbd hpath hpm hcv hln
  go_enter Tryd.func7, Tryd.ntmps7
  go_wp2_with fail
  refine (awake_any _ HL.out).mono ?_
  rintro e w1 ⟨rfl, hb1⟩
  have Ft1 := Lib.hid (HT.out.below hb1)
  have Fo1 := Lib.hid (HRO.out.below hb1)
  have Fu1 := Lib.hid (HPO.out.below hb1)
  have Fp1 := Lib.hid (HQO.out.below hb1)
  have Fr1 := Lib.hid (HRN.out.below hb1)
  have Fs1 := Lib.hid (HPN.out.below hb1)
  have Fk1 := Lib.hid (HCK.out.below hb1)
  have low1 := Lib.hid (low0.out.trans (hb1.mono low0.out.size))
  clear HT HRO HPO HQO HRN HPN HCK low0 HL hb1
  have n0 : w1.cell? ⟨w.heap.size, 0, none⟩ = some (.slice (some ad) n c) := Ft1.out.c0
  have n1 : w1.cell? ⟨w.heap.size, 1, none⟩ = some (.int .i64 b) := Ft1.out.c1
  go_wp2_with fail
  refine (CST.out _ Fo1.out).mono ?_
  rintro e w' ⟨rfl, rfl⟩
  go_wp2_with fail
  refine (CGR.out _ Fu1.out).mono ?_
  rintro e w' ⟨rfl, rfl⟩
  go_wp2_with fail
  refine (CCT.out _ Fr1.out).mono ?_
  rintro e w2 ⟨⟨A2, c2, rfl, hr2⟩, hb2⟩
  clear n0 n1
  have Ft2 := Lib.hid (Ft1.out.below hb2)
  have Fp2 := Lib.hid (Fp1.out.below hb2)
  have Fr2 := Lib.hid (Fr1.out.below hb2)
  have Fs2 := Lib.hid (Fs1.out.below hb2)
  have Fk2 := Lib.hid (Fk1.out.below hb2)
  have low2 := Lib.hid (low1.out.trans (hb2.mono low1.out.size))
  have Fa2 := Lib.hid hr2
  clear hr2
  clear Ft1 Fp1 Fr1 Fs1 Fk1 low1 hb2
  have n0 : w2.cell? ⟨w.heap.size, 0, none⟩ = some (.slice (some ad) n c) := Ft2.out.c0
  have n1 : w2.cell? ⟨w.heap.size, 1, none⟩ = some (.int .i64 b) := Ft2.out.c1
  go_wp2_with fail
  refine (CCL.out _ Fs2.out).mono ?_
  rintro e w3 ⟨⟨P3, c3, rfl, hr3⟩, hb3⟩
  clear n0 n1
  have Ft3 := Lib.hid (Ft2.out.below hb3)
  have Fp3 := Lib.hid (Fp2.out.below hb3)
  have Fr3 := Lib.hid (Fr2.out.below hb3)
  have Fs3 := Lib.hid (Fs2.out.below hb3)
  have Fk3 := Lib.hid (Fk2.out.below hb3)
  have Fa3 := Lib.hid (Fa2.out.below hb3)
  have low3 := Lib.hid (low2.out.trans (hb3.mono low2.out.size))
  have Fq3 := Lib.hid hr3
  clear hr3
  clear Ft2 Fp2 Fr2 Fs2 Fk2 Fa2 low2 hb3
  have n0 : w3.cell? ⟨w.heap.size, 0, none⟩ = some (.slice (some ad) n c) := Ft3.out.c0
  have n1 : w3.cell? ⟨w.heap.size, 1, none⟩ = some (.int .i64 b) := Ft3.out.c1
  go_wp2_with fail
  refine (CCP.out _ _ _ _ _ Fa3.out Fq3.out).mono ?_
  rintro e w4 ⟨rfl, hb4⟩
  clear n0 n1
  have Ft4 := Lib.hid (Ft3.out.below hb4)
  have Fp4 := Lib.hid (Fp3.out.below hb4)
  have Fr4 := Lib.hid (Fr3.out.below hb4)
  have Fs4 := Lib.hid (Fs3.out.below hb4)
  have Fk4 := Lib.hid (Fk3.out.below hb4)
  have Fa4 := Lib.hid (Fa3.out.below hb4)
  have Fq4 := Lib.hid (Fq3.out.below hb4)
  have low4 := Lib.hid (low3.out.trans (hb4.mono low3.out.size))
  clear Ft3 Fp3 Fr3 Fs3 Fk3 Fa3 Fq3 low3 hb4
  have n0 : w4.cell? ⟨w.heap.size, 0, none⟩ = some (.slice (some ad) n c) := Ft4.out.c0
  have n1 : w4.cell? ⟨w.heap.size, 1, none⟩ = some (.int .i64 b) := Ft4.out.c1
  go_wp2_with fail
  refine (CTE.out _ Fr4.out).mono ?_
  rintro e w5 ⟨rfl, hb5⟩
  clear n0 n1
  have Ft5 := Lib.hid (Ft4.out.below hb5)
  have Fp5 := Lib.hid (Fp4.out.below hb5)
  have Fr5 := Lib.hid (Fr4.out.below hb5)
  have Fs5 := Lib.hid (Fs4.out.below hb5)
  have Fk5 := Lib.hid (Fk4.out.below hb5)
  have low5 := Lib.hid (low4.out.trans (hb5.mono low4.out.size))
  clear Ft4 Fp4 Fr4 Fs4 Fk4 low4 hb5
  have n0 : w5.cell? ⟨w.heap.size, 0, none⟩ = some (.slice (some ad) n c) := Ft5.out.c0
  have n1 : w5.cell? ⟨w.heap.size, 1, none⟩ = some (.int .i64 b) := Ft5.out.c1
  go_wp2_with fail
  refine (CPR.out _ Fk5.out Fr5.out Fs5.out).mono ?_
  rintro e w6 ⟨rfl, hb6⟩
  clear n0 n1
  have Ft6 := Lib.hid (Ft5.out.below hb6)
  have Fp6 := Lib.hid (Fp5.out.below hb6)
  have Fr6 := Lib.hid (Fr5.out.below hb6)
  have Fs6 := Lib.hid (Fs5.out.below hb6)
  have Fk6 := Lib.hid (Fk5.out.below hb6)
  have low6 := Lib.hid (low5.out.trans (hb6.mono low5.out.size))
  clear Ft5 Fp5 Fr5 Fs5 Fk5 low5 hb6
  have n0 : w6.cell? ⟨w.heap.size, 0, none⟩ = some (.slice (some ad) n c) := Ft6.out.c0
  have n1 : w6.cell? ⟨w.heap.size, 1, none⟩ = some (.int .i64 b) := Ft6.out.c1
  go_wp2_with fail
  refine (CBD.out _ Fs6.out).mono ?_
  rintro e w' ⟨rfl, rfl⟩
  go_wp2_with fail
  refine (CPE.out _ Fk6.out Fp6.out).mono ?_
  rintro e w7 ⟨rfl, hb7⟩
  clear n0 n1
  have Ft7 := Lib.hid (Ft6.out.below hb7)
  have Fp7 := Lib.hid (Fp6.out.below hb7)
  have Fr7 := Lib.hid (Fr6.out.below hb7)
  have Fs7 := Lib.hid (Fs6.out.below hb7)
  have Fk7 := Lib.hid (Fk6.out.below hb7)
  have low7 := Lib.hid (low6.out.trans (hb7.mono low6.out.size))
  clear Ft6 Fp6 Fr6 Fs6 Fk6 low6 hb7
  have n0 : w7.cell? ⟨w.heap.size, 0, none⟩ = some (.slice (some ad) n c) := Ft7.out.c0
  have n1 : w7.cell? ⟨w.heap.size, 1, none⟩ = some (.int .i64 b) := Ft7.out.c1
  go_wp2_with fail
  refine (CCC.out _ Fr7.out Fp7.out).mono ?_
  rintro e w8 ⟨rfl, hb8⟩
  clear n0 n1
  have Ft8 := Lib.hid (Ft7.out.below hb8)
  have Fp8 := Lib.hid (Fp7.out.below hb8)
  have Fr8 := Lib.hid (Fr7.out.below hb8)
  have Fs8 := Lib.hid (Fs7.out.below hb8)
  have Fk8 := Lib.hid (Fk7.out.below hb8)
  have low8 := Lib.hid (low7.out.trans (hb8.mono low7.out.size))
  clear Ft7 Fp7 Fr7 Fs7 Fk7 low7 hb8
  have n0 : w8.cell? ⟨w.heap.size, 0, none⟩ = some (.slice (some ad) n c) := Ft8.out.c0
  have n1 : w8.cell? ⟨w.heap.size, 1, none⟩ = some (.int .i64 b) := Ft8.out.c1
  go_wp2
  go_ret
  exact ⟨rfl, low8.out⟩

end Go.Proofs.YtofdjapbofagiaaDoor

namespace Go.Proofs.YtofdjapbofagiaaDoor
open Go.RowKit

theorem prices_walk (A : Option Addr) (n c : Nat) (b : Int) (rows : List (List Int)) (PA : Option Addr) (k cp : Nat) (p : List (List Int)) (Q : Option Addr) (l cq : Nat) (path : List Int) (w : World) (hl : LaidSides w) (hr : RdGo w A n rows) (hpr : RdGo w PA k p) (_ : Q = none → l = 0 ∧ cq = 0) (hq : RdI w Q l path) :
    Calls Tryd.prog 7 #[.agg #[.slice A n c, .int .i64 b], .slice PA k cp, .slice Q l cq] w fun e w' => e = .returned (.bool true) ∧ Below w.heap.size w w' := by
  cases hgb : gridB 40 12 rows with
  | false => exact prices_wide A n c b rows PA k cp p Q l cq path w hl hr hpr hq hgb
  | true =>
    cases hgp : gridB 40 12 p with
    | false => exact prices_wide2 A n c b rows PA k cp p Q l cq path w hl hr hpr hq hgb hgp
    | true =>
      obtain ⟨h1, h2⟩ := gridB_parts hgb
      obtain ⟨h3, h4⟩ := gridB_parts hgp
      rw [hr.1] at h1 h2
      rw [hpr.1] at h3 h4
      have hm203 : ∀ j, j < n → (rows.getD j []).length ≤ 203 := fun j hj => by have := h2 j hj; omega
      have hp203 : ∀ j, j < k → (p.getD j []).length ≤ 203 := fun j hj => by have := h4 j hj; omega
      by_cases hk : l ≤ 42
      · by_cases hE : taskE rows b = 0
        · obtain ⟨ad, m, c', B, rfl, hcm, h0, h40, hm0, hm12, hadb, hck, hbb, hg⟩ := task_parts (hr.full hm203).toG hE
          have hc : cpE rows b n p = pricesE rows b n m p := by unfold cpE; rw [if_pos hE, hcm]
          by_cases hpe : pricesE rows b n m p = 0
          · obtain ⟨g1, g2, g3⟩ := prices_parts hpe
            by_cases hpath : pathE n m path = 0
            · exact prices_ok2 ad n c b rows PA k cp p Q l cq path w hl hr hpr hq hgb hgp hk h1 hm203 h3 hp203 m c' B ⟨hadb, hck⟩ h0 ⟨hm0, hm12⟩ hE hbb hg hpe (hc.trans hpe) _ rfl (by rw [← hpr.1, g1]) (fun r hr => (g2 r hr).1) hpath (by rw [← hq.1, (path_in hpath).1]) _ rfl (bound_le h0 hbb hpe hpath)
            · exact prices_ok1 ad n c b rows PA k cp p Q l cq path w hl hr hpr hq hgb hgp hk h1 hm203 h3 hp203 m c' B ⟨hadb, hck⟩ h0 ⟨hm0, hm12⟩ hE hbb hg hpe (hc.trans hpe) _ rfl (by rw [← hpr.1, g1]) (fun r hr => (g2 r hr).1) _ rfl hpath
          · exact prices_err2 ad n c b rows PA k cp p Q l cq path w hl hr hpr hq hgb hgp hk h1 hm203 h3 hp203 m c' B ⟨hadb, hck⟩ h0 ⟨hm0, hm12⟩ hE hbb hg _ hpe rfl hc
        · have hc : cpE rows b n p = taskE rows b := by unfold cpE; rw [if_neg hE]
          exact prices_err1 A n c b rows PA k cp p Q l cq path w hl hr hpr hq hgb hgp hk h1 hm203 h3 hp203 _ hE rfl hc
      · exact prices_long A n c b rows PA k cp p Q l cq path w hl hr hpr hq hgb hgp hk

end Go.Proofs.YtofdjapbofagiaaDoor

