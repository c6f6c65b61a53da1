import Derived.Test.YtpkjkegcdddimaaDoorZ0
import Derived.Test.YtpkjkegcdddimaaDoorJ2
import Derived.Test.YtpkjkegcdddimaaDoorGA
import Derived.Test.YtpkjkegcdddimaaDoorT2
import Derived.Test.YtpkjkegcdddimaaDoorP3
namespace Go.Proofs.YtpkjkegcdddimaaDoor
open Go.RowKit

theorem RdGN.toGZ {w : World} {A : Option Addr} {n : Nat} {rows : List (List Int)} (h : RdGN w A n rows) : RdG w A n rows := by
  refine ⟨h.1, fun hn => ?_⟩
  obtain ⟨ad, e, hlt, hc⟩ := h.2 hn
  refine ⟨ad, e, hlt, fun j hj => ?_⟩
  obtain ⟨B, m, c, h1, h2, h3, _⟩ := hc j hj
  exact ⟨B, m, c, h1, h2, h3⟩
theorem getD_inZ {α : Type} (l : List α) (j : Nat) (d : α) (h : j < l.length) : l.getD j d ∈ l := by
  rw [List.getD_eq_getElem?_getD, List.getElem?_eq_getElem h]; exact List.getElem_mem _
theorem gridB_partsZ {R C : Nat} {rows : List (List Int)} (h : gridB R C rows = true) : rows.length ≤ R + 2 ∧ ∀ j, j < rows.length → (rows.getD j []).length ≤ C + 2 := by
  unfold gridB at h
  rw [Bool.and_eq_true, decide_eq_true_eq, List.all_eq_true] at h
  exact ⟨h.1, fun j hj => by have := h.2 _ (getD_inZ rows j [] hj); simpa using this⟩
theorem fromB_allZ {lo hi : Int} {xs : List Int} (h : fromB lo hi xs = true) : ∀ x ∈ xs, lo ≤ x ∧ x ≤ hi := fun x hx => by
  unfold fromB at h
  rw [List.all_eq_true] at h
  simpa using h x hx
theorem RdI.ofOwnZ {w : World} {base : Nat} {v : Value} {n : Nat} {xs : List Int} (h : w.ownsRow base 3 1 v n (xs.map (Value.int .i64))) : ∃ A c, v = .slice A n c ∧ RdI w A n xs ∧ (A = none → n = 0 ∧ c = 0) := by
  obtain ⟨A, c, e, _, hr, hn⟩ := rd_ownN h
  exact ⟨A, c, e, hr, hn⟩

set_option maxRecDepth 100000 in
set_option maxHeartbeats 16000000 in
theorem turned_wide (A : Option Addr) (n c : Nat) (rows : List (List Int)) (w : World) (hl : LaidSides w) (hr : RdGo w A n rows) (hgb : gridB 24 24 rows = false) :
    Calls Tryd.prog 3 #[.agg #[.slice A n c]] w fun e w' => e = .returned (.bool true) ∧ Below w.heap.size w w' := by
  have hb0 : Below w.heap.size w (w.alloc (.cells #[.slice A n c] 24)) := (Below.refl _ _).alloc (Nat.le_refl _) _
  have HL := Lib.hid (hl.later hb0)
  have HI0 : Hid (Bk (w.alloc (.cells #[.slice A n c] 24)) w.heap.size 24 #[.slice A n c]) := Bk.new w 24 #[.slice A n c]
  have HRO := Lib.hid (hr.below hb0)
  have low0 := Lib.hid hb0
  have CIM : Hid (∀ W, RdGo W A n rows → Calls Tryd.prog 8 #[.agg #[.slice A n c]] W fun e w' => e = .returned (.bool false) ∧ Below W.heap.size W w') := fun W h => by rw [← hgb]; exact image_any A n c rows W h
  clear hl hr hb0 hgb
  go_enter Tryd.func3, Tryd.ntmps3
  go_wp2_with fail
  refine (awake_any _ HL.out).mono ?_
  rintro e w1 ⟨rfl, hb1⟩
  have Fi1 := Lib.hid (HI0.out.later hb1)
  have Fl1 := Lib.hid (HL.out.later hb1)
  have Fo1 := Lib.hid (HRO.out.below hb1)
  have low1 := Lib.hid (low0.out.trans (hb1.mono low0.out.size))
  clear HI0 HL HRO low0 hb1
  have i0 : w1.cell? ⟨w.heap.size, 0, none⟩ = some (.slice A n c) := by rw [Fi1.out.cell]; rfl
  go_wp2_with fail
  refine (CIM.out _ Fo1.out).mono ?_
  rintro e w2 ⟨rfl, hb2⟩
  clear i0
  have Fi2 := Lib.hid (Fi1.out.later hb2)
  have Fl2 := Lib.hid (Fl1.out.later hb2)
  have Fo2 := Lib.hid (Fo1.out.below hb2)
  have low2 := Lib.hid (low1.out.trans (hb2.mono low1.out.size))
  clear Fi1 Fl1 Fo1 low1 hb2
  have i0 : w2.cell? ⟨w.heap.size, 0, none⟩ = some (.slice A n c) := by rw [Fi2.out.cell]; rfl
  go_wp2
  go_ret
  exact ⟨rfl, low2.out⟩

set_option maxRecDepth 100000 in
set_option maxHeartbeats 16000000 in
theorem turned_err (A : Option Addr) (n c : Nat) (rows : List (List Int)) (w : World) (hl : LaidSides w) (hr : RdGo w A n rows) (hgb : gridB 24 24 rows = true) (hn26 : n ≤ 26) (hm203 : ∀ j, j < n → (rows.getD j []).length ≤ 203) (E : Int) (hgE : gridE 24 24 rows = E) (hE0 : E ≠ 0) :
    Calls Tryd.prog 3 #[.agg #[.slice A n c]] w fun e w' => e = .returned (.bool true) ∧ Below w.heap.size w w' := by
  have hb0 : Below w.heap.size w (w.alloc (.cells #[.slice A n c] 24)) := (Below.refl _ _).alloc (Nat.le_refl _) _
  have HL := Lib.hid (hl.later hb0)
  have HI0 : Hid (Bk (w.alloc (.cells #[.slice A n c] 24)) w.heap.size 24 #[.slice A n c]) := Bk.new w 24 #[.slice A n c]
  have HRO := Lib.hid (hr.below hb0)
  have low0 := Lib.hid hb0
  have CIM : Hid (∀ W, RdGo W A n rows → Calls Tryd.prog 8 #[.agg #[.slice A n c]] W fun e w' => e = .returned (.bool true) ∧ Below W.heap.size W w') := fun W h => by rw [← hgb]; exact image_any A n c rows W h
  have HRN := Lib.hid ((hr.full hm203).below hb0)
  have CIE : Hid (∀ W, RdGN W A n rows → Calls Tryd.prog 9 #[.agg #[.slice A n c]] W fun e w' => e = .returned (.int .i64 E) ∧ Below W.heap.size W w') := fun W h => by rw [← hgE]; exact refImageErr_any A n c rows W h.toGZ (by omega)
  have hEb : (E != 0) = true := by simpa using hE0
  clear hl hr hb0 hgb hm203 hgE hE0
  go_enter Tryd.func3, Tryd.ntmps3
  go_wp2_with fail
  refine (awake_any _ HL.out).mono ?_
  rintro e w1 ⟨rfl, hb1⟩
  have Fi1 := Lib.hid (HI0.out.later hb1)
  have Fl1 := Lib.hid (HL.out.later hb1)
  have Fo1 := Lib.hid (HRO.out.below hb1)
  have Fr1 := Lib.hid (HRN.out.below hb1)
  have low1 := Lib.hid (low0.out.trans (hb1.mono low0.out.size))
  clear HI0 HL HRO HRN low0 hb1
  have i0 : w1.cell? ⟨w.heap.size, 0, none⟩ = some (.slice A n c) := by rw [Fi1.out.cell]; rfl
  go_wp2_with fail
  refine (CIM.out _ Fo1.out).mono ?_
  rintro e w2 ⟨rfl, hb2⟩
  clear i0
  have Fi2 := Lib.hid (Fi1.out.later hb2)
  have Fl2 := Lib.hid (Fl1.out.later hb2)
  have Fo2 := Lib.hid (Fo1.out.below hb2)
  have Fr2 := Lib.hid (Fr1.out.below hb2)
  have low2 := Lib.hid (low1.out.trans (hb2.mono low1.out.size))
  clear Fi1 Fl1 Fo1 Fr1 low1 hb2
  have i0 : w2.cell? ⟨w.heap.size, 0, none⟩ = some (.slice A n c) := by rw [Fi2.out.cell]; rfl
  go_wp2_with fail
  refine (CIE.out _ Fr2.out).mono ?_
  rintro e w3 ⟨rfl, hb3⟩
  clear i0
  have Fi3 := Lib.hid (Fi2.out.later hb3)
  have Fl3 := Lib.hid (Fl2.out.later hb3)
  have Fo3 := Lib.hid (Fo2.out.below hb3)
  have Fr3 := Lib.hid (Fr2.out.below hb3)
  have low3 := Lib.hid (low2.out.trans (hb3.mono low2.out.size))
  clear Fi2 Fl2 Fo2 Fr2 low2 hb3
  have i0 : w3.cell? ⟨w.heap.size, 0, none⟩ = some (.slice A n c) := by rw [Fi3.out.cell]; rfl
  go_wp2
  go_ret
  exact ⟨rfl, low3.out⟩

set_option maxRecDepth 100000 in
set_option maxHeartbeats 16000000 in
theorem turned_even (A : Option Addr) (n c : Nat) (rows : List (List Int)) (w : World) (hl : LaidSides w) (hr : RdGo w A n rows) (hgb : gridB 24 24 rows = true) (hn26 : n ≤ 26) (hm203 : ∀ j, j < n → (rows.getD j []).length ≤ 203) (hgE : gridE 24 24 rows = 0) (q : Nat) (hq : n = 2 * q) :
    Calls Tryd.prog 3 #[.agg #[.slice A n c]] w fun e w' => e = .returned (.bool true) ∧ Below w.heap.size w w' := by
  have hb0 : Below w.heap.size w (w.alloc (.cells #[.slice A n c] 24)) := (Below.refl _ _).alloc (Nat.le_refl _) _
  have HL := Lib.hid (hl.later hb0)
  have HI0 : Hid (Bk (w.alloc (.cells #[.slice A n c] 24)) w.heap.size 24 #[.slice A n c]) := Bk.new w 24 #[.slice A n c]
  have HRO := Lib.hid (hr.below hb0)
  have low0 := Lib.hid hb0
  have CIM : Hid (∀ W, RdGo W A n rows → Calls Tryd.prog 8 #[.agg #[.slice A n c]] W fun e w' => e = .returned (.bool true) ∧ Below W.heap.size W w') := fun W h => by rw [← hgb]; exact image_any A n c rows W h
  have HRN := Lib.hid ((hr.full hm203).below hb0)
  have CIE : Hid (∀ W, RdGN W A n rows → Calls Tryd.prog 9 #[.agg #[.slice A n c]] W fun e w' => e = .returned (.int .i64 0) ∧ Below W.heap.size W w') := fun W h => by rw [← hgE]; exact refImageErr_any A n c rows W h.toGZ (by omega)
  have hd : (n : Int).tmod 2 = 0 := by rw [Int.tmod_eq_emod_of_nonneg (Int.natCast_nonneg n)]; omega
  clear hl hr hb0 hgb hm203 hgE hq
  go_enter Tryd.func3, Tryd.ntmps3
  go_wp2_with fail
  refine (awake_any _ HL.out).mono ?_
  rintro e w1 ⟨rfl, hb1⟩
  have Fi1 := Lib.hid (HI0.out.later hb1)
  have Fl1 := Lib.hid (HL.out.later hb1)
  have Fo1 := Lib.hid (HRO.out.below hb1)
  have Fr1 := Lib.hid (HRN.out.below hb1)
  have low1 := Lib.hid (low0.out.trans (hb1.mono low0.out.size))
  clear HI0 HL HRO HRN low0 hb1
  have i0 : w1.cell? ⟨w.heap.size, 0, none⟩ = some (.slice A n c) := by rw [Fi1.out.cell]; rfl
  go_wp2_with fail
  refine (CIM.out _ Fo1.out).mono ?_
  rintro e w2 ⟨rfl, hb2⟩
  clear i0
  have Fi2 := Lib.hid (Fi1.out.later hb2)
  have Fl2 := Lib.hid (Fl1.out.later hb2)
  have Fo2 := Lib.hid (Fo1.out.below hb2)
  have Fr2 := Lib.hid (Fr1.out.below hb2)
  have low2 := Lib.hid (low1.out.trans (hb2.mono low1.out.size))
  clear Fi1 Fl1 Fo1 Fr1 low1 hb2
  have i0 : w2.cell? ⟨w.heap.size, 0, none⟩ = some (.slice A n c) := by rw [Fi2.out.cell]; rfl
  go_wp2_with fail
  refine (CIE.out _ Fr2.out).mono ?_
  rintro e w3 ⟨rfl, hb3⟩
  clear i0
  have Fi3 := Lib.hid (Fi2.out.later hb3)
  have Fl3 := Lib.hid (Fl2.out.later hb3)
  have Fo3 := Lib.hid (Fo2.out.below hb3)
  have Fr3 := Lib.hid (Fr2.out.below hb3)
  have low3 := Lib.hid (low2.out.trans (hb3.mono low2.out.size))
  clear Fi2 Fl2 Fo2 Fr2 low2 hb3
  have i0 : w3.cell? ⟨w.heap.size, 0, none⟩ = some (.slice A n c) := by rw [Fi3.out.cell]; rfl
  go_wp2
  go_ret
  exact ⟨rfl, low3.out⟩

set_option maxRecDepth 100000 in
set_option maxHeartbeats 16000000 in
theorem turned_large (A : Option Addr) (n c : Nat) (rows : List (List Int)) (w : World) (hl : LaidSides w) (hr : RdGo w A n rows) (hgb : gridB 24 24 rows = true) (hn26 : n ≤ 26) (hm203 : ∀ j, j < n → (rows.getD j []).length ≤ 203) (hgE : gridE 24 24 rows = 0) (q : Nat) (hq : n = 2 * q + 1) (h9 : 9 < n) :
    Calls Tryd.prog 3 #[.agg #[.slice A n c]] w fun e w' => e = .returned (.bool true) ∧ Below w.heap.size w w' := by
  have hb0 : Below w.heap.size w (w.alloc (.cells #[.slice A n c] 24)) := (Below.refl _ _).alloc (Nat.le_refl _) _
  have HL := Lib.hid (hl.later hb0)
  have HI0 : Hid (Bk (w.alloc (.cells #[.slice A n c] 24)) w.heap.size 24 #[.slice A n c]) := Bk.new w 24 #[.slice A n c]
  have HRO := Lib.hid (hr.below hb0)
  have low0 := Lib.hid hb0
  have CIM : Hid (∀ W, RdGo W A n rows → Calls Tryd.prog 8 #[.agg #[.slice A n c]] W fun e w' => e = .returned (.bool true) ∧ Below W.heap.size W w') := fun W h => by rw [← hgb]; exact image_any A n c rows W h
  have HRN := Lib.hid ((hr.full hm203).below hb0)
  have CIE : Hid (∀ W, RdGN W A n rows → Calls Tryd.prog 9 #[.agg #[.slice A n c]] W fun e w' => e = .returned (.int .i64 0) ∧ Below W.heap.size W w') := fun W h => by rw [← hgE]; exact refImageErr_any A n c rows W h.toGZ (by omega)
  have hd : (n : Int).tmod 2 = 1 := by rw [Int.tmod_eq_emod_of_nonneg (Int.natCast_nonneg n)]; omega
  have h9I : (9 : Int) < (n : Int) := by omega
  clear hl hr hb0 hgb hm203 hgE hq
  go_enter Tryd.func3, Tryd.ntmps3
  go_wp2_with fail
  refine (awake_any _ HL.out).mono ?_
  rintro e w1 ⟨rfl, hb1⟩
  have Fi1 := Lib.hid (HI0.out.later hb1)
  have Fl1 := Lib.hid (HL.out.later hb1)
  have Fo1 := Lib.hid (HRO.out.below hb1)
  have Fr1 := Lib.hid (HRN.out.below hb1)
  have low1 := Lib.hid (low0.out.trans (hb1.mono low0.out.size))
  clear HI0 HL HRO HRN low0 hb1
  have i0 : w1.cell? ⟨w.heap.size, 0, none⟩ = some (.slice A n c) := by rw [Fi1.out.cell]; rfl
  go_wp2_with fail
  refine (CIM.out _ Fo1.out).mono ?_
  rintro e w2 ⟨rfl, hb2⟩
  clear i0
  have Fi2 := Lib.hid (Fi1.out.later hb2)
  have Fl2 := Lib.hid (Fl1.out.later hb2)
  have Fo2 := Lib.hid (Fo1.out.below hb2)
  have Fr2 := Lib.hid (Fr1.out.below hb2)
  have low2 := Lib.hid (low1.out.trans (hb2.mono low1.out.size))
  clear Fi1 Fl1 Fo1 Fr1 low1 hb2
  have i0 : w2.cell? ⟨w.heap.size, 0, none⟩ = some (.slice A n c) := by rw [Fi2.out.cell]; rfl
  go_wp2_with fail
  refine (CIE.out _ Fr2.out).mono ?_
  rintro e w3 ⟨rfl, hb3⟩
  clear i0
  have Fi3 := Lib.hid (Fi2.out.later hb3)
  have Fl3 := Lib.hid (Fl2.out.later hb3)
  have Fo3 := Lib.hid (Fo2.out.below hb3)
  have Fr3 := Lib.hid (Fr2.out.below hb3)
  have low3 := Lib.hid (low2.out.trans (hb3.mono low2.out.size))
  clear Fi2 Fl2 Fo2 Fr2 low2 hb3
  have i0 : w3.cell? ⟨w.heap.size, 0, none⟩ = some (.slice A n c) := by rw [Fi3.out.cell]; rfl
  go_wp2
  go_ret
  exact ⟨rfl, low3.out⟩

set_option maxRecDepth 100000 in
set_option maxHeartbeats 16000000 in
theorem turned_shape (A : Option Addr) (n c : Nat) (rows : List (List Int)) (w : World) (hl : LaidSides w) (hr : RdGo w A n rows) (hgb : gridB 24 24 rows = true) (hn26 : n ≤ 26) (hm203 : ∀ j, j < n → (rows.getD j []).length ≤ 203) (hgE : gridE 24 24 rows = 0) (q m : Nat) (hq : n = 2 * q + 1) (h9 : n ≤ 9) (hm : (rows.getD 0 []).length = m) (hmn : m ≠ n) :
    Calls Tryd.prog 3 #[.agg #[.slice A n c]] w fun e w' => e = .returned (.bool true) ∧ Below w.heap.size w w' := by
  obtain ⟨ad, hA, hadb, hcs⟩ := hr.2 (by omega)
  have hc0 := hcs 0 (by omega)
  obtain ⟨B0, m0, c0, hk0, hrd0, _⟩ := hc0
  have hm0 : m0 = m := by rw [← hrd0.1]; exact hm
  subst hm0
  subst hA
  have hb0 : Below w.heap.size w (w.alloc (.cells #[.slice (some ad) n c] 24)) := (Below.refl _ _).alloc (Nat.le_refl _) _
  have HL := Lib.hid (hl.later hb0)
  have HI0 : Hid (Bk (w.alloc (.cells #[.slice (some ad) n c] 24)) w.heap.size 24 #[.slice (some ad) n c]) := Bk.new w 24 #[.slice (some ad) n c]
  have HRO := Lib.hid (hr.below hb0)
  have low0 := Lib.hid hb0
  have CIM : Hid (∀ W, RdGo W (some ad) n rows → Calls Tryd.prog 8 #[.agg #[.slice (some ad) n c]] W fun e w' => e = .returned (.bool true) ∧ Below W.heap.size W w') := fun W h => by rw [← hgb]; exact image_any (some ad) n c rows W h
  have HRN := Lib.hid ((hr.full hm203).below hb0)
  have CIE : Hid (∀ W, RdGN W (some ad) n rows → Calls Tryd.prog 9 #[.agg #[.slice (some ad) n c]] W fun e w' => e = .returned (.int .i64 0) ∧ Below W.heap.size W w') := fun W h => by rw [← hgE]; exact refImageErr_any (some ad) n c rows W h.toGZ (by omega)
  have HK := Lib.hid (fun W (hb : Below w.heap.size w W) => (hb.cell (p := ad.add 0) (by rw [addBlock]; exact hadb)).trans hk0)
  have hd : (n : Int).tmod 2 = 1 := by rw [Int.tmod_eq_emod_of_nonneg (Int.natCast_nonneg n)]; omega
  have h9I : ¬ (9 : Int) < (n : Int) := by omega
  have hne : ((m0 : Int) != (n : Int)) = true := by simp; omega
  have h0I : (0 : Int) < (n : Int) := by omega
  have h0N : 0 < n := by omega
  clear hl hr hb0 hgb hm203 hgE hq hk0 hcs hrd0 hmn h9
  go_enter Tryd.func3, Tryd.ntmps3
  go_wp2_with fail
  refine (awake_any _ HL.out).mono ?_
  rintro e w1 ⟨rfl, hb1⟩
  have Fi1 := Lib.hid (HI0.out.later hb1)
  have Fl1 := Lib.hid (HL.out.later hb1)
  have Fo1 := Lib.hid (HRO.out.below hb1)
  have Fr1 := Lib.hid (HRN.out.below hb1)
  have low1 := Lib.hid (low0.out.trans (hb1.mono low0.out.size))
  clear HI0 HL HRO HRN low0 hb1
  have i0 : w1.cell? ⟨w.heap.size, 0, none⟩ = some (.slice (some ad) n c) := by rw [Fi1.out.cell]; rfl
  go_wp2_with fail
  refine (CIM.out _ Fo1.out).mono ?_
  rintro e w2 ⟨rfl, hb2⟩
  clear i0
  have Fi2 := Lib.hid (Fi1.out.later hb2)
  have Fl2 := Lib.hid (Fl1.out.later hb2)
  have Fo2 := Lib.hid (Fo1.out.below hb2)
  have Fr2 := Lib.hid (Fr1.out.below hb2)
  have low2 := Lib.hid (low1.out.trans (hb2.mono low1.out.size))
  clear Fi1 Fl1 Fo1 Fr1 low1 hb2
  have i0 : w2.cell? ⟨w.heap.size, 0, none⟩ = some (.slice (some ad) n c) := by rw [Fi2.out.cell]; rfl
  go_wp2_with fail
  refine (CIE.out _ Fr2.out).mono ?_
  rintro e w3 ⟨rfl, hb3⟩
  clear i0
  have Fi3 := Lib.hid (Fi2.out.later hb3)
  have Fl3 := Lib.hid (Fl2.out.later hb3)
  have Fo3 := Lib.hid (Fo2.out.below hb3)
  have Fr3 := Lib.hid (Fr2.out.below hb3)
  have low3 := Lib.hid (low2.out.trans (hb3.mono low2.out.size))
  clear Fi2 Fl2 Fo2 Fr2 low2 hb3
  have i0 : w3.cell? ⟨w.heap.size, 0, none⟩ = some (.slice (some ad) n c) := by rw [Fi3.out.cell]; rfl
  have k0 := HK.out _ low3.out
  have addZ0 : ad.add 0 = ad := addZ ad
  rw [addZ0] at k0
  go_wp2
  go_ret
  exact ⟨rfl, low3.out⟩

end Go.Proofs.YtpkjkegcdddimaaDoor

namespace Go.Proofs.YtpkjkegcdddimaaDoor
open Go.RowKit

theorem rowsE_ok {cols : Nat} {lo hi : Int} : ∀ {rows : List (List Int)}, (∀ r ∈ rows, r.length = cols ∧ ∀ x ∈ r, lo ≤ x ∧ x ≤ hi) → rowsE cols lo hi rows = 0
  | [], _ => rfl
  | a :: l, h => by
    have ha := h a (List.mem_cons_self ..)
    have hf : fromB lo hi a = true := by
      unfold fromB
      rw [List.all_eq_true]
      intro x hx
      have := ha.2 x hx
      simp [this.1, this.2]
    have h0 : rowE cols lo hi a = 0 := by unfold rowE; rw [if_pos ha.1, if_pos hf]
    unfold rowsE
    rw [if_pos h0]
    exact rowsE_ok fun r hr => h r (List.mem_cons_of_mem _ hr)
theorem trd_length (q : Nat) (rows : List (List Int)) : (trd q rows).length = 2 * q + 1 := trTo_length q rows _
theorem trd_at (q : Nat) (rows : List (List Int)) {y : Nat} (h : y < 2 * q + 1) : (trd q rows).getD y [] = trRow q rows y (2 * q + 1) := trTo_at q rows h
theorem trd_grid {q : Nat} {rows : List (List Int)} (hq : q ≤ 4) (hv : ∀ j, j < 2 * q + 1 → ∀ i, i < 2 * q + 1 → 0 ≤ (rows.getD j []).getD i 0 ∧ (rows.getD j []).getD i 0 ≤ 255) : gridE 24 24 (trd q rows) = 0 := by
  rw [gridE_row (trd_length q rows) (by omega) (by rw [trd_at q rows (by omega), trRow_length]), if_neg (by omega), if_neg (by omega)]
  refine rowsE_ok fun r hr => ?_
  obtain ⟨y, hy, rfl⟩ := List.mem_iff_getElem.1 hr
  rw [trd_length] at hy
  have e : (trd q rows)[y]'(by rw [trd_length]; exact hy) = trRow q rows y (2 * q + 1) := by
    have := trd_at q rows hy
    rw [List.getD_eq_getElem?_getD, List.getElem?_eq_getElem (by rw [trd_length]; exact hy)] at this
    exact this
  rw [e]
  refine ⟨trRow_length q rows y _, fun x hx => ?_⟩
  obtain ⟨i, hi, rfl⟩ := List.mem_iff_getElem.1 hx
  rw [trRow_length] at hi
  have e2 := trRow_at q rows y hi
  rw [List.getD_eq_getElem?_getD, List.getElem?_eq_getElem (by rw [trRow_length]; exact hi)] at e2
  have e3 : (trRow q rows y (2 * q + 1))[i]'(by rw [trRow_length]; exact hi) = (rows.getD (2 * q - i) []).getD y 0 := e2
  rw [e3]
  exact hv _ (by omega) _ hy
theorem ring_zero {rows : List (List Int)} {q r : Nat} (hg : gridE 24 24 rows = 0) (hl : rows.length = 2 * q + 1) (hm : (rows.getD 0 []).length = 2 * q + 1) (hq : q ≤ 4) (hr : 1 ≤ r ∧ r ≤ q) : ringE rows q q r = 0 ∧ ringX rows q q r = (ringTo (q : Int) q r 5).map (pix rows) := by
  have e : ringE rows q q r = 0 := by
    unfold ringE
    rw [if_pos hg, if_pos (fromB_one.2 (by omega)), if_pos ?_]
    unfold hasB
    rw [hl, hm, fromB_one.2 (by omega), Bool.true_and]
  refine ⟨e, ?_⟩
  unfold ringX
  rw [if_pos e, Int.toNat_natCast]
theorem ring_vals {rows : List (List Int)} {q r : Nat} (hq : r ≤ q) (hq4 : q ≤ 4) (hv : ∀ j, j < 2 * q + 1 → ∀ i, i < 2 * q + 1 → 0 ≤ (rows.getD j []).getD i 0 ∧ (rows.getD j []).getD i 0 ≤ 255) : ∀ i, i < 8 * r → 0 ≤ ((ringTo (q : Int) q r 5).map (pix rows)).getD i 0 ∧ ((ringTo (q : Int) q r 5).map (pix rows)).getD i 0 ≤ 255 := by
  intro i hi
  rw [ring_at rows q r hi]
  have hn := ring_near r (by omega) i hi
  unfold pix
  exact hv _ (by dsimp only; omega) _ (by dsimp only; omega)
theorem allS_bd {q : Nat} {rows : List (List Int)} (hv : ∀ j, j < 2 * q + 1 → ∀ i, i < 2 * q + 1 → 0 ≤ (rows.getD j []).getD i 0 ∧ (rows.getD j []).getD i 0 ≤ 255) (hq : q ≤ 4) {k x : Nat} (hk : k < 2 * q + 1) (hx : x ≤ 2 * q + 1) : 0 ≤ allS q rows k + sumTo (fun x => (rows.getD k []).getD x 0) x ∧ allS q rows k + sumTo (fun x => (rows.getD k []).getD x 0) x ≤ 50000 := by
  have h1 : 0 ≤ allS q rows k ∧ allS q rows k ≤ 2295 * (k : Int) := sumTo_bd fun y hy => by
    have := sumTo_bd (f := fun x => (rows.getD y []).getD x 0) (b := 255) (k := 2 * q + 1) fun x hx => hv y (by omega) x hx
    omega
  have h2 := sumTo_bd (f := fun x => (rows.getD k []).getD x 0) (b := 255) (k := x) fun i hi => hv k hk i (by omega)
  omega
theorem rngS_bd {q : Nat} {rows : List (List Int)} (hv : ∀ j, j < 2 * q + 1 → ∀ i, i < 2 * q + 1 → 0 ≤ (rows.getD j []).getD i 0 ∧ (rows.getD j []).getD i 0 ≤ 255) (hq : q ≤ 4) {r x : Nat} (hr : r < q) (hx : x ≤ 8 * (r + 1)) : 0 ≤ rngS q rows r + sumTo (fun i => ((ringTo (q : Int) q (r + 1) 5).map (pix rows)).getD i 0) x ∧ rngS q rows r + sumTo (fun i => ((ringTo (q : Int) q (r + 1) 5).map (pix rows)).getD i 0) x ≤ 50000 := by
  have h1 : 0 ≤ rngS q rows r ∧ rngS q rows r ≤ 8160 * (r : Int) := sumTo_bd fun y hy => by
    have := sumTo_bd (f := fun i => ((ringTo (q : Int) q (y + 1) 5).map (pix rows)).getD i 0) (b := 255) (k := 8 * (y + 1)) fun x hx => ring_vals (by omega) hq hv x hx
    omega
  have h2 := sumTo_bd (f := fun i => ((ringTo (q : Int) q (r + 1) 5).map (pix rows)).getD i 0) (b := 255) (k := x) fun i hi => ring_vals (by omega) hq hv i (by omega)
  omega

/-- The cells of an image's rows, in each later world. -/
def RowsAt (w : World) (ad : Addr) (n : Nat) (rows : List (List Int)) : Prop := ∀ j, j < n → ∃ adj cj, ∀ W, Below w.heap.size w W → W.cell? (ad.add j) = some (.slice (some adj) n cj) ∧ ∀ i, i < n → W.cell? (adj.add i) = some (.int .i64 ((rows.getD j []).getD i 0))
theorem rows_at {w : World} {ad : Addr} {n : Nat} {rows : List (List Int)} (h : RdGN w (some ad) n rows) (h0 : 0 < n) (hs : ∀ j, j < n → (rows.getD j []).length = n) : RowsAt w ad n rows := by
  intro j hj
  obtain ⟨ad', e, hlt, hc⟩ := h.2 h0
  injection e with e
  subst e
  obtain ⟨B, m, c, h1, h2, _⟩ := hc j hj
  obtain rfl : n = m := by rw [← h2.1, hs j hj]
  obtain ⟨adj, rfl, hlj, hcj⟩ := h2.2 h0
  exact ⟨adj, c, fun W hb => ⟨(hb.cell (by rw [addBlock]; exact hlt)).trans h1, fun i hi => (hb.cell (by rw [addBlock]; exact hlj)).trans (hcj i hi)⟩⟩

set_option maxRecDepth 100000 in
set_option maxHeartbeats 16000000 in
theorem turned_main (ad : Addr) (n c : Nat) (rows : List (List Int)) (w : World) (hl : LaidSides w) (hr : RdGo w (some ad) n rows) (hgb : gridB 24 24 rows = true) (hn26 : n ≤ 26) (hm203 : ∀ j, j < n → (rows.getD j []).length ≤ 203) (hgE : gridE 24 24 rows = 0) (q : Nat) (hq : n = 2 * q + 1) (h9 : q ≤ 4) (hsq : ∀ j, j < n → (rows.getD j []).length = n) (hv : ∀ j, j < 2 * q + 1 → ∀ i, i < 2 * q + 1 → 0 ≤ (rows.getD j []).getD i 0 ∧ (rows.getD j []).getD i 0 ≤ 255) :
    Calls Tryd.prog 3 #[.agg #[.slice (some ad) n c]] w fun e w' => e = .returned (.bool true) ∧ Below w.heap.size w w' := by
  have hb0 : Below w.heap.size w (w.alloc (.cells #[.slice (some ad) n c] 24)) := (Below.refl _ _).alloc (Nat.le_refl _) _
  have HL := Lib.hid (hl.later hb0)
  have HI0 : Hid (Bk (w.alloc (.cells #[.slice (some ad) n c] 24)) w.heap.size 24 #[.slice (some ad) n c]) := Bk.new w 24 #[.slice (some ad) n c]
  have HRO := Lib.hid (hr.below hb0)
  have low0 := Lib.hid hb0
  have CIM : Hid (∀ W, RdGo W (some ad) n rows → Calls Tryd.prog 8 #[.agg #[.slice (some ad) n c]] W fun e w' => e = .returned (.bool true) ∧ Below W.heap.size W w') := fun W h => by rw [← hgb]; exact image_any (some ad) n c rows W h
  have HRN := Lib.hid ((hr.full hm203).below hb0)
  have CIE : Hid (∀ W, RdGN W (some ad) n rows → Calls Tryd.prog 9 #[.agg #[.slice (some ad) n c]] W fun e w' => e = .returned (.int .i64 0) ∧ Below W.heap.size W w') := fun W h => by rw [← hgE]; exact refImageErr_any (some ad) n c rows W h.toGZ (by omega)
  have HRA := Lib.hid (rows_at (hr.full hm203) (by omega) hsq)
  have CCP : Hid (∀ W, RdGN W (some ad) n rows → Calls Tryd.prog 11 #[.agg #[.slice (some ad) n c]] W fun e w' => (∃ A' c', e = .returned (.agg #[.slice A' n c']) ∧ RdGN w' A' n rows) ∧ Below W.heap.size W w') := fun W h => copyImage_any (some ad) n c rows W h (by omega) hm203
  have HTL : Hid (∀ j, j < n → ((trd q rows).getD j []).length ≤ 203) := fun j hj => by rw [trd_at q rows (by omega), trRow_length]; omega
  have CCT : Hid (∀ A' c' W, RdGN W A' n (trd q rows) → Calls Tryd.prog 11 #[.agg #[.slice A' n c']] W fun e w' => (∃ A2 c2, e = .returned (.agg #[.slice A2 n c2]) ∧ RdGN w' A2 n (trd q rows)) ∧ Below W.heap.size W w') := fun A' c' W h => copyImage_any A' n c' (trd q rows) W h (by omega) HTL.out
  have hg0 := trd_grid h9 hv
  have CRI : Hid (∀ r : Nat, 1 ≤ r ∧ r ≤ q → ∀ ls, (ls = rows ∨ ls = trd q rows) → ∀ W A' c', LaidSides W → RdGN W A' n ls → Calls Tryd.prog 10 #[.agg #[.slice A' n c'], .agg #[.int .i64 (q : Int), .int .i64 (q : Int)], .int .i64 (r : Int)] W fun e w' => (∃ A2 c2, e = .returned (.tuple #[.slice A2 (8 * r : Nat) c2, .int .i64 0]) ∧ RdI w' A2 (8 * r) ((ringTo (q : Int) q r 5).map (pix ls))) ∧ Below W.heap.size W w') := fun r hr1 ls hls W A' c' h1 h2 => by
    have h := RingOf_any A' n c' ls q q r W h1 h2.toGZ (by omega)
    have hz : ringE ls q q r = 0 ∧ ringX ls q q r = (ringTo (q : Int) q r 5).map (pix ls) := by
      rcases hls with rfl | rfl
      · exact ring_zero hgE (by rw [h2.1, hq]) (by rw [hsq 0 (by omega), hq]) h9 hr1
      · exact ring_zero hg0 (trd_length q rows) (by rw [trd_at q rows (by omega), trRow_length]) h9 hr1
    rw [hz.1, hz.2] at h
    refine h.mono ?_
    rintro e w' ⟨⟨v, he, ho⟩, hb⟩
    rw [List.length_map, ring_size] at ho
    obtain ⟨A2, c2, e2, h3, _⟩ := RdI.ofOwnZ ho
    exact ⟨⟨A2, c2, by rw [he, e2], h3⟩, hb⟩
  have HV := Lib.hid hv
  have HQ : Hid (n = 2 * q + 1 ∧ q ≤ 4) := ⟨hq, h9⟩
  have hd : (n : Int).tmod 2 = 1 := by rw [Int.tmod_eq_emod_of_nonneg (Int.natCast_nonneg n)]; omega
  have hd2 : (n : Int).tdiv 2 = (q : Int) := by rw [Int.tdiv_eq_ediv_of_nonneg (Int.natCast_nonneg n)]; omega
  have h9I : ¬ (9 : Int) < (n : Int) := by omega
  have hnn : ((n : Int) != (n : Int)) = false := bne_self_eq_false' _
  have h0I : (0 : Int) < (n : Int) := by omega
  have h0N : 0 < n := by omega
  have hn9 : n ≤ 9 := by omega
  have hwq : IntKind.i64.wrap (q : Int) = (q : Int) := IntWalk.i64_in _ (by omega)
  have hmi := make_ints n (by omega)
  obtain ⟨i0, hi0, hz0, hz1, hz2⟩ := info_parts sliceInfo
  clear hl hr hb0 hgb hm203 hgE hq hsq hv h9 hg0
  go_enter Tryd.func3, Tryd.ntmps3
  go_wp2_with fail
  refine (awake_any _ HL.out).mono ?_
  rintro e w1 ⟨rfl, hb1⟩
  have Fi1 := Lib.hid (HI0.out.later hb1)
  have Fl1 := Lib.hid (HL.out.later hb1)
  have Fo1 := Lib.hid (HRO.out.below hb1)
  have Fr1 := Lib.hid (HRN.out.below hb1)
  have low1 := Lib.hid (low0.out.trans (hb1.mono low0.out.size))
  clear HI0 HL HRO HRN low0 hb1
  have i0 : w1.cell? ⟨w.heap.size, 0, none⟩ = some (.slice (some ad) n c) := by rw [Fi1.out.cell]; rfl
  go_wp2_with fail
  refine (CIM.out _ Fo1.out).mono ?_
  rintro e w2 ⟨rfl, hb2⟩
  clear i0
  have Fi2 := Lib.hid (Fi1.out.later hb2)
  have Fl2 := Lib.hid (Fl1.out.later hb2)
  have Fo2 := Lib.hid (Fo1.out.below hb2)
  have Fr2 := Lib.hid (Fr1.out.below hb2)
  have low2 := Lib.hid (low1.out.trans (hb2.mono low1.out.size))
  clear Fi1 Fl1 Fo1 Fr1 low1 hb2
  have i0 : w2.cell? ⟨w.heap.size, 0, none⟩ = some (.slice (some ad) n c) := by rw [Fi2.out.cell]; rfl
  go_wp2_with fail
  refine (CIE.out _ Fr2.out).mono ?_
  rintro e w3 ⟨rfl, hb3⟩
  clear i0
  have Fi3 := Lib.hid (Fi2.out.later hb3)
  have Fl3 := Lib.hid (Fl2.out.later hb3)
  have Fo3 := Lib.hid (Fo2.out.below hb3)
  have Fr3 := Lib.hid (Fr2.out.below hb3)
  have low3 := Lib.hid (low2.out.trans (hb3.mono low2.out.size))
  clear Fi2 Fl2 Fo2 Fr2 low2 hb3
  have i0 : w3.cell? ⟨w.heap.size, 0, none⟩ = some (.slice (some ad) n c) := by rw [Fi3.out.cell]; rfl
  have addZ0 : ad.add 0 = ad := addZ ad
  obtain ⟨ad0, cd0, hk0⟩ := HRA.out 0 h0N
  have k0 := (hk0 _ low3.out).1
  rw [addZ0] at k0
  clear hk0
  go_upto_region 8 with (fail)
  clear i0 k0
  have HW : Hid (∀ W, Below w3.heap.size w3 W → Below w.heap.size w W ∧ W.cell? ⟨w.heap.size, 0, none⟩ = some (.slice (some ad) n c) ∧ LaidSides W ∧ RdGN W (some ad) n rows) := fun W hb => ⟨low3.out.trans (hb.mono low3.out.size), by rw [(Fi3.out.later hb).cell]; rfl, Fl3.out.later hb, Fr3.out.below hb⟩
  obtain ⟨W4, hW4⟩ : ∃ W, w3.alloc (.cells #[.slice none 0 0] 24) = W := ⟨_, rfl⟩
  have HT4 : Hid (Bk W4 w3.heap.size 24 #[.slice none 0 0]) := by rw [← hW4]; exact Bk.new _ _ _
  have HB4 : Hid (Below w3.heap.size w3 W4) := by rw [← hW4]; exact (Below.refl _ _).alloc (Nat.le_refl _) _
  rw [hW4]
  have hbase : w.heap.size < w3.heap.size := Fi3.out.lt
  obtain ⟨g5, hg5⟩ : ∃ g, w3.heap.size = g := ⟨_, rfl⟩
  rw [hg5] at HT4 HB4 HW hbase ⊢
  clear hW4 hg5 Fi3 Fl3 Fo3 Fr3 low3 addZ0 hd hd2 h9I
  go_wp2
  go_loopw [6, 8] (fun s i wr => ∃ k : Nat, k ≤ n ∧ i = .int .i64 (k : Int) ∧ s = .int .i64 (allS q rows k) ∧ Hid (∃ p, Bk wr g5 24 #[p] ∧ OwnL wr (g5 + 1) p k (trd q rows)) ∧ Hid (Below g5 w3 wr)) (fun _ i _ => n - (intOf i).toNat)
  case atStart => exact ⟨0, Nat.zero_le _, rfl, rfl, ⟨_, HT4.out, [], World.ownsRow_nil _ _ _ _, fun j hj => absurd hj (by omega)⟩, HB4.out⟩
  case round =>
    clear HT4 HB4
    obtain ⟨k, hk, rfl, rfl, HP, HX⟩ := hrel
    obtain ⟨wo, hwo⟩ : ∃ W, W = wr := ⟨_, rfl⟩
    subst hwo
    obtain ⟨Sk, hSk⟩ : ∃ z, allS q rows k = z := ⟨_, rfl⟩
    rw [hSk]
    have HSk := Lib.hid hSk
    clear hSk
    by_cases hlt : k < n
    · have hkI : (k : Int) < (n : Int) := by omega
      obtain ⟨p, hT, hO⟩ := HP.out
      have HT := Lib.hid hT
      have HO := Lib.hid hO
      have hg5l : g5 < wo.heap.size := hT.lt
      clear hT hO HP
      go_upto_region 13 with (fail)
      obtain ⟨W5, hW5⟩ : ∃ W, wo.alloc (.cells (iArr (List.replicate n 0)) 3) = W := ⟨_, rfl⟩
      have HR5 : Hid (Bk W5 wo.heap.size 3 (iArr (padR (trRow q rows k n) 0 n))) := by rw [← hW5, padR_zero]; exact Bk.new _ _ _
      have HB5 : Hid (Below wo.heap.size wo W5) := by rw [← hW5]; exact (Below.refl _ _).alloc (Nat.le_refl _) _
      rw [hW5]
      obtain ⟨gr, hgr⟩ : ∃ g, wo.heap.size = g := ⟨_, rfl⟩
      rw [hgr] at HR5 HB5 hg5l ⊢
      have HGR := Lib.hid hgr
      clear hW5 hgr
      obtain ⟨adk, cdk, hkk⟩ := HRA.out k hlt
      have HKK := Lib.hid hkk
      clear hkk
      go_wp2
      go_loopw [6, 10] (fun s i wq => ∃ x : Nat, x ≤ n ∧ i = .int .i64 (x : Int) ∧ s = .int .i64 (Sk + sumTo (fun x => (rows.getD k []).getD x 0) x) ∧ Hid (Bk wq gr 3 (iArr (padR (trRow q rows k n) x n))) ∧ Hid (Below gr wo wq)) (fun _ i _ => n - (intOf i).toNat)
      case atStart => exact ⟨0, Nat.zero_le _, rfl, by simp [sumTo], HR5.out, HB5.out⟩
      case round =>
        clear HR5 HB5
        obtain ⟨x, hx, rfl, rfl, HR, HB⟩ := hrel
        have HBo : Hid (Below g5 w3 wr) := Lib.hid (HX.out.trans (HB.out.mono (by omega)))
        obtain ⟨sx, hsx⟩ : ∃ z, Sk + sumTo (fun x => (rows.getD k []).getD x 0) x = z := ⟨_, rfl⟩
        have hbd := allS_bd (x := x) HV.out HQ.out.2 (by have := HQ.out.1; omega : k < 2 * q + 1) (by have := HQ.out.1; omega)
        rw [HSk.out, hsx] at hbd
        rw [hsx]
        have HSX := Lib.hid hsx
        clear hsx
        by_cases hxl : x < n
        · have hxI : (x : Int) < (n : Int) := by omega
          have hi0c := (HW.out _ HBo.out).2.1
          have hq1 := HQ.out.1
          obtain ⟨u, hu⟩ : ∃ u : Nat, u + x = 2 * q := ⟨2 * q - x, by omega⟩
          have huN : u < n := by omega
          have huI : (u : Int) < (n : Int) := by omega
          obtain ⟨adu, cdu, hku⟩ := HRA.out u huN
          have ku := hku _ (HW.out _ HBo.out).1
          have ku1 := ku.1
          have ku2 := ku.2 k hlt
          have kk := HKK.out _ (HW.out _ HBo.out).1
          have kk1 := kk.1
          have kk2 := kk.2 x hxl
          have hbv := HV.out k (by omega) x (by omega)
          obtain ⟨vv, hvv⟩ : ∃ z, (rows.getD k []).getD x 0 = z := ⟨_, rfl⟩
          obtain ⟨tv, htv⟩ : ∃ z, (rows.getD u []).getD k 0 = z := ⟨_, rfl⟩
          have HTV : Hid ((trRow q rows k n).getD x 0 = tv) := by
            show _ = _
            rw [hq1, trRow_at q rows k (by omega), ← htv]
            congr 2
            congr 1
            omega
          rw [hvv] at kk2 hbv
          rw [htv] at ku2
          have ww1 : IntKind.i64.wrap ((x : Int) - (q : Int)) = (x : Int) - (q : Int) := IntWalk.i64_in _ (by omega)
          have ww2 : IntKind.i64.wrap ((k : Int) - (q : Int)) = (k : Int) - (q : Int) := IntWalk.i64_in _ (by omega)
          have ww3 : IntKind.i64.wrap ((q : Int) - ((x : Int) - (q : Int))) = (u : Int) := by rw [show (q : Int) - ((x : Int) - (q : Int)) = (u : Int) by omega]; exact IntWalk.i64_in _ (by omega)
          have ww4 : IntKind.i64.wrap ((q : Int) + ((k : Int) - (q : Int))) = (k : Int) := by rw [show (q : Int) + ((k : Int) - (q : Int)) = (k : Int) by omega]; exact IntWalk.i64_in _ (by omega)
          have ww5 : IntKind.i64.wrap (sx + vv) = sx + vv := IntWalk.i64_in _ (by omega)
          have hcC : wr.cell? ⟨gr, x, none⟩ = some (.int .i64 ((padR (trRow q rows k n) x n).getD x 0)) := by rw [HR.out.cell]; exact iArr_at _ _ (by rw [padR_length]; exact hxl)
          have hfC : wr.frozen? ⟨gr, x, none⟩ = false := HR.out.frozen x
          obtain ⟨oo, hoo⟩ : ∃ z, (padR (trRow q rows k n) x n).getD x 0 = z := ⟨_, rfl⟩
          rw [hoo] at hcC
          clear hoo hu hku
          go_upto_region 18 with (fail)
          obtain ⟨W6, hW6⟩ : ∃ W, wr.setCell ⟨gr, x, none⟩ (.int .i64 tv) = W := ⟨_, rfl⟩
          have HR6 : Hid (Bk W6 gr 3 (iArr (padR (trRow q rows k n) (x + 1) n))) := by
            have := HR.out.set_ x (.int .i64 tv)
            rw [iArr_set, ← HTV.out, padR_set, HTV.out, hW6] at this
            exact this
          have HB6 : Hid (Below gr wo W6) := by rw [← hW6]; exact HB.out.setCell (Nat.le_refl _) _
          rw [hW6]
          clear hW6 HR HB ku1 ku2 kk1 kk2 hcC hfC hi0c ku kk HBo
          have HBo : Hid (Below g5 w3 W6) := Lib.hid (HX.out.trans (HB6.out.mono (by omega)))
          have hi0c := (HW.out _ HBo.out).2.1
          have kk := HKK.out _ (HW.out _ HBo.out).1
          have kk1 := kk.1
          have kk2 := kk.2 x hxl
          rw [hvv] at kk2
          have HVV := Lib.hid hvv
          clear kk hvv htv hq1
          go_wp2
          go_roundw
          case rel =>
            refine ⟨x + 1, by omega, by go_num, ?_, HR6.out, HB6.out⟩
            rw [← HSX.out, ← HVV.out]
            simp only [sumTo, Int.add_assoc]
          case measure => simp [intOf]; omega
        · obtain rfl : n = x := by omega
          have hq1 := HQ.out.1
          have HROW : Hid (wr.ownsRow (g5 + 1) 3 1 (.slice (some ⟨gr, 0, none⟩) n n) ((trd q rows).getD k []).length (((trd q rows).getD k []).map (Value.int .i64))) := by
            refine Lib.hid ?_
            have h1 := HR.out
            rw [padR_all _ _ (trRow_length q rows k n)] at h1
            have h2 := own_of_bk (base := g5 + 1) n h1 (trRow_length q rows k n) (by omega) (by omega)
            rw [trd_at q rows (by omega), ← hq1, trRow_length]
            exact h2
          have hbo : Below wo.heap.size wo wr := by rw [HGR.out]; exact HB.out
          have HT2 : Hid (Bk wr g5 24 #[p]) := Lib.hid (HT.out.later hbo)
          obtain ⟨vs, hvs, hrs⟩ := HO.out
          have HO2 := Lib.hid (ownLater hvs hbo)
          have HRS : Hid (True ∧ ∀ j, j < k → ∃ v, vs[j]? = some v ∧ wr.ownsRow (g5 + 1) 3 1 v ((trd q rows).getD j []).length (((trd q rows).getD j []).map (Value.int .i64))) := ⟨trivial, fun j hj => by
            obtain ⟨v, h1, h2⟩ := hrs j hj
            exact ⟨v, h1, ownLater h2 hbo⟩⟩
          have HLB : Hid (g5 + 1 ≤ wr.heap.size) := Lib.hid (HT2.out.lt)
          have hlb := HLB.out
          have HSN : Hid (sx = allS q rows (k + 1)) := by
            refine Lib.hid ?_
            rw [← HSX.out, ← HSk.out, hq1]; rfl
          have t0 : wr.cell? ⟨g5, 0, none⟩ = some p := by rw [HT2.out.cell]; rfl
          clear hvs hrs hbo HR HT HO HSX hq1 hbd HKK HGR
          go_wp2_with (at_builtin; refine wpList_append_own _ rfl (.tmp 97) (.tmp 99) 22 rfl (g5 + 1) 28 i0 _ 1 24 Tryd.underlying22 hi0 hz0 hz1 hz2 rfl (by decide) _ _ _ rfl (HO2.out.alloc _) ⟨wr.heap.size, 0, none⟩ 1 1 [_] rfl rfl (cell_one_new _ _ _) (by simp [Value.oneCell']) (by unfold maxLen; omega) (by omega) (by simp; omega) ?_)
          intro v' w4 hown' hgrow _
          obtain ⟨g', cap', rfl⟩ := ownsRow_succ hown'
          have hT4 : Bk w4 g5 24 #[p] := (HT2.out.alloc _).grown hgrow (fun e => by have := (HO2.out.lt _ e.symm).1; omega)
          have HFIN : Hid (Bk (w4.setCell ⟨g5, 0, none⟩ (.slice (some ⟨g', 0, none⟩) (k + 1) cap')) g5 24 #[.slice (some ⟨g', 0, none⟩) (k + 1) cap'] ∧ OwnL (w4.setCell ⟨g5, 0, none⟩ (.slice (some ⟨g', 0, none⟩) (k + 1) cap')) (g5 + 1) (.slice (some ⟨g', 0, none⟩) (k + 1) cap') (k + 1) (trd q rows) ∧ Below g5 w3 (w4.setCell ⟨g5, 0, none⟩ (.slice (some ⟨g', 0, none⟩) (k + 1) cap'))) := by
            refine ⟨hT4.set_ 0 _, OwnL.far ⟨_, hown', fun j hj => ?_⟩ _ _ (Nat.lt_succ_self g5), (((HBo.out.alloc (by omega) _).grown hgrow (by simp; omega) (fun z e => by have := (HO2.out.lt z e).1; omega))).setCell (Nat.le_refl _) _⟩
            have hlen : vs.length = k := by have := HO2.out.1; simpa using this
            by_cases hjk : j < k
            · obtain ⟨v, h1, h2⟩ := HRS.out.2 j hjk
              exact ⟨v, by rw [List.getElem?_append_left (by omega)]; exact h1, (h2.alloc _).kept hgrow (own_apart h2 HO2.out)⟩
            · obtain rfl : j = k := by omega
              exact ⟨_, by rw [List.getElem?_append_right (by omega), hlen]; simp, (HROW.out.alloc _).kept hgrow (own_apart HROW.out HO2.out)⟩
          have t4 : w4.cell? ⟨g5, 0, none⟩ = some p := by rw [hT4.cell]; rfl
          have f4 : w4.frozen? ⟨g5, 0, none⟩ = false := hT4.frozen 0
          clear hown' hgrow hT4 HO2 HRS HROW HT2 t0
          go_wp2
          go_roundw
          case rel => exact ⟨k + 1, by omega, by go_num, by rw [HSN.out], ⟨_, HFIN.out.1, HFIN.out.2.1⟩, HFIN.out.2.2⟩
          case measure => simp [intOf]; omega
    · obtain rfl : n = k := by omega
      obtain ⟨p, hT, hO⟩ := HP.out
      obtain ⟨Ap, cp, rfl, hrt⟩ := hO.read (by rw [trd_length]; exact HQ.out.1.symm) HTL.out
      have HTT := Lib.hid hT
      have HRT := Lib.hid hrt
      have HG5 := Lib.hid hT.lt
      clear hT hO hrt HP
      go_upto_region 21 with (fail)
      obtain ⟨W7, hW7⟩ : ∃ W, wo.alloc (.cells #[.int .i64 (q : Int), .int .i64 (q : Int)] 30) = W := ⟨_, rfl⟩
      have HC7 : Hid (Bk W7 wo.heap.size 30 #[.int .i64 (q : Int), .int .i64 (q : Int)]) := by rw [← hW7]; exact Bk.new _ _ _
      have hb7 : Below wo.heap.size wo W7 := by rw [← hW7]; exact (Below.refl _ _).alloc (Nat.le_refl _) _
      have HT7 : Hid (Bk W7 g5 24 #[.slice Ap n cp]) := Lib.hid (HTT.out.later hb7)
      have HR7 : Hid (RdGN W7 Ap n (trd q rows)) := Lib.hid (HRT.out.below hb7)
      have HX7 : Hid (Below g5 w3 W7) := Lib.hid (HX.out.trans (hb7.mono (Nat.le_of_lt HG5.out)))
      rw [hW7]
      obtain ⟨gp, hgp⟩ : ∃ g, wo.heap.size = g := ⟨_, rfl⟩
      rw [hgp] at HC7 ⊢
      clear hW7 hb7 hgp HTT HRT HX HG5
      have HZ : Hid (∀ W, Below W7.heap.size W7 W → (W.cell? ⟨w.heap.size, 0, none⟩ = some (.slice (some ad) n c) ∧ W.cell? ⟨g5, 0, none⟩ = some (.slice Ap n cp) ∧ W.cell? ⟨gp, 0, none⟩ = some (.int .i64 (q : Int)) ∧ W.cell? ⟨gp, 1, none⟩ = some (.int .i64 (q : Int))) ∧ LaidSides W ∧ RdGN W (some ad) n rows ∧ RdGN W Ap n (trd q rows) ∧ Below w.heap.size w W) := fun W hb => by
        have h1 := HW.out W (HX7.out.trans (hb.mono (Nat.le_of_lt (Nat.lt_of_le_of_lt (Nat.le_refl _) HT7.out.lt))))
        exact ⟨⟨h1.2.1, by rw [(HT7.out.later hb).cell]; rfl, by rw [(HC7.out.later hb).cell]; rfl, by rw [(HC7.out.later hb).cell]; rfl⟩, h1.2.2.1, h1.2.2.2, HR7.out.below hb, h1.1⟩
      clear HC7 HT7 HR7 HX7
      go_wp2
      go_loopw [7, 14] (fun s i wr => ∃ r : Nat, r ≤ q ∧ i = .int .i64 ((r + 1 : Nat) : Int) ∧ s = .int .i64 (rngS q rows r) ∧ Hid (Below W7.heap.size W7 wr)) (fun _ i _ => q + 1 - (intOf i).toNat)
      case atStart => exact ⟨0, Nat.zero_le _, rfl, rfl, Below.refl _ _⟩
      case round =>
        obtain ⟨r, hr, rfl, rfl, HB⟩ := hrel
        obtain ⟨wx, hwx⟩ : ∃ W, W = wr := ⟨_, rfl⟩
        subst hwx
        obtain ⟨Sr, hSr⟩ : ∃ z, rngS q rows r = z := ⟨_, rfl⟩
        rw [hSr]
        have HSr := Lib.hid hSr
        clear hSr
        obtain ⟨R, hR⟩ : ∃ R, r + 1 = R := ⟨_, rfl⟩
        rw [hR]
        have hq1 := HQ.out.1
        have hq4 := HQ.out.2
        by_cases hlt : r < q
        · have hRI : (R : Int) ≤ (q : Int) := by omega
          have HR := Lib.hid hR
          obtain ⟨m8, hm8⟩ : ∃ m, 8 * R = m := ⟨_, rfl⟩
          have CR1 := Lib.hid (CRI.out R (by omega) rows (.inl rfl))
          have CR2 := Lib.hid (CRI.out R (by omega) (trd q rows) (.inr rfl))
          rw [hm8] at CR1 CR2
          have ww8 : IntKind.i64.wrap (8 * (R : Int)) = (m8 : Int) := by rw [show 8 * (R : Int) = (m8 : Int) by omega]; exact IntWalk.i64_in _ (by omega)
          have hnm : ((m8 : Int) != (m8 : Int)) = false := bne_self_eq_false' _
          have HM8 : Hid (8 * R = m8 ∧ r < q) := ⟨hm8, hlt⟩
          have h8b : m8 ≤ 32 ∧ 8 ≤ m8 ∧ R ≤ 4 ∧ 1 ≤ R := by omega
          have HSB : Hid (∀ W, Below wx.heap.size wx W → (fun w' : World => w'.cell? ⟨w.heap.size, 0, none⟩ = some (.slice (some ad) n c) ∧ w'.cell? ⟨g5, 0, none⟩ = some (.slice Ap n cp) ∧ w'.cell? ⟨gp, 0, none⟩ = some (.int .i64 (q : Int)) ∧ w'.cell? ⟨gp, 1, none⟩ = some (.int .i64 (q : Int))) W) := Lib.hid (fun W hb => (HZ.out W (HB.out.trans (hb.mono HB.out.size))).1)
          have HFX : Hid (∀ W, Below wx.heap.size wx W → LaidSides W ∧ RdGN W (some ad) n rows ∧ RdGN W Ap n (trd q rows)) := Lib.hid (fun W hb => by have h := (HZ.out W (HB.out.trans (hb.mono HB.out.size))).2; exact ⟨h.1, h.2.1, h.2.2.1⟩)
          clear hR hm8 hq1 hq4 hlt
          go_wp2_with fail
          refine wp_region_held_drew (S := (fun w' : World => w'.cell? ⟨w.heap.size, 0, none⟩ = some (.slice (some ad) n c) ∧ w'.cell? ⟨g5, 0, none⟩ = some (.slice Ap n cp) ∧ w'.cell? ⟨gp, 0, none⟩ = some (.int .i64 (q : Int)) ∧ w'.cell? ⟨gp, 1, none⟩ = some (.int .i64 (q : Int)))) (by kernel_rfl) ?_ ?_
          · exact HSB.out _ (Below.refl wx.heap.size wx).drew
          intro hHeld
          refine wpAnyH_take (i := 0) (v := ?_) rfl (by kernel_rfl) (by kernel_rfl) (by kernel_rfl) (fun _ _ _ h => h) (Or.inl ⟨by rfl, ?_⟩) (by assumption) ?_
          rotate_left
          · intro w hSw; (try dsimp only at hSw); go_simp; (try (with_reducible rfl))
          try simp only [List.getElem_toArray, List.getElem_cons_succ, List.getElem_cons_zero, Act.put, List.setIfInBounds_toArray, List.set_cons_zero, List.set_cons_succ]
          refine wpAnyH_take (i := 2) (v := ?_) rfl (by kernel_rfl) (by kernel_rfl) (by kernel_rfl) (fun _ _ _ h => h) (Or.inl ⟨by rfl, ?_⟩) (by assumption) ?_
          rotate_left
          · intro w hSw; (try dsimp only at hSw); go_simp; (try (with_reducible rfl))
          try simp only [List.getElem_toArray, List.getElem_cons_succ, List.getElem_cons_zero, Act.put, List.setIfInBounds_toArray, List.set_cons_zero, List.set_cons_succ]
          refine wpAnyH_take (i := 3) (v := ?_) rfl (by kernel_rfl) (by kernel_rfl) (by kernel_rfl) (fun _ _ _ h => h) (Or.inl ⟨by rfl, ?_⟩) (by assumption) ?_
          rotate_left
          · intro w hSw; (try dsimp only at hSw); go_simp; (try (with_reducible rfl))
          try simp only [List.getElem_toArray, List.getElem_cons_succ, List.getElem_cons_zero, Act.put, List.setIfInBounds_toArray, List.set_cons_zero, List.set_cons_succ]
          refine wpAnyH_ready (rs := [1]) (by kernel_rfl) (by simp) ?_
          refine (AllReadyH.cons rfl (fun K hK => ?_) AllReadyH.nil)
          go_simp
          go_at_call 11; refine ((CCP.out _) (HFX.out _ (Below.refl wx.heap.size wx).drew).2.1).mono ?_; rintro e wy ⟨⟨ALc, ALcc, rfl, hr1⟩, hb1⟩
          have hby : Below wx.heap.size wx wy := (Below.refl wx.heap.size wx).drew.trans (hb1.mono (Below.refl wx.heap.size wx).drew.size)
          have HRY := Lib.hid hr1
          have HBY := Lib.hid hby
          clear hr1 hb1 hby
          go_wp2_with fail
          refine hK.out _ _ ?_ (fun hHeld => ?_)
          · clear hK K; exact HSB.out _ HBY.out
          clear hK K
          try simp only [List.getElem_toArray, List.getElem_cons_succ, List.getElem_cons_zero, Act.put, List.setIfInBounds_toArray, List.set_cons_zero, List.set_cons_succ]
          refine wpAnyH_ready (rs := [4]) (by kernel_rfl) (by simp) ?_
          refine (AllReadyH.cons rfl (fun K hK => ?_) AllReadyH.nil)
          go_simp
          go_at_call 10; refine (CR1.out _ _ _ (HFX.out _ HBY.out).1 HRY.out).mono ?_; rintro e wz ⟨⟨AL, ALk, rfl, hrr⟩, hb2⟩
          have hbz : Below wx.heap.size wx wz := HBY.out.trans (hb2.mono HBY.out.size)
          have HRR1b := Lib.hid hbz
          have HRR1 := Lib.hid hrr
          clear hrr hb2 hbz
          go_wp2_with fail
          refine hK.out _ _ ?_ (fun hHeld => ?_)
          · clear hK K; exact HSB.out _ HRR1b.out
          clear hK K
          try simp only [List.getElem_toArray, List.getElem_cons_succ, List.getElem_cons_zero, Act.put, List.setIfInBounds_toArray, List.set_cons_zero, List.set_cons_succ]
          refine wpAnyH_take (i := 5) (v := ?_) rfl (by kernel_rfl) (by kernel_rfl) (by kernel_rfl) (fun _ _ _ h => h) (Or.inl ⟨by rfl, ?_⟩) (by assumption) ?_
          rotate_left
          · intro w hSw; (try dsimp only at hSw); go_simp; (try (with_reducible rfl))
          try simp only [List.getElem_toArray, List.getElem_cons_succ, List.getElem_cons_zero, Act.put, List.setIfInBounds_toArray, List.set_cons_zero, List.set_cons_succ]
          refine wpAnyH_take (i := 6) (v := ?_) rfl (by kernel_rfl) (by kernel_rfl) (by kernel_rfl) (fun _ _ _ h => h) (Or.inl ⟨by rfl, ?_⟩) (by assumption) ?_
          rotate_left
          · intro w hSw; (try dsimp only at hSw); go_simp; (try (with_reducible rfl))
          try simp only [List.getElem_toArray, List.getElem_cons_succ, List.getElem_cons_zero, Act.put, List.setIfInBounds_toArray, List.set_cons_zero, List.set_cons_succ]
          refine wpAnyH_take (i := 7) (v := ?_) rfl (by kernel_rfl) (by kernel_rfl) (by kernel_rfl) (fun _ _ _ h => h) (Or.inl ⟨by rfl, ?_⟩) (by assumption) ?_
          rotate_left
          · intro w hSw; (try dsimp only at hSw); go_simp; (try (with_reducible rfl))
          try simp only [List.getElem_toArray, List.getElem_cons_succ, List.getElem_cons_zero, Act.put, List.setIfInBounds_toArray, List.set_cons_zero, List.set_cons_succ]
          refine wpAnyH_take (i := 8) (v := ?_) rfl (by kernel_rfl) (by kernel_rfl) (by kernel_rfl) (fun _ _ _ h => h) (Or.inl ⟨by rfl, ?_⟩) (by assumption) ?_
          rotate_left
          · intro w hSw; (try dsimp only at hSw); go_simp; (try (with_reducible rfl))
          try simp only [List.getElem_toArray, List.getElem_cons_succ, List.getElem_cons_zero, Act.put, List.setIfInBounds_toArray, List.set_cons_zero, List.set_cons_succ]
          refine wpAnyH_take (i := 9) (v := ?_) rfl (by kernel_rfl) (by kernel_rfl) (by kernel_rfl) (fun _ _ _ h => h) (Or.inl ⟨by rfl, ?_⟩) (by assumption) ?_
          rotate_left
          · intro w hSw; (try dsimp only at hSw); go_simp; (try (with_reducible rfl))
          try simp only [List.getElem_toArray, List.getElem_cons_succ, List.getElem_cons_zero, Act.put, List.setIfInBounds_toArray, List.set_cons_zero, List.set_cons_succ]
          refine wpAnyH_done (by kernel_rfl) ?_ _
          obtain ⟨wu, hwu⟩ : ∃ W, W = wz := ⟨_, rfl⟩
          subst hwu
          clear hHeld HRY
          clear HBY
          go_wp2_with fail
          refine wp_region_held_drew (S := (fun w' : World => w'.cell? ⟨w.heap.size, 0, none⟩ = some (.slice (some ad) n c) ∧ w'.cell? ⟨g5, 0, none⟩ = some (.slice Ap n cp) ∧ w'.cell? ⟨gp, 0, none⟩ = some (.int .i64 (q : Int)) ∧ w'.cell? ⟨gp, 1, none⟩ = some (.int .i64 (q : Int)))) (by kernel_rfl) ?_ ?_
          · exact HSB.out _ (HRR1b.out).drew
          intro hHeld
          refine wpAnyH_take (i := 0) (v := ?_) rfl (by kernel_rfl) (by kernel_rfl) (by kernel_rfl) (fun _ _ _ h => h) (Or.inl ⟨by rfl, ?_⟩) (by assumption) ?_
          rotate_left
          · intro w hSw; (try dsimp only at hSw); go_simp; (try (with_reducible rfl))
          try simp only [List.getElem_toArray, List.getElem_cons_succ, List.getElem_cons_zero, Act.put, List.setIfInBounds_toArray, List.set_cons_zero, List.set_cons_succ]
          refine wpAnyH_take (i := 2) (v := ?_) rfl (by kernel_rfl) (by kernel_rfl) (by kernel_rfl) (fun _ _ _ h => h) (Or.inl ⟨by rfl, ?_⟩) (by assumption) ?_
          rotate_left
          · intro w hSw; (try dsimp only at hSw); go_simp; (try (with_reducible rfl))
          try simp only [List.getElem_toArray, List.getElem_cons_succ, List.getElem_cons_zero, Act.put, List.setIfInBounds_toArray, List.set_cons_zero, List.set_cons_succ]
          refine wpAnyH_take (i := 3) (v := ?_) rfl (by kernel_rfl) (by kernel_rfl) (by kernel_rfl) (fun _ _ _ h => h) (Or.inl ⟨by rfl, ?_⟩) (by assumption) ?_
          rotate_left
          · intro w hSw; (try dsimp only at hSw); go_simp; (try (with_reducible rfl))
          try simp only [List.getElem_toArray, List.getElem_cons_succ, List.getElem_cons_zero, Act.put, List.setIfInBounds_toArray, List.set_cons_zero, List.set_cons_succ]
          refine wpAnyH_ready (rs := [1]) (by kernel_rfl) (by simp) ?_
          refine (AllReadyH.cons rfl (fun K hK => ?_) AllReadyH.nil)
          go_simp
          go_at_call 11; refine ((CCT.out _ _ _) (HFX.out _ (HRR1b.out).drew).2.2).mono ?_; rintro e wy ⟨⟨ATc, ATcc, rfl, hr1⟩, hb1⟩
          have hby : Below wx.heap.size wx wy := (HRR1b.out).drew.trans (hb1.mono (HRR1b.out).drew.size)
          have HRY := Lib.hid hr1
          have HBY := Lib.hid hby
          have HL2 := Lib.hid (HRR1.out.below ((Below.refl wu.heap.size wu).drew.trans (hb1.mono (Below.refl wu.heap.size wu).drew.size)))
          clear hr1 hb1 hby
          go_wp2_with fail
          refine hK.out _ _ ?_ (fun hHeld => ?_)
          · clear hK K; exact HSB.out _ HBY.out
          clear hK K
          try simp only [List.getElem_toArray, List.getElem_cons_succ, List.getElem_cons_zero, Act.put, List.setIfInBounds_toArray, List.set_cons_zero, List.set_cons_succ]
          refine wpAnyH_ready (rs := [4]) (by kernel_rfl) (by simp) ?_
          refine (AllReadyH.cons rfl (fun K hK => ?_) AllReadyH.nil)
          go_simp
          go_at_call 10; refine (CR2.out _ _ _ (HFX.out _ HBY.out).1 HRY.out).mono ?_; rintro e wz ⟨⟨AT, ATk, rfl, hrr⟩, hb2⟩
          have hbz : Below wx.heap.size wx wz := HBY.out.trans (hb2.mono HBY.out.size)
          have HRR2b := Lib.hid hbz
          have HRR2 := Lib.hid hrr
          have HL3 := Lib.hid (HL2.out.below hb2)
          clear hrr hb2 hbz
          go_wp2_with fail
          refine hK.out _ _ ?_ (fun hHeld => ?_)
          · clear hK K; exact HSB.out _ HRR2b.out
          clear hK K
          try simp only [List.getElem_toArray, List.getElem_cons_succ, List.getElem_cons_zero, Act.put, List.setIfInBounds_toArray, List.set_cons_zero, List.set_cons_succ]
          refine wpAnyH_take (i := 5) (v := ?_) rfl (by kernel_rfl) (by kernel_rfl) (by kernel_rfl) (fun _ _ _ h => h) (Or.inl ⟨by rfl, ?_⟩) (by assumption) ?_
          rotate_left
          · intro w hSw; (try dsimp only at hSw); go_simp; (try (with_reducible rfl))
          try simp only [List.getElem_toArray, List.getElem_cons_succ, List.getElem_cons_zero, Act.put, List.setIfInBounds_toArray, List.set_cons_zero, List.set_cons_succ]
          refine wpAnyH_take (i := 6) (v := ?_) rfl (by kernel_rfl) (by kernel_rfl) (by kernel_rfl) (fun _ _ _ h => h) (Or.inl ⟨by rfl, ?_⟩) (by assumption) ?_
          rotate_left
          · intro w hSw; (try dsimp only at hSw); go_simp; (try (with_reducible rfl))
          try simp only [List.getElem_toArray, List.getElem_cons_succ, List.getElem_cons_zero, Act.put, List.setIfInBounds_toArray, List.set_cons_zero, List.set_cons_succ]
          refine wpAnyH_take (i := 7) (v := ?_) rfl (by kernel_rfl) (by kernel_rfl) (by kernel_rfl) (fun _ _ _ h => h) (Or.inl ⟨by rfl, ?_⟩) (by assumption) ?_
          rotate_left
          · intro w hSw; (try dsimp only at hSw); go_simp; (try (with_reducible rfl))
          try simp only [List.getElem_toArray, List.getElem_cons_succ, List.getElem_cons_zero, Act.put, List.setIfInBounds_toArray, List.set_cons_zero, List.set_cons_succ]
          refine wpAnyH_take (i := 8) (v := ?_) rfl (by kernel_rfl) (by kernel_rfl) (by kernel_rfl) (fun _ _ _ h => h) (Or.inl ⟨by rfl, ?_⟩) (by assumption) ?_
          rotate_left
          · intro w hSw; (try dsimp only at hSw); go_simp; (try (with_reducible rfl))
          try simp only [List.getElem_toArray, List.getElem_cons_succ, List.getElem_cons_zero, Act.put, List.setIfInBounds_toArray, List.set_cons_zero, List.set_cons_succ]
          refine wpAnyH_take (i := 9) (v := ?_) rfl (by kernel_rfl) (by kernel_rfl) (by kernel_rfl) (fun _ _ _ h => h) (Or.inl ⟨by rfl, ?_⟩) (by assumption) ?_
          rotate_left
          · intro w hSw; (try dsimp only at hSw); go_simp; (try (with_reducible rfl))
          try simp only [List.getElem_toArray, List.getElem_cons_succ, List.getElem_cons_zero, Act.put, List.setIfInBounds_toArray, List.set_cons_zero, List.set_cons_succ]
          refine wpAnyH_done (by kernel_rfl) ?_ _
          obtain ⟨ws, hws⟩ : ∃ W, W = wz := ⟨_, rfl⟩
          subst hws
          clear hHeld HRY
          obtain ⟨adl, e1, hlb, hcl⟩ := HL3.out.2 (by omega)
          obtain ⟨adt, e2, htb, hct⟩ := HRR2.out.2 (by omega)
          subst e1 e2
          have HCL : Hid (adl.block < ws.heap.size ∧ ∀ j, j < m8 → ws.cell? (adl.add j) = some (.int .i64 (((ringTo (q : Int) q R 5).map (pix rows)).getD j 0))) := ⟨hlb, hcl⟩
          have HCT : Hid (adt.block < ws.heap.size ∧ ∀ j, j < m8 → ws.cell? (adt.add j) = some (.int .i64 (((ringTo (q : Int) q R 5).map (pix (trd q rows))).getD j 0))) := ⟨htb, hct⟩
          clear hlb hcl htb hct HL3 HRR2 CR1 CR2 HSB HFX
          go_wp2
          go_loopw [7, 19] (fun s i wq => ∃ x : Nat, x ≤ m8 ∧ i = .int .i64 (x : Int) ∧ s = .int .i64 (Sr + sumTo (fun i => ((ringTo (q : Int) q R 5).map (pix rows)).getD i 0) x) ∧ Hid (Below ws.heap.size ws wq)) (fun _ i _ => m8 - (intOf i).toNat)
          case atStart => exact ⟨0, Nat.zero_le _, rfl, by simp [sumTo], Below.refl _ _⟩
          case round =>
            obtain ⟨x, hx, rfl, rfl, HQB⟩ := hrel
            obtain ⟨sx, hsx⟩ : ∃ z, Sr + sumTo (fun i => ((ringTo (q : Int) q R 5).map (pix rows)).getD i 0) x = z := ⟨_, rfl⟩
            have hbd := rngS_bd (x := x) HV.out HQ.out.2 HM8.out.2 (by have := HM8.out.1; have := HR.out; omega)
            rw [HSr.out, HR.out, hsx] at hbd
            rw [hsx]
            have HSX := Lib.hid hsx
            clear hsx
            by_cases hxl : x < m8
            · have hxI : (x : Int) < (m8 : Int) := by omega
              obtain ⟨m2, hm2⟩ : ∃ m, 2 * R = m := ⟨_, rfl⟩
              obtain ⟨i2, hi2⟩ : ∃ i, x + m2 = i := ⟨_, rfl⟩
              obtain ⟨j, hj⟩ : ∃ j, i2 % m8 = j := ⟨_, rfl⟩
              have hjm : j < m8 := by rw [← hj]; exact Nat.mod_lt _ (by omega)
              have hjI : (j : Int) < (m8 : Int) := by omega
              have ww2 : IntKind.i64.wrap (2 * (R : Int)) = (m2 : Int) := by rw [show 2 * (R : Int) = (m2 : Int) by omega]; exact IntWalk.i64_in _ (by omega)
              have ww3 : IntKind.i64.wrap ((x : Int) + (m2 : Int)) = (i2 : Int) := by rw [show (x : Int) + (m2 : Int) = (i2 : Int) by omega]; exact IntWalk.i64_in _ (by omega)
              have ww4 : (i2 : Int).tmod (m8 : Int) = (j : Int) := by rw [Int.tmod_eq_emod_of_nonneg (Int.natCast_nonneg i2), ← hj]; exact (Int.natCast_emod i2 m8).symm
              have h80 : (m8 : Int) ≠ 0 := by omega
              have h80N : ¬ m8 = 0 := by omega
              have hsame := ring_same rows q R (by omega) (by have := HM8.out.2; have := HR.out; omega) (by have := HQ.out.2; omega) (i := x) (by have := HM8.out.1; omega)
              rw [HM8.out.1, hm2, hi2, hj] at hsame
              have hbv := ring_vals (r := R) (by have := HM8.out.2; have := HR.out; omega) HQ.out.2 HV.out x (by have := HM8.out.1; omega)
              obtain ⟨v, hv⟩ : ∃ z, ((ringTo (q : Int) q R 5).map (pix rows)).getD x 0 = z := ⟨_, rfl⟩
              rw [hv] at hsame hbv
              have kl := (HQB.out.cell (p := adl.add x) (by rw [addBlock]; exact HCL.out.1)).trans (HCL.out.2 x hxl)
              have kt := (HQB.out.cell (p := adt.add j) (by rw [addBlock]; exact HCT.out.1)).trans (HCT.out.2 j hjm)
              rw [hv] at kl
              rw [hsame] at kt
              have HVV := Lib.hid hv
              have hvne : ((v : Int) != v) = false := bne_self_eq_false' _
              have wwv : IntKind.i64.wrap (sx + v) = sx + v := IntWalk.i64_in _ (by omega)
              clear hsame hv hj hi2 hm2
              go_wp2_with fail
              refine wp_region_held_drew (S := (fun w' : World => w'.cell? (adt.add j) = some (.int .i64 v) ∧ w'.cell? (adl.add x) = some (.int .i64 v))) (by kernel_rfl) ?_ ?_
              · exact ⟨kt, kl⟩
              intro hHeld
              refine wpAnyH_take (i := 0) (v := ?_) rfl (by kernel_rfl) (by kernel_rfl) (by kernel_rfl) (fun _ _ _ h => h) (Or.inl ⟨by rfl, ?_⟩) (by assumption) ?_
              rotate_left
              · intro w hSw; (try dsimp only at hSw); go_simp; (try (with_reducible rfl))
              try simp only [List.getElem_toArray, List.getElem_cons_succ, List.getElem_cons_zero, Act.put, List.setIfInBounds_toArray, List.set_cons_zero, List.set_cons_succ]
              refine wpAnyH_take (i := 1) (v := ?_) rfl (by kernel_rfl) (by kernel_rfl) (by kernel_rfl) (fun _ _ _ h => h) (Or.inl ⟨by rfl, ?_⟩) (by assumption) ?_
              rotate_left
              · intro w hSw; (try dsimp only at hSw); go_simp; (try (with_reducible rfl))
              try simp only [List.getElem_toArray, List.getElem_cons_succ, List.getElem_cons_zero, Act.put, List.setIfInBounds_toArray, List.set_cons_zero, List.set_cons_succ]
              refine wpAnyH_take (i := 2) (v := ?_) rfl (by kernel_rfl) (by kernel_rfl) (by kernel_rfl) (fun _ _ _ h => h) (Or.inl ⟨by rfl, ?_⟩) (by assumption) ?_
              rotate_left
              · intro w hSw; (try dsimp only at hSw); go_simp; (try (with_reducible rfl))
              try simp only [List.getElem_toArray, List.getElem_cons_succ, List.getElem_cons_zero, Act.put, List.setIfInBounds_toArray, List.set_cons_zero, List.set_cons_succ]
              refine wpAnyH_take (i := 3) (v := ?_) rfl (by kernel_rfl) (by kernel_rfl) (by kernel_rfl) (fun _ _ _ h => h) (Or.inl ⟨by rfl, ?_⟩) (by assumption) ?_
              rotate_left
              · intro w hSw; (try dsimp only at hSw); go_simp; (try (with_reducible rfl))
              try simp only [List.getElem_toArray, List.getElem_cons_succ, List.getElem_cons_zero, Act.put, List.setIfInBounds_toArray, List.set_cons_zero, List.set_cons_succ]
              refine wpAnyH_take (i := 4) (v := ?_) rfl (by kernel_rfl) (by kernel_rfl) (by kernel_rfl) (fun _ _ _ h => h) (Or.inl ⟨by rfl, ?_⟩) (by assumption) ?_
              rotate_left
              · intro w hSw; (try dsimp only at hSw); go_simp; (try (with_reducible rfl))
              try simp only [List.getElem_toArray, List.getElem_cons_succ, List.getElem_cons_zero, Act.put, List.setIfInBounds_toArray, List.set_cons_zero, List.set_cons_succ]
              refine wpAnyH_take (i := 5) (v := ?_) rfl (by kernel_rfl) (by kernel_rfl) (by kernel_rfl) (fun _ _ _ h => h) (Or.inl ⟨by rfl, ?_⟩) (by assumption) ?_
              rotate_left
              · intro w hSw; (try dsimp only at hSw); go_simp; (try (with_reducible rfl))
              try simp only [List.getElem_toArray, List.getElem_cons_succ, List.getElem_cons_zero, Act.put, List.setIfInBounds_toArray, List.set_cons_zero, List.set_cons_succ]
              refine wpAnyH_take (i := 6) (v := ?_) rfl (by kernel_rfl) (by kernel_rfl) (by kernel_rfl) (fun _ _ _ h => h) (Or.inl ⟨by rfl, ?_⟩) (by assumption) ?_
              rotate_left
              · intro w hSw; (try dsimp only at hSw); go_simp; (try (with_reducible rfl))
              try simp only [List.getElem_toArray, List.getElem_cons_succ, List.getElem_cons_zero, Act.put, List.setIfInBounds_toArray, List.set_cons_zero, List.set_cons_succ]
              refine wpAnyH_take (i := 7) (v := ?_) rfl (by kernel_rfl) (by kernel_rfl) (by kernel_rfl) (fun _ _ _ h => h) (Or.inl ⟨by rfl, ?_⟩) (by assumption) ?_
              rotate_left
              · intro w hSw; (try dsimp only at hSw); go_simp; (try (with_reducible rfl))
              try simp only [List.getElem_toArray, List.getElem_cons_succ, List.getElem_cons_zero, Act.put, List.setIfInBounds_toArray, List.set_cons_zero, List.set_cons_succ]
              refine wpAnyH_take (i := 8) (v := ?_) rfl (by kernel_rfl) (by kernel_rfl) (by kernel_rfl) (fun _ _ _ h => h) (Or.inl ⟨by rfl, ?_⟩) (by assumption) ?_
              rotate_left
              · intro w hSw; (try dsimp only at hSw); go_simp; (try (with_reducible rfl))
              try simp only [List.getElem_toArray, List.getElem_cons_succ, List.getElem_cons_zero, Act.put, List.setIfInBounds_toArray, List.set_cons_zero, List.set_cons_succ]
              refine wpAnyH_take (i := 9) (v := ?_) rfl (by kernel_rfl) (by kernel_rfl) (by kernel_rfl) (fun _ _ _ h => h) (Or.inl ⟨by rfl, ?_⟩) (by assumption) ?_
              rotate_left
              · intro w hSw; (try dsimp only at hSw); go_simp; (try (with_reducible rfl))
              try simp only [List.getElem_toArray, List.getElem_cons_succ, List.getElem_cons_zero, Act.put, List.setIfInBounds_toArray, List.set_cons_zero, List.set_cons_succ]
              refine wpAnyH_take (i := 10) (v := ?_) rfl (by kernel_rfl) (by kernel_rfl) (by kernel_rfl) (fun _ _ _ h => h) (Or.inl ⟨by rfl, ?_⟩) (by assumption) ?_
              rotate_left
              · intro w hSw; (try dsimp only at hSw); go_simp; (try (with_reducible rfl))
              try simp only [List.getElem_toArray, List.getElem_cons_succ, List.getElem_cons_zero, Act.put, List.setIfInBounds_toArray, List.set_cons_zero, List.set_cons_succ]
              refine wpAnyH_take (i := 11) (v := ?_) rfl (by kernel_rfl) (by kernel_rfl) (by kernel_rfl) (fun _ _ _ h => h) (Or.inl ⟨by rfl, ?_⟩) (by assumption) ?_
              rotate_left
              · intro w hSw; (try dsimp only at hSw); go_simp; (try (with_reducible rfl))
              try simp only [List.getElem_toArray, List.getElem_cons_succ, List.getElem_cons_zero, Act.put, List.setIfInBounds_toArray, List.set_cons_zero, List.set_cons_succ]
              refine wpAnyH_take (i := 12) (v := ?_) rfl (by kernel_rfl) (by kernel_rfl) (by kernel_rfl) (fun _ _ _ h => h) (Or.inl ⟨by rfl, ?_⟩) (by assumption) ?_
              rotate_left
              · intro w hSw; (try dsimp only at hSw); go_simp; (try (with_reducible rfl))
              try simp only [List.getElem_toArray, List.getElem_cons_succ, List.getElem_cons_zero, Act.put, List.setIfInBounds_toArray, List.set_cons_zero, List.set_cons_succ]
              refine wpAnyH_take (i := 13) (v := ?_) rfl (by kernel_rfl) (by kernel_rfl) (by kernel_rfl) (fun _ _ _ h => h) (Or.inl ⟨by rfl, ?_⟩) (by assumption) ?_
              rotate_left
              · intro w hSw; (try dsimp only at hSw); go_simp; (try (with_reducible rfl))
              try simp only [List.getElem_toArray, List.getElem_cons_succ, List.getElem_cons_zero, Act.put, List.setIfInBounds_toArray, List.set_cons_zero, List.set_cons_succ]
              refine wpAnyH_take (i := 14) (v := ?_) rfl (by kernel_rfl) (by kernel_rfl) (by kernel_rfl) (fun _ _ _ h => h) (Or.inl ⟨by rfl, ?_⟩) (by assumption) ?_
              rotate_left
              · intro w hSw; (try dsimp only at hSw); go_simp; (try (with_reducible rfl))
              try simp only [List.getElem_toArray, List.getElem_cons_succ, List.getElem_cons_zero, Act.put, List.setIfInBounds_toArray, List.set_cons_zero, List.set_cons_succ]
              refine wpAnyH_done (by kernel_rfl) ?_ _
              obtain ⟨wd, hwd⟩ : ∃ W, wr.drew = W := ⟨_, rfl⟩
              have HQD : Hid (Below ws.heap.size ws wd) := Lib.hid (by rw [← hwd]; exact HQB.out.drew)
              have kl' : wd.cell? (adl.add x) = some (.int .i64 v) := by rw [← hwd]; exact kl
              rw [hwd]
              clear hwd kl kt hHeld HQB
              go_wp2
              go_roundw
              case rel => exact ⟨x + 1, by omega, by go_num, by rw [← HSX.out, ← HVV.out]; simp only [sumTo, Int.add_assoc], HQD.out⟩
              case measure => simp [intOf]; omega
            · obtain rfl : m8 = x := by omega
              have hr1 := HR.out
              have hlt1 := HM8.out.2
              go_wp2
              go_roundw
              case rel => exact ⟨r + 1, by omega, by rw [hr1]; go_num, by rw [← HSX.out, ← HSr.out, ← hr1, ← HM8.out.1, ← hr1]; rfl, HB.out.trans ((HRR2b.out.trans (HQB.out.mono HRR2b.out.size)).mono HB.out.size)⟩
              case measure => simp [intOf]; omega
        · obtain rfl : q = r := by omega
          have hRI : ¬ (R : Int) ≤ (q : Int) := by omega
          have hz := HZ.out _ HB.out
          have hi0c := hz.1.1
          obtain ⟨adq, cdq, hkq⟩ := HRA.out q (by omega)
          have kq := hkq _ hz.2.2.2.2
          have kq1 := kq.1
          have kq2 := kq.2 q (by omega)
          have hbq := HV.out q (by omega) q (by omega)
          have hbs := allS_bd (k := 2 * q) (x := 2 * q + 1) HV.out HQ.out.2 (by omega) (by omega)
          have hall := rng_all q (by omega) rows
          rw [HSr.out, ← hq1, HSk.out] at hall
          have hsk : 0 ≤ Sk ∧ Sk ≤ 50000 := by rw [← HSk.out, hq1]; exact hbs
          obtain ⟨vq, hvq⟩ : ∃ z, (rows.getD q []).getD q 0 = z := ⟨_, rfl⟩
          rw [hvq] at hall hbq kq2
          have wwq : IntKind.i64.wrap (Sk - vq) = Sr := by rw [← hall]; exact IntWalk.i64_in _ (by omega)
          have hse : ((Sr : Int) == Sr) = true := by simp
          have hqN : q < n := by omega
          have hqI : (q : Int) < (n : Int) := by omega
          have HLOW := Lib.hid hz.2.2.2.2
          clear hz kq hkq hall hvq hbs
          go_wp2
          go_ret
          exact ⟨rfl, HLOW.out⟩

end Go.Proofs.YtpkjkegcdddimaaDoor

namespace Go.Proofs.YtpkjkegcdddimaaDoor
open Go.RowKit

theorem turned_walk (A : Option Addr) (n c : Nat) (rows : List (List Int)) (w : World) (hl : LaidSides w) (hr : RdGo w A n rows) :
    Calls Tryd.prog 3 #[.agg #[.slice A n c]] w fun e w' => e = .returned (.bool true) ∧ Below w.heap.size w w' := by
  cases hgb : gridB 24 24 rows with
  | false => exact turned_wide A n c rows w hl hr hgb
  | true =>
    obtain ⟨h1, h2⟩ := gridB_partsZ hgb
    rw [hr.1] at h1 h2
    have hm203 : ∀ j, j < n → (rows.getD j []).length ≤ 203 := fun j hj => by have := h2 j hj; omega
    by_cases hE : gridE 24 24 rows = 0
    · obtain ⟨m, g1, g2, g3, g4, g5, g6⟩ := grid_ok hE
      rw [hr.1] at g1 g3
      have hrow : ∀ j, j < n → (rows.getD j []) ∈ rows := fun j hj => by
        rw [List.getD_eq_getElem?_getD, List.getElem?_eq_getElem (by rw [hr.1]; exact hj)]
        exact List.getElem_mem _
      rcases Nat.mod_two_eq_zero_or_one n with hp | hp
      · exact turned_even A n c rows w hl hr hgb h1 hm203 hE (n / 2) (by omega)
      · by_cases h9 : 9 < n
        · exact turned_large A n c rows w hl hr hgb h1 hm203 hE (n / 2) (by omega) h9
        · by_cases hmn : m = n
          · obtain ⟨ad, rfl, _⟩ := hr.2 g1
            have hn2 : n = 2 * (n / 2) + 1 := by omega
            refine turned_main ad n c rows w hl hr hgb h1 hm203 hE (n / 2) hn2 (by omega) (fun j hj => by rw [(g6 _ (hrow j hj)).1, hmn]) (fun j hj i hi => ?_)
            have hj : j < n := by omega
            have hi : i < n := by omega
            have hin : (rows.getD j []).getD i 0 ∈ rows.getD j [] := by
              rw [List.getD_eq_getElem?_getD (l := rows.getD j []), List.getElem?_eq_getElem (by rw [(g6 _ (hrow j hj)).1, hmn]; exact hi)]
              exact List.getElem_mem _
            exact fromB_allZ (g6 _ (hrow j hj)).2 _ hin
          · exact turned_shape A n c rows w hl hr hgb h1 hm203 hE (n / 2) m (by omega) (by omega) g5 hmn
    · exact turned_err A n c rows w hl hr hgb h1 hm203 _ rfl hE

end Go.Proofs.YtpkjkegcdddimaaDoor

