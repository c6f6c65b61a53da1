import Derived.Test.YtnmfeonagigkeaaDoorG2
import Derived.Test.YtnmfeonagigkeaaDoorG3
import Derived.Test.YtnmfeonagigkeaaDoorS0
import Derived.Test.YtnmfeonagigkeaaDoorA2
namespace Go.Proofs.YtnmfeonagigkeaaDoor
open Go.RowKit

theorem rngInfo : (Tryd.prog.info? 28).map (fun i => (i.zero, i.size, i.bytes)) = some (some (.agg #[.int .i64 0, .int .i64 0]), 2, 16) := by kernel_rfl
/-- The gap m holds the position j. -/
def inG (gs : List (Int × Int)) (m j : Nat) : Prop := (gs.getD m (0, 0)).1 ≤ j ∧ (j : Int) ≤ (gs.getD m (0, 0)).2
def GapAt (gs : List (Int × Int)) (j t : Nat) (z : Int) : Prop := (z = -1 ∧ ∀ m, m < t → ¬ inG gs m j) ∨ ∃ m : Nat, m < t ∧ z = m ∧ inG gs m j
theorem GapAt.zero (gs : List (Int × Int)) (j : Nat) : GapAt gs j 0 (-1) := Or.inl ⟨rfl, fun m h => absurd h (by omega)⟩
theorem GapAt.no {gs : List (Int × Int)} {j t : Nat} {z : Int} (h : GapAt gs j t z) (hn : ¬ inG gs t j) : GapAt gs j (t + 1) z := by
  rcases h with ⟨h1, h2⟩ | ⟨m, h1, h2, h3⟩
  · refine Or.inl ⟨h1, fun m hm => ?_⟩
    rcases (by omega : m < t ∨ m = t) with h | rfl
    · exact h2 m h
    · exact hn
  · exact Or.inr ⟨m, by omega, h2, h3⟩
theorem GapAt.yes {gs : List (Int × Int)} {j t : Nat} (hn : inG gs t j) : GapAt gs j (t + 1) (t : Int) := Or.inr ⟨t, by omega, rfl, hn⟩
theorem within_mm {y a b : Int} (h : min a b ≤ y ∧ y ≤ max a b) : fromB (if b < a then b else a) (if a < b then b else a) [y] = true := by
  rw [show (if b < a then b else a) = min a b by split <;> omega, show (if a < b then b else a) = max a b by split <;> omega]
  unfold fromB
  simp only [List.all_cons, List.all_nil, Bool.and_true]
  rw [decide_eq_true h.1, decide_eq_true h.2]
  rfl
/-- A copy of ranges: own, or nothing. -/
theorem rng_src {w : World} {ad : Addr} {n : Nat} {ps : List (Int × Int)} (hr : RdP w (some ad) n ps) (o : Obj) : ∀ j u, (pairCells ps)[j]? = some u → (w.alloc o).cell? (ad.add j) = some u := by
  intro j u hu
  have hj : j < (pairCells ps).length := (List.getElem?_eq_some_iff.1 hu).1
  rw [pairCells_length, hr.1] at hj
  have hl := hr.1
  obtain ⟨ad', ha, hlt, hc⟩ := hr.2 (by omega)
  obtain rfl := Option.some.inj ha
  rw [World.cell?_alloc_lt w _ _ (by rw [addBlock]; exact hlt)]
  obtain ⟨h1, h2⟩ := hc (j / 2) (by omega)
  obtain ⟨p1, p2⟩ := pairCells_at ps (j / 2) (by omega)
  rcases (by omega : j = j / 2 * 2 ∨ j = j / 2 * 2 + 1) with e | e
  · obtain ⟨q, hq⟩ : ∃ q, j / 2 = q := ⟨_, rfl⟩
    rw [hq] at h1 h2 p1 p2 e
    subst e
    rw [p1] at hu
    rw [h1]; exact hu
  · obtain ⟨q, hq⟩ : ∃ q, j / 2 = q := ⟨_, rfl⟩
    rw [hq] at h1 h2 p1 p2 e
    subst e
    rw [p2] at hu
    rw [Deep.add_add] at h2
    rw [h2]; exact hu
theorem refBridged_nil (A : Option Addr) (c : Nat) (B : Option Addr) (cB : Nat) (w : World) (hA : A = none → (0 : Nat) = 0 ∧ c = 0) :
    Calls Tryd.prog 31 #[.slice A 0 c, .slice B 0 cB] w (OwnS w []) := by
  have CC := Lib.hid (copyInts_any A 0 c [] w hA ⟨rfl, fun h => absurd h (by omega)⟩ (by omega))
  clear hA
  go_enter Tryd.func31, Tryd.ntmps31
  go_wp2_with fail
  refine CC.out.mono ?_
  rintro e w1 ⟨⟨v, rfl, ho⟩, hb1⟩
  have HO1 := Lib.hid ho
  have HB1 := Lib.hid hb1
  clear ho hb1 CC
  go_wp2
  go_loop [6] (fun i => i = .int .i64 0) (fun _ => 0)
  case atStart => rfl
  case round =>
    subst hrel
    go_wp2
    go_ret
    exact ⟨⟨v, rfl, HO1.out⟩, HB1.out⟩

set_option maxRecDepth 100000 in
set_option maxHeartbeats 8000000 in
theorem bridges_many1 (A : Option Addr) (n c : Nat) (xs : List Int) (B : Option Addr) (k cB : Nat) (gs : List (Int × Int)) (w : World) (hl : LaidSides w) (hA : A = none → n = 0 ∧ c = 0) (hB : B = none → k = 0 ∧ cB = 0) (hr : RdI w A n xs) (hg : RdP w B k gs) (hn : ¬ n ≤ 203) :
    Calls Tryd.prog 5 #[.slice A n c, .slice B k cB] w fun e w' => e = .returned (.bool true) ∧ Below w.heap.size w w' := by
  have HL := Lib.hid hl
  have HA := Lib.hid hA
  have HB := Lib.hid hB
  have HR := Lib.hid hr
  have HG := Lib.hid hg
  have HXL : Hid (xs.length = n) := hr.1
  have HGL : Hid (gs.length = k) := hg.1
  clear hl hA hB hr hg
  have CLONG : Hid (∀ (W : World) (c : Nat), Calls Tryd.prog 26 #[.slice A n c] W fun e w' => e = .returned (.bool false) ∧ W = w') := fun W c => by have h := long_any A n c W; rw [decide_eq_false hn] at h; exact h
  clear hn
  go_enter Tryd.func5, Tryd.ntmps5
  go_wp2_with fail
  refine (awake_any _ HL.out).mono ?_
  rintro e w1 ⟨rfl, hb1⟩
  have l1 := Lib.hid hb1
  clear HL hb1
  go_wp2_with fail
  refine (CLONG.out _ _).mono ?_
  rintro e w' ⟨rfl, rfl⟩
  go_wp2
  go_ret
  exact ⟨rfl, l1.out⟩

set_option maxRecDepth 100000 in
set_option maxHeartbeats 8000000 in
theorem bridges_many2 (A : Option Addr) (n c : Nat) (xs : List Int) (B : Option Addr) (k cB : Nat) (gs : List (Int × Int)) (w : World) (hl : LaidSides w) (hA : A = none → n = 0 ∧ c = 0) (hB : B = none → k = 0 ∧ cB = 0) (hr : RdI w A n xs) (hg : RdP w B k gs) (hn : n ≤ 203) (hk : ¬ k ≤ 20) :
    Calls Tryd.prog 5 #[.slice A n c, .slice B k cB] w fun e w' => e = .returned (.bool true) ∧ Below w.heap.size w w' := by
  have HL := Lib.hid hl
  have HA := Lib.hid hA
  have HB := Lib.hid hB
  have HR := Lib.hid hr
  have HG := Lib.hid hg
  have HXL : Hid (xs.length = n) := hr.1
  have HGL : Hid (gs.length = k) := hg.1
  clear hl hA hB hr hg
  have CLONG : Hid (∀ (W : World) (c : Nat), Calls Tryd.prog 26 #[.slice A n c] W fun e w' => e = .returned (.bool true) ∧ W = w') := fun W c => by have h := long_any A n c W; rw [decide_eq_true hn] at h; exact h
  have hkI : (20 : Int) < (k : Int) := by omega
  clear hn
  go_enter Tryd.func5, Tryd.ntmps5
  go_wp2_with fail
  refine (awake_any _ HL.out).mono ?_
  rintro e w1 ⟨rfl, hb1⟩
  have l1 := Lib.hid hb1
  clear HL hb1
  go_wp2_with fail
  refine (CLONG.out _ _).mono ?_
  rintro e w' ⟨rfl, rfl⟩
  go_wp2
  go_ret
  exact ⟨rfl, l1.out⟩

end Go.Proofs.YtnmfeonagigkeaaDoor
