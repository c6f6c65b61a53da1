import Derived.Test.YtjjflbnopphciacGreatDoorRsag
import Derived.BigQuiet
import Derived.Deep.QuietTactic
import Derived.Deep.DeepCutAuto
import Derived.Test.YtjjflbnopphciacGreatDoorRsad
import Derived.Test.YtjjflbnopphciacGreatDoorRsac
namespace Go.Proofs.YtjjflbnopphciacGreatDoor
open Go.RowKit

theorem below_dN (w : World) (k : Nat) : Below w.heap.size w (w.drewN k) := ⟨rfl, rfl, rfl, Nat.le_refl _, fun i hi => rfl⟩

set_option maxRecDepth 100000 in
set_option maxHeartbeats 4000000 in
theorem refNum4_any (s : ByteArray) (d : Nat) (w : World) (hs : s.size ≤ 1000000) (hd1 : 1 ≤ d) (hd : d ≤ 17) :
    Calls Tryz.prog 38 #[.string s, .int .i64 (d : Int)] w fun e w' => (∃ v, e = .returned (.tuple #[.int .i64 v, .bool (numU s.data.toList d).isSome]) ∧ ((numU s.data.toList d).isSome = true → v = (numU s.data.toList d).getD 0)) ∧ Below w.heap.size w w' := by
  have CN := Lib.hid (number_any s d w (by omega) hd1 hd)
  cases hn : numS s.data.toList d with
  | none =>
    rw [hn] at CN
    have hu : numU s.data.toList d = none := by unfold numU; rw [hn]
    rw [hu]
    clear hn hu
    go_enter Tryz.func38, Tryz.ntmps38
    go_wp2_with (go_at_call 40; refine CN.out.mono ?_; rintro e w' ⟨rfl, hw⟩; obtain rfl := hw)
    go_quiet (fail)
    go_wp2
    go_ret2
    exact ⟨⟨_, rfl, fun h => (by cases h)⟩, below_dN _ _⟩
  | some k =>
    rw [hn] at CN
    have hp : 0 < s.size := by
      have h1 := List.length_pos_iff.2 (numS_ne hn)
      simpa using h1
    by_cases hm : s.data.toList.head? = some 45
    · have hu : numU s.data.toList d = none := numU_minus hm
      have hP0 : s[0] = 45 := by
        have h1 := str_get s 0 hp
        rw [← List.head?_eq_getElem?, hm] at h1
        exact (Option.some.inj h1).symm
      have hce : (((s[0].toNat : Nat) : Int) != 45) = false := by rw [hP0]; rfl
      rw [hu]
      clear hn hu hm
      go_enter Tryz.func38, Tryz.ntmps38
      go_wp2_with (go_at_call 40; refine CN.out.mono ?_; rintro e w' ⟨rfl, hw⟩; obtain rfl := hw)
      go_quiet (fail)
      go_wp2
      go_ret2
      exact ⟨⟨_, rfl, fun h => (by cases h)⟩, below_dN _ _⟩
    · have hu : numU s.data.toList d = some k := numU_of_plain hm hn
      have hP0 : ¬ s[0] = 45 := by
        intro e
        have h1 := str_get s 0 hp
        rw [← List.head?_eq_getElem?, e] at h1
        exact hm h1
      have hce : (((s[0].toNat : Nat) : Int) != 45) = true := by
        refine bne_iff_ne.2 fun e => hP0 ?_
        apply UInt8.toNat_inj.1
        have : (45 : UInt8).toNat = 45 := rfl
        omega
      rw [hu]
      clear hn hu hm
      go_enter Tryz.func38, Tryz.ntmps38
      go_wp2_with (go_at_call 40; refine CN.out.mono ?_; rintro e w' ⟨rfl, hw⟩; obtain rfl := hw)
      go_quiet (fail)
      go_wp2
      go_ret2
      exact ⟨⟨_, rfl, fun _ => rfl⟩, below_dN _ _⟩

set_option maxRecDepth 100000 in
set_option maxHeartbeats 4000000 in
theorem refNum3_any (s : ByteArray) (d : Nat) (w : World) (hs : s.size ≤ 1000000) (hd1 : 1 ≤ d) (hd : d ≤ 17) :
    Calls Tryz.prog 73 #[.string s, .int .i64 (d : Int)] w fun e w' => (∃ v, e = .returned (.tuple #[.int .i64 v, .bool (numU s.data.toList d).isSome]) ∧ ((numU s.data.toList d).isSome = true → v = (numU s.data.toList d).getD 0)) ∧ Below w.heap.size w w' := by
  have CN := Lib.hid (number_any s d w (by omega) hd1 hd)
  cases hn : numS s.data.toList d with
  | none =>
    rw [hn] at CN
    have hu : numU s.data.toList d = none := by unfold numU; rw [hn]
    rw [hu]
    clear hn hu
    go_enter Tryz.func73, Tryz.ntmps73
    go_wp2_with (go_at_call 40; refine CN.out.mono ?_; rintro e w' ⟨rfl, hw⟩; obtain rfl := hw)
    go_quiet (fail)
    go_wp2
    go_ret2
    exact ⟨⟨_, rfl, fun h => (by cases h)⟩, below_dN _ _⟩
  | some k =>
    rw [hn] at CN
    have hp : 0 < s.size := by
      have h1 := List.length_pos_iff.2 (numS_ne hn)
      simpa using h1
    by_cases hm : s.data.toList.head? = some 45
    · have hu : numU s.data.toList d = none := numU_minus hm
      have hP0 : s[0] = 45 := by
        have h1 := str_get s 0 hp
        rw [← List.head?_eq_getElem?, hm] at h1
        exact (Option.some.inj h1).symm
      have hce : (((s[0].toNat : Nat) : Int) != 45) = false := by rw [hP0]; rfl
      rw [hu]
      clear hn hu hm
      go_enter Tryz.func73, Tryz.ntmps73
      go_wp2_with (go_at_call 40; refine CN.out.mono ?_; rintro e w' ⟨rfl, hw⟩; obtain rfl := hw)
      go_quiet (fail)
      go_wp2
      go_ret2
      exact ⟨⟨_, rfl, fun h => (by cases h)⟩, below_dN _ _⟩
    · have hu : numU s.data.toList d = some k := numU_of_plain hm hn
      have hP0 : ¬ s[0] = 45 := by
        intro e
        have h1 := str_get s 0 hp
        rw [← List.head?_eq_getElem?, e] at h1
        exact hm h1
      have hce : (((s[0].toNat : Nat) : Int) != 45) = true := by
        refine bne_iff_ne.2 fun e => hP0 ?_
        apply UInt8.toNat_inj.1
        have : (45 : UInt8).toNat = 45 := rfl
        omega
      rw [hu]
      clear hn hu hm
      go_enter Tryz.func73, Tryz.ntmps73
      go_wp2_with (go_at_call 40; refine CN.out.mono ?_; rintro e w' ⟨rfl, hw⟩; obtain rfl := hw)
      go_quiet (fail)
      go_wp2
      go_ret2
      exact ⟨⟨_, rfl, fun _ => rfl⟩, below_dN _ _⟩

theorem decFrom_mem (l : List UInt8) (b : UInt8) (hb : b ∈ l) (h : Lib.digitVal b = none) : ∀ acc, Lib.decFrom acc l = none := by
  induction l with
  | nil => cases hb
  | cons x t ih =>
    intro acc
    unfold Lib.decFrom
    rcases List.mem_cons.1 hb with rfl | hm
    · rw [h]
    · cases Lib.digitVal x with
      | none => rfl
      | some d => exact ih hm _
theorem numU_has {l : List UInt8} {d : Nat} {b : UInt8} (hb : b ∈ l) (h : Lib.digitVal b = none) : numU l d = none := by
  cases hk : numU l d with
  | none => rfl
  | some k =>
    exfalso
    by_cases hm : l.head? = some 45
    · rw [numU_minus hm] at hk; cases hk
    · have h1 := (numU_some.1 hk).1
      unfold numS at h1
      rw [if_neg hm] at h1
      cases hn : digs l d (decide (l.length ≤ 1)) with
      | none => rw [hn] at h1; cases h1
      | some n =>
        have := (digs_back (fun e => of_decide_eq_true e) hn).2.1
        rw [decFrom_mem l b hb h 0] at this
        cases this
theorem numU_nil (d : Nat) : numU [] d = none := by
  cases hk : numU [] d with
  | none => rfl
  | some k => exact absurd rfl (numS_ne (numU_some.1 hk).1)
def pairO : Option Int → Option Int → Option (Int × Int)
  | some x, some y => some (x, y)
  | _, _ => none
theorem pairO_none (o : Option Int) : pairO o none = none := by cases o <;> rfl
def nodeP : List (List UInt8) → Option (Int × Int)
  | [a, b] => pairO (numU a 7) (numU b 13)
  | _ => none
/-- What a node's word says. -/
def nodeO (p : List UInt8) : Option (Int × Int) := nodeP (pcs 64 p)
theorem nodeO_cut (p : List UInt8) : nodeO p = pairO (numU (Lib.cut p [64]).1 7) (numU (Lib.cut p [64]).2.1 13) := by
  unfold nodeO
  rcases cut_casesG 64 p with ⟨h1, h2⟩ | ⟨x, z, h1, h2, h3⟩
  · rw [h1, h2, numU_nil, pairO_none]; rfl
  · rw [h1, h2]
    rcases h3 with h3 | ⟨h3, h4⟩
    · rw [h3]; rfl
    · rw [numU_has h3 rfl, pairO_none]
      match pcs 64 z, h4 with
      | _ :: _ :: _, _ => rfl
/-- All of a list, if each is something. -/
def allO {α : Type} (f : List UInt8 → Option α) : List (List UInt8) → Option (List α)
  | [] => some []
  | p :: ps => match f p with
    | some k => (allO f ps).map (k :: ·)
    | none => none
theorem allO_len {α : Type} (f : List UInt8 → Option α) : ∀ (ps : List (List UInt8)) (l : List α), allO f ps = some l → l.length = ps.length := by
  intro ps
  induction ps with
  | nil => intro l h; simp [allO] at h; subst h; rfl
  | cons p ps ih =>
    intro l h
    rw [allO] at h
    cases hk : f p with
    | none => rw [hk] at h; cases h
    | some k =>
      rw [hk] at h
      cases hr : allO f ps with
      | none => rw [hr] at h; cases h
      | some r =>
        rw [hr] at h
        have hl : l = k :: r := (Option.some.inj h).symm
        subst hl
        simp [ih r hr]
theorem allO_bad {α : Type} (f : List UInt8 → Option α) : ∀ (ps : List (List UInt8)) (j : Nat) (p : List UInt8), ps[j]? = some p → f p = none → allO f ps = none := by
  intro ps
  induction ps with
  | nil => intro j p h; simp at h
  | cons q ps ih =>
    intro j p h hn
    rw [allO]
    cases j with
    | zero =>
      have : q = p := by simpa using h
      subst this
      rw [hn]
    | succ j =>
      cases hk : f q with
      | none => rfl
      | some k => rw [ih j p (by simpa using h) hn]; rfl
theorem allO_snoc {α : Type} (f : List UInt8 → Option α) (ps : List (List UInt8)) (p : List UInt8) (k : α) (hk : f p = some k) : ∀ l, allO f ps = some l → allO f (ps ++ [p]) = some (l ++ [k]) := by
  induction ps with
  | nil => intro l hl; simp [allO] at hl; subst hl; simp [allO, hk]
  | cons q t ih =>
    intro l hl
    rw [allO] at hl
    rw [List.cons_append, allO]
    cases hq : f q with
    | none => rw [hq] at hl; cases hl
    | some a =>
      rw [hq] at hl
      cases hr : allO f t with
      | none => rw [hr] at hl; cases hl
      | some r =>
        rw [hr] at hl
        have : l = a :: r := (Option.some.inj hl).symm
        subst this
        rw [ih r hr]
        rfl
theorem allO_take {α : Type} (f : List UInt8 → Option α) (ps : List (List UInt8)) (j : Nat) (p : List UInt8) (l : List α) (k : α) (h : ps[j]? = some p) (hl : allO f (ps.take j) = some l) (hk : f p = some k) : allO f (ps.take (j + 1)) = some (l ++ [k]) := by
  have e : ps.take (j + 1) = ps.take j ++ [p] := by rw [List.take_add_one, h]; rfl
  rw [e]
  exact allO_snoc f _ _ _ hk _ hl
end Go.Proofs.YtjjflbnopphciacGreatDoor


namespace Go.Proofs.YtjjflbnopphciacGreatDoor
open Go.RowKit

theorem bk2' {W : World} {g : Nat} {t : TypeId} {x y : Value} (h : Bk W g t #[x, y]) : W.cell? ⟨g, 0, none⟩ = some x ∧ W.cell? ⟨g, 1, none⟩ = some y ∧ W.frozen? ⟨g, 0, none⟩ = false ∧ W.frozen? ⟨g, 1, none⟩ = false :=
  ⟨by rw [h.cell]; rfl, by rw [h.cell]; rfl, h.frozen 0, h.frozen 1⟩
/-- The boxes of a function that reads two nodes of a map: the map's, the result's. -/
structure NI (w : World) (v : Value) (x1 x2 x3 x4 : Addr) (a1 a2 b1 b2 : Int) (W : World) : Prop where
  box : Bk W w.heap.size 24 #[v]
  res : ∃ t, ∃ x y : Value, Bk W (w.heap.size + 1) t #[x, y]
  c1 : W.cell? x1 = some (.int .i64 a1)
  c2 : W.cell? x2 = some (.int .i64 a2)
  c3 : W.cell? x3 = some (.int .i64 b1)
  c4 : W.cell? x4 = some (.int .i64 b2)
  bel : Below w.heap.size w W
  hg : x1.block < w.heap.size ∧ x2.block < w.heap.size ∧ x3.block < w.heap.size ∧ x4.block < w.heap.size
theorem upF_eq (n d : Int) (hd : 0 < d) : upF n d = (n + d - 1) / d := by
  unfold upF
  have h1 := Int.mul_ediv_self_le (x := n + d - 1) (k := d) (by omega)
  have h2 := Int.lt_mul_ediv_self_add (x := n + d - 1) (k := d) hd
  have h3 := Int.mul_ediv_self_le (x := -n) (k := d) (by omega)
  have h4 := Int.lt_mul_ediv_self_add (x := -n) (k := d) hd
  generalize (n + d - 1) / d = q at *
  generalize (-n) / d = r at *
  have e : d * (q + r) = d * q + d * r := Int.mul_add ..
  have a : q + r < 1 := by
    apply Int.lt_of_mul_lt_mul_left (a := d) _ (by omega)
    rw [e]; omega
  have b : -1 < q + r := by
    apply Int.lt_of_mul_lt_mul_left (a := d) _ (by omega)
    rw [e]; omega
  omega
theorem NI.drew {w W : World} {v : Value} {x1 x2 x3 x4 : Addr} {a1 a2 b1 b2 : Int} (h : NI w v x1 x2 x3 x4 a1 a2 b1 b2 W) : NI w v x1 x2 x3 x4 a1 a2 b1 b2 W.drew := ⟨h.box.drew, h.res, h.c1, h.c2, h.c3, h.c4, h.bel.drew, h.hg⟩
theorem NI.drewN {w W : World} {v : Value} {x1 x2 x3 x4 : Addr} {a1 a2 b1 b2 : Int} (h : NI w v x1 x2 x3 x4 a1 a2 b1 b2 W) (k : Nat) : NI w v x1 x2 x3 x4 a1 a2 b1 b2 (W.drewN k) := ⟨h.box.drewN k, h.res, h.c1, h.c2, h.c3, h.c4, belowDrewN h.bel k, h.hg⟩
theorem NI.alloc {w W : World} {v : Value} {x1 x2 x3 x4 : Addr} {a1 a2 b1 b2 : Int} (h : NI w v x1 x2 x3 x4 a1 a2 b1 b2 W) (ob : Obj) : NI w v x1 x2 x3 x4 a1 a2 b1 b2 (W.alloc ob) :=
  ⟨h.box.alloc ob, by obtain ⟨t, x, y, k⟩ := h.res; exact ⟨t, x, y, k.alloc ob⟩, cellA _ h.c1, cellA _ h.c2, cellA _ h.c3, cellA _ h.c4, h.bel.alloc h.bel.size ob, h.hg⟩
theorem NI.far {w W : World} {v : Value} {x1 x2 x3 x4 : Addr} {a1 a2 b1 b2 : Int} (h : NI w v x1 x2 x3 x4 a1 a2 b1 b2 W) (a : Addr) (ha : w.heap.size + 1 < a.block) (u : Value) : NI w v x1 x2 x3 x4 a1 a2 b1 b2 (W.setCell a u) := by
  have hg := h.hg
  refine ⟨h.box.far a (by omega) u, by obtain ⟨t, x, y, k⟩ := h.res; exact ⟨t, x, y, k.far a (by omega) u⟩, ?_, ?_, ?_, ?_, h.bel.setCell (by omega) u, hg⟩
  all_goals rw [World.cell?_setCell_far _ _ _ _ (fun e => by omega)]
  · exact h.c1
  · exact h.c2
  · exact h.c3
  · exact h.c4
theorem NI.five {w W : World} {v : Value} {x1 x2 x3 x4 : Addr} {a1 a2 b1 b2 : Int} (h : NI w v x1 x2 x3 x4 a1 a2 b1 b2 W) :
    W.cell? ⟨w.heap.size, 0, none⟩ = some v ∧ W.cell? x1 = some (.int .i64 a1) ∧ W.cell? x2 = some (.int .i64 a2) ∧ W.cell? x3 = some (.int .i64 b1) ∧ W.cell? x4 = some (.int .i64 b2) :=
  ⟨(bk1 h.box).1, h.c1, h.c2, h.c3, h.c4⟩
set_option maxRecDepth 100000 in
theorem few_any (A : Option Addr) (n c : Nat) (w : World) :
    Calls Tryz.prog 5 #[.agg #[.slice A n c]] w fun e w' => e = .returned (.bool (decide (n ≤ 22))) ∧ Below w.heap.size w w' := by
  have e1 : decide ((n : Int) ≤ 22) = decide (n ≤ 22) := decide_eq_decide.2 (by omega)
  have HE := Lib.hid e1
  clear e1
  go_enter Tryz.func5, Tryz.ntmps5
  go_wp2
  go_ret
  exact ⟨retB HE.out, below1 _ _⟩

end Go.Proofs.YtjjflbnopphciacGreatDoor


namespace Go.Proofs.YtjjflbnopphciacGreatDoor
open Go.RowKit

/-! ### copies of maps and rules -/
def pairCells (ps : List (Int × Int)) : List Value := ps.flatMap fun p => [.int .i64 p.1, .int .i64 p.2]
theorem pairCells_at : ∀ (ps : List (Int × Int)) (j : Nat), j < ps.length → (pairCells ps)[j * 2]? = some (.int .i64 (ps.getD j (0, 0)).1) ∧ (pairCells ps)[j * 2 + 1]? = some (.int .i64 (ps.getD j (0, 0)).2)
  | [], j, h => absurd h (by simp)
  | p :: ps, 0, _ => ⟨rfl, rfl⟩
  | p :: ps, j + 1, h => by
    have ih := pairCells_at ps j (by simpa using h)
    have e : pairCells (p :: ps) = .int .i64 p.1 :: .int .i64 p.2 :: pairCells ps := rfl
    rw [e, show (j + 1) * 2 = j * 2 + 1 + 1 by omega]
    simpa using ih
theorem pairCells_length (ps : List (Int × Int)) : (pairCells ps).length = ps.length * 2 := by
  induction ps with
  | nil => rfl
  | cons p ps ih =>
    have e : pairCells (p :: ps) = .int .i64 p.1 :: .int .i64 p.2 :: pairCells ps := rfl
    rw [e, List.length_cons, List.length_cons, List.length_cons, ih]; omega
theorem pairCells_one (ps : List (Int × Int)) : ∀ u ∈ pairCells ps, u.oneCell' = true := by
  intro u hu
  simp only [pairCells, List.mem_flatMap] at hu
  obtain ⟨p, _, hp⟩ := hu
  simp at hp
  rcases hp with rfl | rfl <;> rfl
theorem rdN_of_own {w : World} {base g n cap : Nat} {t : TypeId} {ps : List (Int × Int)} (h : w.ownsRow base t 2 (.slice (some ⟨g, 0, none⟩) n cap) n (pairCells ps)) (hl : ps.length = n) : RdN w (some ⟨g, 0, none⟩) n ps := by
  refine ⟨hl, fun _ => ⟨g, rfl, (h.lt g rfl).2, fun j hj => ?_⟩⟩
  obtain ⟨h1, h2⟩ := pairCells_at ps j (by omega)
  exact ⟨(h.cellAt (j * 2) (by omega)).trans h1, (h.cellAt (j * 2 + 1) (by omega)).trans h2⟩
theorem rdp_news {W : World} {ad : Addr} {n : Nat} {ps : List (Int × Int)} (h : RdP W (some ad) n ps) : ∀ j u, (pairCells ps)[j]? = some u → W.cell? (ad.add j) = some u := by
  intro j u hu
  have hj : j < (pairCells ps).length := (List.getElem?_eq_some_iff.1 hu).1
  rw [pairCells_length, h.1] at hj
  have hl := h.1
  obtain ⟨ad', ha, hlt, hc⟩ := h.2 (by omega)
  obtain rfl := Option.some.inj ha
  obtain ⟨h1, h2⟩ := hc (j / 2) (by omega)
  obtain ⟨p1, p2⟩ := pairCells_at ps (j / 2) (by omega)
  rcases (by omega : j = j / 2 * 2 ∨ j = j / 2 * 2 + 1) with e | e
  · obtain ⟨q, hq⟩ : ∃ q, j / 2 = q := ⟨_, rfl⟩
    rw [hq] at h1 h2 p1 p2 e
    subst e
    rw [p1] at hu
    rw [h1]; exact hu
  · obtain ⟨q, hq⟩ : ∃ q, j / 2 = q := ⟨_, rfl⟩
    rw [hq] at h1 h2 p1 p2 e
    subst e
    rw [p2] at hu
    rw [add_add'] at h2
    rw [h2]; exact hu
/-- A map that is copied. -/
def CpM (w : World) (n : Nat) (ns : List (Int × Int)) (e : Ending) (w' : World) : Prop := (∃ g c, e = .returned (.agg #[.slice (some ⟨g, 0, none⟩) n c]) ∧ RdN w' (some ⟨g, 0, none⟩) n ns ∧ n ≤ c ∧ w.heap.size ≤ g) ∧ Below w.heap.size w w'
theorem nodInfo : (Tryz.prog.info? 99).map (fun i => (i.zero, i.size, i.bytes)) = some (some (.agg #[.int .i64 0, .int .i64 0]), 2, 16) := by kernel_rfl
theorem rdN_far {w : World} {g n : Nat} {ns : List (Int × Int)} (h : RdN w (some ⟨g, 0, none⟩) n ns) (p : Addr) (hp : g ≠ p.block) (u : Value) : RdN (w.setCell p u) (some ⟨g, 0, none⟩) n ns := by
  refine ⟨h.1, fun hn => ?_⟩
  obtain ⟨g', e, hlt, hc⟩ := h.2 hn
  obtain rfl : g = g' := by injection e with e; injection e
  refine ⟨g, rfl, by simpa using hlt, fun j hj => ?_⟩
  rw [World.cell?_setCell_far _ _ _ _ (fun e => hp (by simpa using e.symm)), World.cell?_setCell_far _ _ _ _ (fun e => hp (by simpa using e.symm))]
  exact hc j hj
set_option maxRecDepth 100000 in
set_option maxHeartbeats 2000000 in
theorem copyMap_any (A : Option Addr) (n c : Nat) (ns : List (Int × Int)) (w : World) (hA : A = none → n = 0 ∧ c = 0) (hr : RdP w A n ns) (hn : n ≤ 1000000) :
    Calls Tryz.prog 30 #[.agg #[.slice A n c]] w (CpM w n ns) := by
  have hB2 : Below w.heap.size w ((w.alloc (.cells #[.slice A n c] 24)).alloc (.cells #[.slice none 0 0] 24)) := below2 _ _ _
  have KR : Hid (Bk ((w.alloc (.cells #[.slice A n c] 24)).alloc (.cells #[.slice none 0 0] 24)) (w.heap.size + 1) 24 #[.slice none 0 0]) := Lib.hid (by simpa using Bk.new (w.alloc (.cells #[.slice A n c] 24)) 24 #[.slice none 0 0])
  have hsz : ((w.alloc (.cells #[.slice A n c] 24)).alloc (.cells #[.slice none 0 0] 24)).heap.size = w.heap.size + 1 + 1 := by simp
  have ho : Hid ((((w.alloc (.cells #[.slice A n c] 24)).alloc (.cells #[.slice none 0 0] 24)).alloc (.cells #[] 99)).ownsRow (w.heap.size + 1 + 1) 99 2 (.slice (some ⟨w.heap.size + 1 + 1, 0, none⟩) 0 0) 0 ([] : List Value)) := Lib.hid (by
    have h := World.ownsRow_lit (base := ((w.alloc (.cells #[.slice A n c] 24)).alloc (.cells #[.slice none 0 0] 24)).heap.size) (e := 99) (size := 2) ((w.alloc (.cells #[.slice A n c] 24)).alloc (.cells #[.slice none 0 0] 24)) #[] 0 (Nat.le_refl _) (by unfold maxLen; omega) rfl
    rw [hsz] at h
    exact h)
  have HR : Hid (RdP (((w.alloc (.cells #[.slice A n c] 24)).alloc (.cells #[.slice none 0 0] 24)).alloc (.cells #[] 99)) A n ns) := Lib.hid ((hr.below hB2).below (below1 _ _))
  have HB : Hid (Below w.heap.size w (((w.alloc (.cells #[.slice A n c] 24)).alloc (.cells #[.slice none 0 0] 24)).alloc (.cells #[] 99))) := Lib.hid (hB2.alloc hB2.size _)
  have HK : Hid (Bk (((w.alloc (.cells #[.slice A n c] 24)).alloc (.cells #[.slice none 0 0] 24)).alloc (.cells #[] 99)) (w.heap.size + 1) 24 #[.slice none 0 0]) := Lib.hid (KR.out.alloc _)
  have HL : Hid (ns.length = n) := hr.1
  obtain ⟨i0, hi, hz0, hz1, hz2⟩ := info_parts nodInfo
  clear hB2 KR
  cases A with
  | none =>
    obtain ⟨rfl, rfl⟩ := hA rfl
    have hl : ns = [] := List.eq_nil_of_length_eq_zero hr.1
    subst hl
    clear hA hr HR
    go_enter Tryz.func30, Tryz.ntmps30
    go_wp2_with (at_builtin; refine wpList_append_own_none rfl (.tmp 3) (.tmp 5) 22 rfl (w.heap.size + 1 + 1) 99 i0 2 Tryz.underlying22 hi _ _ _ rfl ho.out rfl ?_)
    have B2 := HB.out
    refine bodyPost_ret (v := .agg #[.slice (some ⟨w.heap.size + 1 + 1, 0, none⟩) 0 0]) (by simp [results, Tryz.results30, go_sem]) rfl ⟨⟨_, _, rfl, ⟨rfl, fun h => absurd h (by omega)⟩, Nat.le_refl _, by omega⟩, ?_⟩
    go_grown
  | some ad =>
    have hlen : Hid ((pairCells ns).length = n * 2) := by show _ = _; rw [pairCells_length, HL.out]
    have hsrc := Lib.hid (rdp_news HR.out)
    have hone : Hid (∀ u ∈ pairCells ns, u.oneCell' = true) := pairCells_one ns
    obtain ⟨news, hnews⟩ : ∃ news, pairCells ns = news := ⟨_, rfl⟩
    rw [hnews] at hlen hsrc hone
    have HNW := Lib.hid hnews
    have hbs : w.heap.size + 1 + 1 ≤ (((w.alloc (.cells #[.slice (some ad) n c] 24)).alloc (.cells #[.slice none 0 0] 24)).alloc (.cells #[] 99)).heap.size := by simp
    clear hnews hA hr HR
    go_enter Tryz.func30, Tryz.ntmps30
    go_wp2_with (at_builtin; refine wpList_append_own _ rfl (.tmp 3) (.tmp 5) 22 rfl (w.heap.size + 1 + 1) 99 i0 _ 2 16 Tryz.underlying22 hi hz0 hz1 hz2 rfl (by decide) _ _ _ rfl ho.out ad n c news rfl hlen.out hsrc.out hone.out (by unfold maxLen; omega) (by omega) hbs ?_)
    intro v w2 ho2 hg2 hnil
    have b2 : Below w.heap.size w w2 := HB.out.grown hg2 (by have := HB.out.size; exact this) (fun g hg => by have := (ho.out.lt g hg).1; omega)
    have hv : ∃ g cap, v = .slice (some ⟨g, 0, none⟩) n cap ∧ n ≤ cap ∧ w.heap.size + 1 + 1 ≤ g := by
      have h2 := ho2.2
      rcases h2 with ⟨e, h0⟩ | ⟨g, cap, cur, e, hge, _, hnc, _⟩
      · exact absurd e hnil
      · refine ⟨g, cap, by rw [e], by omega, hge⟩
    obtain ⟨g, cap, rfl, hcap, hge⟩ := hv
    have o2 : RdN w2 (some ⟨g, 0, none⟩) n ns := by
      refine rdN_of_own (base := w.heap.size + 1 + 1) (t := 99) (cap := cap) ?_ HL.out
      rw [HNW.out]
      simpa using ho2
    have k2 : Bk w2 (w.heap.size + 1) 24 #[.slice none 0 0] := HK.out.grown hg2 (by intro e; have h := ho.out.lt _ (by rw [← e]); omega)
    have O2 := Lib.hid o2
    have B2 := b2
    obtain ⟨k0, kf⟩ := bk1 k2
    clear ho2 hg2 b2 hnil ho HB HK o2
    go_wp2
    refine bodyPost_ret (v := .agg #[.slice (some ⟨g, 0, none⟩) n cap]) (by simp [results, Tryz.results30, go_sem, k0, kf]) rfl ⟨⟨_, _, rfl, rdN_far O2.out _ (by simp; omega) _, hcap, by omega⟩, ?_⟩
    go_grown

end Go.Proofs.YtjjflbnopphciacGreatDoor

namespace Go.Proofs.YtjjflbnopphciacGreatDoor
open Go.RowKit

/-- What mapIn answers. -/
def MapIn (w : World) (o : Option (List (Int × Int))) (e : Ending) (w' : World) : Prop :=
  (∃ A c, e = .returned (.tuple #[.agg #[.slice A (o.getD []).length c], .bool o.isSome]) ∧ RdN w' A (o.getD []).length (o.getD []) ∧ (A = none → (o.getD []).length = 0 ∧ c = 0) ∧ (∀ a, A = some a → w.heap.size ≤ a.block)) ∧ Below w.heap.size w w'
theorem mapNone {w w' : World} {o : Option (List (Int × Int))} (hb : Below w.heap.size w w') (h : o = none) : MapIn w o (.returned (.tuple #[.agg #[.slice none 0 0], .bool false])) w' := by
  subst h
  exact ⟨⟨none, 0, rfl, ⟨rfl, fun h => absurd h (by simp)⟩, (fun _ => ⟨rfl, rfl⟩), fun a e => (by cases e)⟩, hb⟩
theorem mapSome {w w' : World} {o : Option (List (Int × Int))} {A : Option Addr} {m c : Nat} {ns : List (Int × Int)} (hb : Below w.heap.size w w') (h : o = some ns) (hl : ns.length = m) (hr : RdN w' A m ns) (hA : A = none → m = 0 ∧ c = 0) (hF : ∀ a, A = some a → w.heap.size ≤ a.block) : MapIn w o (.returned (.tuple #[.agg #[.slice A m c], .bool true])) w' := by
  subst h; subst hl
  exact ⟨⟨A, c, rfl, hr, hA, hF⟩, hb⟩
theorem lit2N (W : World) (x y : Int) : ∀ j u, [Value.int .i64 x, Value.int .i64 y][j]? = some u → (W.alloc (.cells #[.int .i64 x, .int .i64 y] 99)).cell? ((⟨W.heap.size, 0, none⟩ : Addr).add j) = some u := by
  intro j u hj
  have hk := Bk.new W 99 #[.int .i64 x, .int .i64 y]
  rw [addOff, hk.cell]
  match j, hj with
  | 0, hj => simpa using hj
  | 1, hj => simpa using hj
  | j + 2, hj => simp at hj
theorem ownBelowN {w w' : World} {base size n : Nat} {t : TypeId} {v : Value} {xs : List Value} (h : w.ownsRow base t size v n xs) (hb : Below w.heap.size w w') : w'.ownsRow base t size v n xs := ownBelowT h hb
theorem ownFarN {w : World} {base t size k : Nat} {x : Value} {xs : List Value} (ho : w.ownsRow base t size x k xs) (a : Addr) (u : Value) (ha : a.block < base) : (w.setCell a u).ownsRow base t size x k xs := by
  refine ⟨ho.1, ?_⟩
  rcases ho.2 with h0 | ⟨g, cap, cur, h1, h2, h3, h4⟩
  · exact .inl h0
  · exact .inr ⟨g, cap, cur, h1, h2, (heap_setCell_other w a g u (by omega)).trans h3, h4⟩
theorem pairSnoc (ns : List (Int × Int)) (x y : Int) : pairCells (ns ++ [(x, y)]) = pairCells ns ++ [.int .i64 x, .int .i64 y] := by simp [pairCells]
theorem ownNilN {w : World} {base size n c : Nat} {t : TypeId} {A : Option Addr} {xs : List Value} (h : w.ownsRow base t size (.slice A n c) n xs) : A = none → n = 0 ∧ c = 0 := by
  rintro rfl
  rcases h.2 with ⟨e, h0⟩ | ⟨g, cap, cur, e, _⟩
  · injection e with _ e1 e2; exact ⟨e1, e2⟩
  · injection e with e; cases e
theorem rdNown {w : World} {base n c : Nat} {t : TypeId} {A : Option Addr} {ns : List (Int × Int)} (h : w.ownsRow base t 2 (.slice A n c) n (pairCells ns)) (hl : ns.length = n) : RdN w A n ns := by
  rcases h.2 with ⟨e, h0⟩ | ⟨g, cap, cur, e, _⟩
  · injection e with e1 e2 e3
    subst e1
    exact ⟨hl, fun hn => absurd hn (by omega)⟩
  · injection e with e1 e2 e3
    subst e1
    exact rdN_of_own h hl
/-- The words of a string, in each world that keeps their block. -/
def WordsAt (W : World) (g : Nat) (ps : List (List UInt8)) : Prop := g < W.heap.size ∧ ∀ k x, ps[k]? = some x → W.cell? ⟨g, k, none⟩ = some (sv x)
theorem WordsAt.later {W W' : World} {g : Nat} {ps : List (List UInt8)} (h : WordsAt W g ps) (hb : Below W.heap.size W W') : WordsAt W' g ps :=
  ⟨Nat.lt_of_lt_of_le h.1 hb.size, fun k x hx => (hb.cell h.1).trans (h.2 k x hx)⟩
theorem WordsAt.grown {W W' : World} {g : Nat} {ps : List (List UInt8)} {row : Option Nat} (h : WordsAt W g ps) (hg : W.grownBy W' row) (hne : row ≠ some g) : WordsAt W' g ps :=
  ⟨Nat.lt_of_lt_of_le h.1 hg.size, fun k x hx => (World.cell?_of_block (hg.block g h.1 (fun e => hne e.symm))).trans (h.2 k x hx)⟩
theorem WordsAt.far {W : World} {g : Nat} {ps : List (List UInt8)} (h : WordsAt W g ps) (p : Addr) (u : Value) (hp : g ≠ p.block) : WordsAt (W.setCell p u) g ps :=
  ⟨by rw [World.size_setCell]; exact h.1, fun k x hx => (World.cell?_of_block (heap_setCell_other W p g u hp)).trans (h.2 k x hx)⟩

set_option maxRecDepth 100000 in
set_option maxHeartbeats 16000000 in
theorem mapIn_any (s : ByteArray) (w : World) (hl : LaidG w) (hs : s.size ≤ 60000) (ps : List (List UInt8)) (hps : pcs 32 s.data.toList = ps) :
    Calls Tryz.prog 106 #[.string s] w (MapIn w (allO nodeO ps)) := by
  obtain ⟨i0, hi0, hz0, hz1, hz2⟩ := info_parts nodInfo
  obtain ⟨w1, hw1⟩ : ∃ W, (w.alloc (.cells #[.slice none 0 0] 24)).alloc (.cells #[.slice none 0 0] 24) = W := ⟨_, rfl⟩
  have B1 : Hid (Below w.heap.size w w1) := by show Below _ _ _; rw [← hw1]; exact ((Below.refl _ _).alloc (Nat.le_refl _) _).alloc (by simp) _
  have K1 : Hid (Bk w1 w.heap.size 24 #[.slice none 0 0]) := by show Bk _ _ _ _; rw [← hw1]; exact (Bk.new w _ _).alloc _
  have M1 : Hid (Bk w1 (w.heap.size + 1) 24 #[.slice none 0 0]) := by show Bk _ _ _ _; rw [← hw1]; simpa using Bk.new (w.alloc (.cells #[.slice none 0 0] 24)) 24 #[.slice none 0 0]
  obtain ⟨q, hq⟩ : ∃ q, ps.length = q := ⟨_, rfl⟩
  have C1 := Lib.hid (splitG_form s w1 (hl.later B1.out) (by omega) ps q hps hq)
  have hlen : s.data.toList.length = s.size := by simp
  have hn1 : q ≤ 60001 := by
    have := pcs_len_le 32 s.data.toList
    rw [hps, hq] at this; omega
  have HSZ : Hid (∀ p ∈ ps, p.length ≤ 60000) := fun p hp => by
    have := pcs_sum 32 s.data.toList p (by rw [hps]; exact hp)
    omega
  have HQ := Lib.hid hq
  have HL0 := Lib.hid hl
  have HW1 := Lib.hid hw1
  clear hps hlen hl hw1 hq
  go_enter Tryz.func106, Tryz.ntmps106
  go_wp2_with fail
  rw [show (w.alloc (.cells #[.slice none 0 0] 24)).alloc (.cells #[.slice none 0 0] 24) = w1 from HW1.out]
  refine C1.out.mono ?_
  rintro e w2 ⟨rfl, hc, hg2, hb2⟩
  have HC : Hid (WordsAt w2 w1.heap.size ps) := ⟨hg2, hc⟩
  have B2 := Lib.hid (B1.out.trans (hb2.mono B1.out.size))
  have K2 : Hid (Bk w2 w.heap.size 24 #[.slice none 0 0]) := K1.out.later hb2
  have M2 : Hid (Bk w2 (w.heap.size + 1) 24 #[.slice none 0 0]) := M1.out.later hb2
  have hg1 : w.heap.size + 1 < w1.heap.size := M1.out.lt
  obtain ⟨g, hg⟩ : ∃ g, w1.heap.size = g := ⟨_, rfl⟩
  rw [hg] at HC hg2 hg1 ⊢
  obtain ⟨gm, hgm⟩ : ∃ g, w.heap.size + 1 = g := ⟨_, rfl⟩
  rw [hgm] at M2 hg1 ⊢
  have hgm0 : w.heap.size < gm := by omega
  have B2s := Lib.hid B2.out.size
  clear hc hb2 hg B1 K1 M1 HW1 C1 hgm
  go_wp2
  go_loopw [17] (fun i wr => ∃ (j : Nat) (ns : List (Int × Int)) (p : Value), j ≤ q ∧ i = .int .i64 (j : Int) ∧ Hid (allO nodeO (ps.take j) = some ns ∧ ns.length = j) ∧ Hid (Bk wr gm 24 #[p] ∧ Bk wr w.heap.size 24 #[.slice none 0 0] ∧ WordsAt wr g ps) ∧ Hid (wr.ownsRow w2.heap.size 99 2 p j (pairCells ns)) ∧ Hid (Below w.heap.size w wr ∧ w2.heap.size ≤ wr.heap.size)) (fun i _ => q - (intOf i).toNat)
  case atStart => exact ⟨0, [], _, Nat.zero_le _, rfl, ⟨rfl, rfl⟩, ⟨M2.out, K2.out, HC.out⟩, World.ownsRow_nil _ _ _ _, B2.out, Nat.le_refl _⟩
  case round =>
    clear M2 K2 HC B2
    obtain ⟨j, ns, pv, hj, rfl, HN, HM, HO, HB⟩ := hrel
    have hsz := HB.out.2
    have hszr : g < wr.heap.size := HM.out.2.2.1
    obtain ⟨Ac, ca, rfl, _⟩ := own_formT HO.out
    by_cases hlt : j < q
    · obtain ⟨p, hp⟩ : ∃ p, ps[j]? = some p := ⟨_, List.getElem?_eq_getElem (by rw [HQ.out]; exact hlt)⟩
      obtain ⟨P, hP⟩ : ∃ P : ByteArray, (⟨p.toArray⟩ : ByteArray) = P := ⟨_, rfl⟩
      have hcj : wr.cell? ⟨g, j, none⟩ = some (.string P) := by rw [HM.out.2.2.2 j p hp, ← hP]; rfl
      have hPl : P.data.toList = p := by rw [← hP]
      have hpz : p.length ≤ 60000 := HSZ.out p (List.mem_of_getElem? hp)
      have hPz : P.size ≤ 60000 := by rw [← hP, bytes_size]; exact hpz
      obtain ⟨fl, hfl⟩ : ∃ f, (Lib.cut p [64]).2.2 = f := ⟨_, rfl⟩
      obtain ⟨X, hX⟩ : ∃ X : ByteArray, (⟨(Lib.cut p [64]).1.toArray⟩ : ByteArray) = X := ⟨_, rfl⟩
      obtain ⟨Z, hZ⟩ : ∃ X : ByteArray, (⟨(Lib.cut p [64]).2.1.toArray⟩ : ByteArray) = X := ⟨_, rfl⟩
      have hXl : X.data.toList = (Lib.cut p [64]).1 := by rw [← hX]
      have hZl : Z.data.toList = (Lib.cut p [64]).2.1 := by rw [← hZ]
      have hcsz := cut_sizeG 64 p
      have hXz : X.size ≤ 60000 := by rw [← hX, bytes_size]; omega
      have hZz : Z.size ≤ 60000 := by rw [← hZ, bytes_size]; omega
      have CC := Lib.hid (cutG_form 64 P X Z fl wr (HL0.out.later HB.out.1) (by omega) (by rw [hPl, hXl, hZl, ← hfl]))
      have CL : Hid (∀ W, LaidG W → _) := Lib.hid fun W h => numberV_any X 7 W h (by omega) (by omega) (by omega)
      have CT : Hid (∀ W, LaidG W → _) := Lib.hid fun W h => numberV_any Z 13 W h (by omega) (by omega) (by omega)
      obtain ⟨o1, ho1⟩ : ∃ o, numU X.data.toList 7 = o := ⟨_, rfl⟩
      obtain ⟨o2, ho2⟩ : ∃ o, numU Z.data.toList 13 = o := ⟨_, rfl⟩
      have HNO : Hid (nodeO p = pairO o1 o2) := by show _ = _; rw [nodeO_cut, ← ho1, ← ho2, hXl, hZl]
      rw [ho1] at CL
      rw [ho2] at CT
      have HPJ := Lib.hid hp
      have hltI : (j : Int) < (q : Int) := by omega
      clear hp hP hPl hPz hpz hfl hX hZ hXl hZl hcsz hXz hZz ho1 ho2
      go_wp2_with fail
      refine CC.out.mono ?_
      rintro e w4 ⟨rfl, hb4⟩
      have HM4 : Hid (Bk w4 gm 24 #[.slice Ac j ca] ∧ Bk w4 w.heap.size 24 #[.slice none 0 0] ∧ WordsAt w4 g ps) := ⟨HM.out.1.later hb4, HM.out.2.1.later hb4, HM.out.2.2.later hb4⟩
      have HO4 : Hid (w4.ownsRow w2.heap.size 99 2 (.slice Ac j ca) j (pairCells ns)) := ownBelowN HO.out hb4
      have HB4 : Hid (Below w.heap.size w w4 ∧ w2.heap.size ≤ w4.heap.size) := ⟨HB.out.1.trans (hb4.mono HB.out.1.size), Nat.le_trans hsz hb4.size⟩
      clear hb4 HM HO HB CC hcj hsz
      go_wp2_with fail
      refine (CL.out _ (HL0.out.later HB4.out.1)).mono ?_
      rintro e w5 ⟨⟨v1, rfl, hv1, _, _⟩, hb5⟩
      have HM5 : Hid (Bk w5 gm 24 #[.slice Ac j ca] ∧ Bk w5 w.heap.size 24 #[.slice none 0 0] ∧ WordsAt w5 g ps) := ⟨HM4.out.1.later hb5, HM4.out.2.1.later hb5, HM4.out.2.2.later hb5⟩
      have HO5 : Hid (w5.ownsRow w2.heap.size 99 2 (.slice Ac j ca) j (pairCells ns)) := ownBelowN HO4.out hb5
      have HB5 : Hid (Below w.heap.size w w5 ∧ w2.heap.size ≤ w5.heap.size) := ⟨HB4.out.1.trans (hb5.mono HB4.out.1.size), Nat.le_trans HB4.out.2 hb5.size⟩
      have HV1 := Lib.hid hv1
      clear hb5 HM4 HO4 HB4 CL hv1
      go_wp2_with fail
      refine (CT.out _ (HL0.out.later HB5.out.1)).mono ?_
      rintro e w6 ⟨⟨v2, rfl, hv2, _, _⟩, hb6⟩
      have HM6 : Hid (Bk w6 gm 24 #[.slice Ac j ca] ∧ Bk w6 w.heap.size 24 #[.slice none 0 0] ∧ WordsAt w6 g ps) := ⟨HM5.out.1.later hb6, HM5.out.2.1.later hb6, HM5.out.2.2.later hb6⟩
      have HO6 : Hid (w6.ownsRow w2.heap.size 99 2 (.slice Ac j ca) j (pairCells ns)) := ownBelowN HO5.out hb6
      have HB6 : Hid (Below w.heap.size w w6 ∧ w2.heap.size ≤ w6.heap.size) := ⟨HB5.out.1.trans (hb6.mono HB5.out.1.size), Nat.le_trans HB5.out.2 hb6.size⟩
      have HV2 := Lib.hid hv2
      have K6 := Lib.hid HM6.out.2.1
      clear hb6 HM5 HO5 HB5 CT hv2
      have hbad : pairO o1 o2 = none → allO nodeO ps = none := fun h => allO_bad nodeO ps j p HPJ.out (HNO.out.trans h)
      cases o1 with
      | none =>
        have HBAD := Lib.hid (hbad rfl)
        clear hbad
        have r0 : w6.cell? ⟨w.heap.size, 0, none⟩ = some (.slice none 0 0) := by rw [K6.out.cell]; rfl
        have f0 : w6.frozen? ⟨w.heap.size, 0, none⟩ = false := K6.out.frozen 0
        go_wp2
        refine bodyPost_ret (v := .tuple #[.agg #[.slice none 0 0], .bool false]) (by simp [results, Tryz.results106, go_sem, r0, f0]) rfl ?_
        exact mapNone (HB6.out.1.setCell (Nat.le_refl _) _) HBAD.out
      | some x =>
        cases o2 with
        | none =>
          have HBAD := Lib.hid (hbad rfl)
          clear hbad
          have r0 : w6.cell? ⟨w.heap.size, 0, none⟩ = some (.slice none 0 0) := by rw [K6.out.cell]; rfl
          have f0 : w6.frozen? ⟨w.heap.size, 0, none⟩ = false := K6.out.frozen 0
          go_wp2
          refine bodyPost_ret (v := .tuple #[.agg #[.slice none 0 0], .bool false]) (by simp [results, Tryz.results106, go_sem, r0, f0]) rfl ?_
          exact mapNone (HB6.out.1.setCell (Nat.le_refl _) _) HBAD.out
        | some y =>
          have hx1 : v1 = x := HV1.out rfl
          have hy1 : v2 = y := HV2.out rfl
          subst hx1; subst hy1
          have HK : Hid (allO nodeO (ps.take (j + 1)) = some (ns ++ [(v1, v2)]) ∧ (ns ++ [(v1, v2)]).length = j + 1) := ⟨allO_take nodeO ps j p ns (v1, v2) HPJ.out HN.out.1 HNO.out, by rw [List.length_append, HN.out.2]; rfl⟩
          have t0 : w6.cell? ⟨gm, 0, none⟩ = some (.slice Ac j ca) := by rw [HM6.out.1.cell]; rfl
          clear hbad HV1 HV2
          go_wp2_with (at_builtin; refine wpList_append_own _ rfl (.tmp 45) (.tmp 49) 22 rfl w2.heap.size 99 i0 _ 2 16 Tryz.underlying22 hi0 hz0 hz1 hz2 rfl (by decide) _ _ _ rfl (HO6.out.alloc _) ⟨w6.heap.size, 0, none⟩ 1 1 [.int .i64 v1, .int .i64 v2] rfl rfl (lit2N w6 v1 v2) (by simp [Value.oneCell']) (by unfold maxLen; omega) (by omega) (by have := HB6.out.2; simp; omega) ?_)
          intro v' w7 hown' hgrow _
          obtain ⟨g', cap', rfl⟩ := ownsRow_succ hown'
          obtain ⟨v', hv'⟩ : ∃ v, Value.slice (some ⟨g', 0, none⟩) (j + 1) cap' = v := ⟨_, rfl⟩
          rw [hv'] at hown'
          have HV' := Lib.hid hv'
          have hfar : ∀ z, z < w2.heap.size → (Value.slice Ac j ca).ownBlock ≠ some z := fun z hz e => by have := (HO6.out.lt z e).1; omega
          have hgmw : gm < w2.heap.size := by omega
          have hM7 : Bk w7 gm 24 #[.slice Ac j ca] := (HM6.out.1.alloc _).grown hgrow (fun e => hfar gm hgmw e.symm)
          have hK7 : Bk w7 w.heap.size 24 #[.slice none 0 0] := (HM6.out.2.1.alloc _).grown hgrow (fun e => hfar _ (by omega) e.symm)
          have hW7 : WordsAt w7 g ps := (HM6.out.2.2.later ((Below.refl _ _).alloc (Nat.le_refl _) _)).grown hgrow (hfar g hg2)
          have O7 : Hid (w7.ownsRow w2.heap.size 99 2 v' (j + 1) (pairCells (ns ++ [(v1, v2)]))) := by
            show World.ownsRow _ _ _ _ _ _ _
            rw [pairSnoc]
            exact hown'
          have B7 : Hid (Below w.heap.size w w7) := (HB6.out.1.alloc HB6.out.1.size _).grown hgrow (by have := HB6.out.1.size; simp; omega) (fun z e => by have h1 := (HO6.out.lt z e).1; have h2 := B2s.out; omega)
          have HM8 : Hid (Bk (w7.setCell ⟨gm, 0, none⟩ v') gm 24 #[v'] ∧ Bk (w7.setCell ⟨gm, 0, none⟩ v') w.heap.size 24 #[.slice none 0 0] ∧ WordsAt (w7.setCell ⟨gm, 0, none⟩ v') g ps) := ⟨hM7.set_ 0 v', hK7.far _ (by show w.heap.size ≠ gm; omega) _, hW7.far _ _ (by show g ≠ gm; omega)⟩
          have O8 : Hid ((w7.setCell ⟨gm, 0, none⟩ v').ownsRow w2.heap.size 99 2 v' (j + 1) (pairCells (ns ++ [(v1, v2)]))) := ownFarN O7.out ⟨gm, 0, none⟩ v' hgmw
          have B8 : Hid (Below w.heap.size w (w7.setCell ⟨gm, 0, none⟩ v') ∧ w2.heap.size ≤ (w7.setCell ⟨gm, 0, none⟩ v').heap.size) := ⟨B7.out.setCell (Nat.le_of_lt hgm0) _, by rw [World.size_setCell]; have h1 := hgrow.size; have h2 := HB6.out.2; simp at h1; omega⟩
          have t6 : w7.cell? ⟨gm, 0, none⟩ = some (.slice Ac j ca) := by rw [hM7.cell]; rfl
          have f6 : w7.frozen? ⟨gm, 0, none⟩ = false := hM7.frozen 0
          clear hown' hgrow hfar hM7 hK7 hW7 O7 B7 t0 HM6 HO6 HB6
          rw [← HV'.out] at HM8 O8 B8
          clear hv' HV'
          go_wp2
          go_roundw
          case rel => exact ⟨j + 1, ns ++ [(v1, v2)], _, by omega, by go_num, HK.out, HM8.out, O8.out, B8.out⟩
          case measure => simp [intOf]; omega
    · obtain rfl : q = j := by omega
      have hall : ps.take q = ps := List.take_of_length_le (by rw [HQ.out]; exact Nat.le_refl _)
      have HNO : Hid (allO nodeO ps = some ns) := by show _ = _; rw [← hall]; exact HN.out.1
      have K5 := Lib.hid HM.out.2.1
      have q0 : wr.cell? ⟨gm, 0, none⟩ = some (.slice Ac q ca) := by rw [HM.out.1.cell]; rfl
      have r0 : wr.cell? ⟨w.heap.size, 0, none⟩ = some (.slice none 0 0) := by rw [K5.out.cell]; rfl
      have f0 : wr.frozen? ⟨w.heap.size, 0, none⟩ = false := K5.out.frozen 0
      have hne : gm ≠ w.heap.size := by omega
      have hww2 : w.heap.size < w2.heap.size := by omega
      have HOS := Lib.hid (ownFarN HO.out ⟨w.heap.size, 0, none⟩ (.slice Ac q ca) hww2)
      have HNLL := Lib.hid (ownNilN HOS.out)
      have HRDN := Lib.hid (rdNown HOS.out HN.out.2)
      have HFA := Lib.hid (ownFrom HO.out)
      clear hall
      go_wp2
      refine bodyPost_ret (v := .tuple #[.agg #[.slice Ac q ca], .bool true]) (by simp [results, Tryz.results106, go_sem, r0, f0]) rfl ?_
      exact mapSome (HB.out.1.setCell (Nat.le_refl _) _) HNO.out HN.out.2 HRDN.out HNLL.out (fun a e => by have := HFA.out a e; omega)
end Go.Proofs.YtjjflbnopphciacGreatDoor

namespace Go.Proofs.YtjjflbnopphciacGreatDoor
open Go.RowKit

/-- What a map's words give: the nodes and the error. -/
def mapQ : Option (List (Int × Int)) → List (Int × Int) × Int
  | none => ([], 7)
  | some ns => if (mapR ns).2 = 0 then (ns, 0) else ([], (mapR ns).2)
def mapS (s : ByteArray) : List (Int × Int) × Int := if 60000 < s.size then ([], 8) else mapQ (allO nodeO (pcs 32 s.data.toList))
theorem mapQ_ok {ns : List (Int × Int)} (h : (mapR ns).2 = 0) : mapQ (some ns) = (ns, 0) := if_pos h
theorem mapQ_err {ns : List (Int × Int)} (h : (mapR ns).2 ≠ 0) : mapQ (some ns) = ([], (mapR ns).2) := if_neg h
/-- What both ParseMap answer. -/
def MapRes (w : World) (r : List (Int × Int) × Int) (e : Ending) (w' : World) : Prop :=
  (∃ A c, e = .returned (.tuple #[.agg #[.slice A r.1.length c], .int .i64 r.2]) ∧ RdN w' A r.1.length r.1 ∧ (A = none → r.1.length = 0 ∧ c = 0) ∧ (∀ a, A = some a → w.heap.size ≤ a.block)) ∧ Below w.heap.size w w'
theorem mapErr {w w' : World} {r : List (Int × Int) × Int} {E : Int} (hb : Below w.heap.size w w') (h : r = ([], E)) : MapRes w r (.returned (.tuple #[.agg #[.slice none 0 0], .int .i64 E])) w' := by
  subst h
  exact ⟨⟨none, 0, rfl, ⟨rfl, fun h => absurd h (by simp)⟩, (fun _ => ⟨rfl, rfl⟩), fun a e => (by cases e)⟩, hb⟩
theorem mapOk {w w' : World} {r : List (Int × Int) × Int} {A : Option Addr} {m c : Nat} {ns : List (Int × Int)} (hb : Below w.heap.size w w') (h : r = (ns, 0)) (hl : ns.length = m) (hr : RdN w' A m ns) (hA : A = none → m = 0 ∧ c = 0) (hF : ∀ a, A = some a → w.heap.size ≤ a.block) : MapRes w r (.returned (.tuple #[.agg #[.slice A m c], .int .i64 0])) w' := by
  subst h; subst hl
  exact ⟨⟨A, c, rfl, hr, hA, hF⟩, hb⟩
theorem rdnFar {w : World} {A : Option Addr} {n : Nat} {xs : List (Int × Int)} (h : RdN w A n xs) (p : Addr) (u : Value) (hp : ∀ a, A = some a → 0 < n → a.block ≠ p.block) : RdN (w.setCell p u) A n xs := by
  refine ⟨h.1, fun hn => ?_⟩
  obtain ⟨g, e, hlt, hc⟩ := h.2 hn
  have hg := hp _ e hn
  refine ⟨g, e, by rw [World.size_setCell]; exact hlt, fun j hj => ?_⟩
  have hb : ∀ i, (w.setCell p u).cell? ⟨g, i, none⟩ = w.cell? ⟨g, i, none⟩ := fun i => World.cell?_of_block (heap_setCell_other w p g u hg)
  rw [hb, hb]
  exact hc j hj

set_option maxRecDepth 100000 in
set_option maxHeartbeats 8000000 in
theorem parseMap_any (s : ByteArray) (w : World) (hl : LaidG w) (hs : s.size ≤ 1000000) :
    Calls Tryz.prog 91 #[.string s] w (MapRes w (mapS s)) := by
  obtain ⟨w1, hw1⟩ : ∃ W, w.alloc (.cells #[.slice none 0 0] 24) = W := ⟨_, rfl⟩
  have B1 : Hid (Below w.heap.size w w1) := by show Below _ _ _; rw [← hw1]; exact (Below.refl _ _).alloc (Nat.le_refl _) _
  have K1 : Hid (Bk w1 w.heap.size 24 #[.slice none 0 0]) := by show Bk _ _ _ _; rw [← hw1]; exact Bk.new _ _ _
  by_cases hbig : 60000 < s.size
  · have HR : Hid (mapS s = ([], 8)) := if_pos hbig
    have hI : (60000 : Int) < (s.size : Int) := by omega
    clear hl hbig hs
    go_enter Tryz.func91, Tryz.ntmps91
    go_upto_region 1 with (fail)
    try rw [hw1]
    clear hw1
    have r0 : w1.cell? ⟨w.heap.size, 0, none⟩ = some (.slice none 0 0) := by rw [K1.out.cell]; rfl
    have f0 : w1.frozen? ⟨w.heap.size, 0, none⟩ = false := K1.out.frozen 0
    go_wp2
    refine bodyPost_ret (v := .tuple #[.agg #[.slice none 0 0], .int .i64 8]) (by simp [results, Tryz.results91, go_sem, r0, f0]) rfl ?_
    exact mapErr (B1.out.setCell (Nat.le_refl _) _) HR.out
  · have CF := Lib.hid (mapIn_any s w1 (hl.later B1.out) (by omega) _ rfl)
    have hI : ¬ (60000 : Int) < (s.size : Int) := by omega
    have HS : Hid (mapS s = mapQ (allO nodeO (pcs 32 s.data.toList))) := if_neg hbig
    have hlen : ∀ ns, allO nodeO (pcs 32 s.data.toList) = some ns → ns.length ≤ 60001 := by
      intro ns h
      have h1 := allO_len nodeO _ _ h
      have h4 := pcs_len_le 32 s.data.toList
      have h5 : s.data.toList.length = s.size := by simp
      omega
    have HW1 := Lib.hid hw1
    have hbase : w.heap.size < w1.heap.size := K1.out.lt
    clear hw1 hl hbig
    cases ho : allO nodeO (pcs 32 s.data.toList) with
    | none =>
      rw [ho] at CF
      have HR : Hid (mapS s = ([], 7)) := by show _ = _; rw [HS.out, ho]; rfl
      clear ho hlen
      go_enter Tryz.func91, Tryz.ntmps91
      go_wp2_with fail
      rw [show w.alloc (.cells #[.slice none 0 0] 24) = w1 from HW1.out]
      refine CF.out.mono ?_
      rintro e w2 ⟨⟨A, c, rfl, _, _, _⟩, hb⟩
      have B2 := Lib.hid (B1.out.trans (hb.mono B1.out.size))
      have K2 : Hid (Bk w2 w.heap.size 24 #[.slice none 0 0]) := K1.out.later hb
      clear hb K1 B1 CF
      obtain ⟨w3, hw3⟩ : ∃ W, w2.alloc (.cells #[.slice A 0 c] 24) = W := ⟨_, rfl⟩
      have B3 : Hid (Below w.heap.size w w3) := by show Below _ _ _; rw [← hw3]; exact B2.out.alloc B2.out.size _
      have K3 : Hid (Bk w3 w.heap.size 24 #[.slice none 0 0]) := by show Bk _ _ _ _; rw [← hw3]; exact K2.out.alloc _
      have F3 : Hid (Bk w3 w2.heap.size 24 #[.slice A 0 c]) := by show Bk _ _ _ _; rw [← hw3]; exact Bk.new _ _ _
      have hne : w.heap.size < w2.heap.size := K2.out.lt
      have HW3 := Lib.hid hw3
      obtain ⟨gf, hgf⟩ : ∃ g, w2.heap.size = g := ⟨_, rfl⟩
      rw [hgf] at F3 hne
      have HGF := Lib.hid hgf
      clear hw3 hgf K2 B2
      go_upto_region 4 with (fail)
      rw [show w2.alloc (.cells #[.slice A 0 c] 24) = w3 from HW3.out, HGF.out]
      have r0 : w3.cell? ⟨w.heap.size, 0, none⟩ = some (.slice none 0 0) := by rw [K3.out.cell]; rfl
      have f0 : w3.frozen? ⟨w.heap.size, 0, none⟩ = false := K3.out.frozen 0
      go_wp2
      refine bodyPost_ret (v := .tuple #[.agg #[.slice none 0 0], .int .i64 7]) (by simp [results, Tryz.results91, go_sem, r0, f0]) rfl ?_
      exact mapErr (B3.out.setCell (Nat.le_refl _) _) HR.out
    | some ns =>
      rw [ho] at CF
      have hcl := hlen ns ho
      obtain ⟨m, hm⟩ : ∃ m, ns.length = m := ⟨_, rfl⟩
      have HM := Lib.hid hm
      have HSS : Hid (mapS s = mapQ (some ns)) := by show _ = _; rw [HS.out, ho]
      obtain ⟨E, hE⟩ : ∃ E, (mapR ns).2 = E := ⟨_, rfl⟩
      have HE := Lib.hid hE
      rw [hm] at hcl
      clear ho hlen hm hE
      go_enter Tryz.func91, Tryz.ntmps91
      go_wp2_with fail
      rw [show w.alloc (.cells #[.slice none 0 0] 24) = w1 from HW1.out]
      refine CF.out.mono ?_
      rintro e w2 ⟨⟨A, c, rfl, hrd, hA, hfa⟩, hb⟩
      rw [show (Option.getD (some ns) []).length = m from HM.out] at hrd hA ⊢
      have B2 := Lib.hid (B1.out.trans (hb.mono B1.out.size))
      have K2 : Hid (Bk w2 w.heap.size 24 #[.slice none 0 0]) := K1.out.later hb
      have hrd' : RdN w2 A m ns := hrd
      have hfar : ∀ a, A = some a → 0 < m → a.block ≠ w.heap.size := fun a e _ => by have := hfa a e; omega
      have HFB : Hid (∀ a, A = some a → w.heap.size ≤ a.block) := fun a e => by have := hfa a e; omega
      have HA := Lib.hid hA
      clear hb K1 B1 CF hrd hA hfa
      obtain ⟨w3, hw3⟩ : ∃ W, w2.alloc (.cells #[.slice A m c] 24) = W := ⟨_, rfl⟩
      have B3 : Hid (Below w.heap.size w w3) := by show Below _ _ _; rw [← hw3]; exact B2.out.alloc B2.out.size _
      have K3 : Hid (Bk w3 w.heap.size 24 #[.slice none 0 0]) := by show Bk _ _ _ _; rw [← hw3]; exact K2.out.alloc _
      have F3 : Hid (Bk w3 w2.heap.size 24 #[.slice A m c]) := by show Bk _ _ _ _; rw [← hw3]; exact Bk.new _ _ _
      have hne : w.heap.size < w2.heap.size := K2.out.lt
      have HW3 := Lib.hid hw3
      obtain ⟨gf, hgf⟩ : ∃ g, w2.heap.size = g := ⟨_, rfl⟩
      rw [hgf] at F3 hne
      have HGF := Lib.hid hgf
      have R3 : Hid (RdN w3 A m ns) := by show RdN _ _ _ _; rw [← hw3]; exact hrd'.below ((Below.refl _ _).alloc (Nat.le_refl _) _)
      have HF := Lib.hid hfar
      clear hw3 hgf K2 B2 hrd' hfar
      go_upto_region 4 with (fail)
      rw [show w2.alloc (.cells #[.slice A m c] 24) = w3 from HW3.out, HGF.out]
      have CC := Lib.hid (checkMap_any A m c ns w3 R3.out (by omega))
      rw [HE.out] at CC
      have q0 : w3.cell? ⟨gf, 0, none⟩ = some (.slice A m c) := by rw [F3.out.cell]; rfl
      go_wp2_with fail
      refine CC.out.mono ?_
      rintro e w4 ⟨rfl, hb4⟩
      have B4 := Lib.hid (B3.out.trans (hb4.mono B3.out.size))
      have K4 : Hid (Bk w4 w.heap.size 24 #[.slice none 0 0]) := K3.out.later hb4
      have F4 : Hid (Bk w4 gf 24 #[.slice A m c]) := F3.out.later hb4
      have R4 := Lib.hid (R3.out.below hb4)
      clear hb4 q0 B3 K3 F3 R3 CC
      have r0 : w4.cell? ⟨w.heap.size, 0, none⟩ = some (.slice none 0 0) := by rw [K4.out.cell]; rfl
      have f0 : w4.frozen? ⟨w.heap.size, 0, none⟩ = false := K4.out.frozen 0
      by_cases h0 : E = 0
      · have HR : Hid (mapS s = (ns, 0)) := by show _ = _; rw [HSS.out]; exact mapQ_ok (HE.out.trans h0)
        subst h0
        have q0 : w4.cell? ⟨gf, 0, none⟩ = some (.slice A m c) := by rw [F4.out.cell]; rfl
        go_wp2
        refine bodyPost_ret (v := .tuple #[.agg #[.slice A m c], .int .i64 0]) (by simp [results, Tryz.results91, go_sem, r0, f0]) rfl ?_
        exact mapOk (B4.out.setCell (Nat.le_refl _) _) HR.out HM.out (rdnFar R4.out ⟨w.heap.size, 0, none⟩ _ HF.out) HA.out HFB.out
      · have HR : Hid (mapS s = ([], E)) := by show _ = _; rw [HSS.out, mapQ_err (by rw [HE.out]; exact h0), HE.out]
        have hEn : (E != 0) = true := by simpa using h0
        clear h0
        go_wp2
        refine bodyPost_ret (v := .tuple #[.agg #[.slice none 0 0], .int .i64 E]) (by simp [results, Tryz.results91, go_sem, r0, f0]) rfl ?_
        exact mapErr (B4.out.setCell (Nat.le_refl _) _) HR.out
end Go.Proofs.YtjjflbnopphciacGreatDoor

namespace Go.Proofs.YtjjflbnopphciacGreatDoor
open Go.RowKit

theorem nodeP_two {l : List (List UInt8)} (h : l.length = 2) : ∃ a b, l = [a, b] := by
  match l, h with
  | [a, b], _ => exact ⟨a, b, rfl⟩
theorem nodeP_not {l : List (List UInt8)} (h : l.length ≠ 2) : nodeP l = none := by
  match l, h with
  | [], _ => rfl
  | [_], _ => rfl
  | [_, _], h => exact absurd rfl h
  | _ :: _ :: _ :: _, _ => rfl
theorem RdN.toP {w : World} {A : Option Addr} {n : Nat} {ns : List (Int × Int)} (h : RdN w A n ns) : RdP w A n ns := by
  refine ⟨h.1, fun hn => ?_⟩
  obtain ⟨g, e, hg, hc⟩ := h.2 hn
  refine ⟨⟨g, 0, none⟩, e, hg, fun j hj => ?_⟩
  rw [addOff, show (⟨g, j * 2, none⟩ : Addr).add 1 = ⟨g, j * 2 + 1, none⟩ from rfl]
  exact hc j hj

set_option maxRecDepth 100000 in
set_option maxHeartbeats 16000000 in
theorem refParseMap_in (s : ByteArray) (w : World) (hs : s.size ≤ 60000) (ps : List (List UInt8)) (hps : pcs 32 s.data.toList = ps) :
    Calls Tryz.prog 39 #[.string s] w (MapRes w (mapQ (allO nodeO ps))) := by
  obtain ⟨i0, hi0, hz0, hz1, hz2⟩ := info_parts nodInfo
  obtain ⟨w1, hw1⟩ : ∃ W, (w.alloc (.cells #[.slice none 0 0] 24)).alloc (.cells #[.slice none 0 0] 24) = W := ⟨_, rfl⟩
  have B1 : Hid (Below w.heap.size w w1) := by show Below _ _ _; rw [← hw1]; exact ((Below.refl _ _).alloc (Nat.le_refl _) _).alloc (by simp) _
  have K1 : Hid (Bk w1 w.heap.size 24 #[.slice none 0 0]) := by show Bk _ _ _ _; rw [← hw1]; exact (Bk.new w _ _).alloc _
  have M1 : Hid (Bk w1 (w.heap.size + 1) 24 #[.slice none 0 0]) := by show Bk _ _ _ _; rw [← hw1]; simpa using Bk.new (w.alloc (.cells #[.slice none 0 0] 24)) 24 #[.slice none 0 0]
  obtain ⟨q, hq⟩ : ∃ q, ps.length = q := ⟨_, rfl⟩
  have C1 := Lib.hid (cut_form s 32 32 rfl w1 (by omega) ps q hps hq)
  have hlen : s.data.toList.length = s.size := by simp
  have hn1 : q ≤ 60001 := by
    have := pcs_len_le 32 s.data.toList
    rw [hps, hq] at this; omega
  have HSZ : Hid (∀ p ∈ ps, p.length ≤ 60000) := fun p hp => by
    have := pcs_sum 32 s.data.toList p (by rw [hps]; exact hp)
    omega
  have HQ := Lib.hid hq
  have HW1 := Lib.hid hw1
  have hI : ¬ (60000 : Int) < (s.size : Int) := by omega
  clear hps hlen hw1 hq
  go_enter Tryz.func39, Tryz.ntmps39
  go_wp2_with fail
  rw [show (w.alloc (.cells #[.slice none 0 0] 24)).alloc (.cells #[.slice none 0 0] 24) = w1 from HW1.out]
  refine C1.out.mono ?_
  rintro e w2 ⟨g, cp, rfl, hg1', hg2, hc, hb2⟩
  have HC : Hid (WordsAt w2 g ps) := ⟨hg2, hc⟩
  have B2 := Lib.hid (B1.out.trans (hb2.mono B1.out.size))
  have K2 : Hid (Bk w2 w.heap.size 24 #[.slice none 0 0]) := K1.out.later hb2
  have M2 : Hid (Bk w2 (w.heap.size + 1) 24 #[.slice none 0 0]) := M1.out.later hb2
  have hg1 : w.heap.size + 1 < g := Nat.lt_of_lt_of_le M1.out.lt hg1'
  obtain ⟨gm, hgm⟩ : ∃ g, w.heap.size + 1 = g := ⟨_, rfl⟩
  rw [hgm] at M2 hg1 ⊢
  have hgm0 : w.heap.size < gm := by omega
  have B2s := Lib.hid B2.out.size
  clear hc hb2 B1 K1 M1 HW1 C1 hgm hg1'
  go_wp2
  go_loopw [6] (fun i wr => ∃ (j : Nat) (ns : List (Int × Int)) (p : Value), j ≤ q ∧ i = .int .i64 (j : Int) ∧ Hid (allO nodeO (ps.take j) = some ns ∧ ns.length = j) ∧ Hid (Bk wr gm 24 #[p] ∧ Bk wr w.heap.size 24 #[.slice none 0 0] ∧ WordsAt wr g ps) ∧ Hid (wr.ownsRow w2.heap.size 99 2 p j (pairCells ns)) ∧ Hid (Below w.heap.size w wr ∧ w2.heap.size ≤ wr.heap.size)) (fun i _ => q - (intOf i).toNat)
  case atStart => exact ⟨0, [], _, Nat.zero_le _, rfl, ⟨rfl, rfl⟩, ⟨M2.out, K2.out, HC.out⟩, World.ownsRow_nil _ _ _ _, B2.out, Nat.le_refl _⟩
  case round =>
    clear M2 K2 HC B2
    obtain ⟨j, ns, pv, hj, rfl, HN, HM, HO, HB⟩ := hrel
    have hsz := HB.out.2
    have hszr : g < wr.heap.size := HM.out.2.2.1
    obtain ⟨Ac, ca, rfl, _⟩ := own_formT HO.out
    by_cases hlt : j < q
    · obtain ⟨p, hp⟩ : ∃ p, ps[j]? = some p := ⟨_, List.getElem?_eq_getElem (by rw [HQ.out]; exact hlt)⟩
      obtain ⟨P, hP⟩ : ∃ P : ByteArray, (⟨p.toArray⟩ : ByteArray) = P := ⟨_, rfl⟩
      have hcj : wr.cell? ⟨g, j, none⟩ = some (.string P) := by rw [HM.out.2.2.2 j p hp, ← hP]; rfl
      have hPl : P.data.toList = p := by rw [← hP]
      have hpz : p.length ≤ 60000 := HSZ.out p (List.mem_of_getElem? hp)
      have hPz : P.size ≤ 60000 := by rw [← hP, bytes_size]; exact hpz
      obtain ⟨cs2, hcs⟩ : ∃ l, pcs 64 p = l := ⟨_, rfl⟩
      obtain ⟨m, hm⟩ : ∃ m, cs2.length = m := ⟨_, rfl⟩
      have CC := Lib.hid (cut_form P 64 64 rfl wr (by omega) cs2 m (by rw [hPl, hcs]) hm)
      have HCS := Lib.hid hcs
      have HM2 := Lib.hid hm
      have hsum := pcs_sum 64 p
      rw [hcs] at hsum
      have HSUM : Hid (∀ x ∈ cs2, x.length ≤ 60000) := fun x hx => by have := hsum x hx; omega
      have HPJ := Lib.hid hp
      have hltI : (j : Int) < (q : Int) := by omega
      clear hp hP hPl hPz hpz hcs hm hsum
      go_wp2_with fail
      refine CC.out.mono ?_
      rintro e w4 ⟨gp, cpp, rfl, hgp1, hgp2, hcc, hb4⟩
      have HW4 : Hid (WordsAt w4 gp cs2) := ⟨hgp2, hcc⟩
      have HM4 : Hid (Bk w4 gm 24 #[.slice Ac j ca] ∧ Bk w4 w.heap.size 24 #[.slice none 0 0] ∧ WordsAt w4 g ps) := ⟨HM.out.1.later hb4, HM.out.2.1.later hb4, HM.out.2.2.later hb4⟩
      have HO4 : Hid (w4.ownsRow w2.heap.size 99 2 (.slice Ac j ca) j (pairCells ns)) := ownBelowN HO.out hb4
      have HB4 : Hid (Below w.heap.size w w4 ∧ w2.heap.size ≤ w4.heap.size) := ⟨HB.out.1.trans (hb4.mono HB.out.1.size), Nat.le_trans hsz hb4.size⟩
      clear hb4 HM HO HB CC hcj hsz hcc hgp1 hgp2
      by_cases hm2 : m = 2
      · obtain ⟨x0, x1, hxx⟩ := nodeP_two (HM2.out.trans hm2)
        subst hm2
        subst hxx
        obtain ⟨X, hX⟩ : ∃ X : ByteArray, (⟨x0.toArray⟩ : ByteArray) = X := ⟨_, rfl⟩
        obtain ⟨Y, hY⟩ : ∃ X : ByteArray, (⟨x1.toArray⟩ : ByteArray) = X := ⟨_, rfl⟩
        have hXl : X.data.toList = x0 := by rw [← hX]
        have hYl : Y.data.toList = x1 := by rw [← hY]
        have hXz : X.size ≤ 60000 := by rw [← hX, bytes_size]; exact HSUM.out x0 (by simp)
        have hYz : Y.size ≤ 60000 := by rw [← hY, bytes_size]; exact HSUM.out x1 (by simp)
        have CL := Lib.hid (fun W => refNum3_any X 7 W (by omega) (by omega) (by omega))
        have CT := Lib.hid (fun W => refNum3_any Y 13 W (by omega) (by omega) (by omega))
        have k0 : w4.cell? ⟨gp, 0, none⟩ = some (.string X) := by rw [HW4.out.2 0 x0 rfl, ← hX]; rfl
        have HY := Lib.hid hY
        obtain ⟨o1, ho1⟩ : ∃ o, numU X.data.toList 7 = o := ⟨_, rfl⟩
        obtain ⟨o2, ho2⟩ : ∃ o, numU Y.data.toList 13 = o := ⟨_, rfl⟩
        have HNO : Hid (nodeO p = pairO o1 o2) := by show _ = _; unfold nodeO; rw [HCS.out, ← ho1, ← ho2, hXl, hYl]; rfl
        rw [ho1] at CL
        rw [ho2] at CT
        clear hX hY hXl hYl hXz hYz ho1 ho2
        go_wp2_with fail
        refine (CL.out _).mono ?_
        rintro e w5 ⟨⟨v1, rfl, hv1⟩, hb5⟩
        have HM5 : Hid (Bk w5 gm 24 #[.slice Ac j ca] ∧ Bk w5 w.heap.size 24 #[.slice none 0 0] ∧ WordsAt w5 g ps) := ⟨HM4.out.1.later hb5, HM4.out.2.1.later hb5, HM4.out.2.2.later hb5⟩
        have HO5 : Hid (w5.ownsRow w2.heap.size 99 2 (.slice Ac j ca) j (pairCells ns)) := ownBelowN HO4.out hb5
        have HB5 : Hid (Below w.heap.size w w5 ∧ w2.heap.size ≤ w5.heap.size) := ⟨HB4.out.1.trans (hb5.mono HB4.out.1.size), Nat.le_trans HB4.out.2 hb5.size⟩
        have HW5 := Lib.hid (HW4.out.later hb5)
        have HV1 := Lib.hid hv1
        have k1 : w5.cell? ⟨gp, 1, none⟩ = some (.string Y) := by rw [HW5.out.2 1 x1 rfl, ← HY.out]; rfl
        clear hb5 HM4 HO4 HB4 CL hv1 k0 HW4
        go_wp2_with fail
        refine (CT.out _).mono ?_
        rintro e w6 ⟨⟨v2, rfl, hv2⟩, hb6⟩
        have HM6 : Hid (Bk w6 gm 24 #[.slice Ac j ca] ∧ Bk w6 w.heap.size 24 #[.slice none 0 0] ∧ WordsAt w6 g ps) := ⟨HM5.out.1.later hb6, HM5.out.2.1.later hb6, HM5.out.2.2.later hb6⟩
        have HO6 : Hid (w6.ownsRow w2.heap.size 99 2 (.slice Ac j ca) j (pairCells ns)) := ownBelowN HO5.out hb6
        have HB6 : Hid (Below w.heap.size w w6 ∧ w2.heap.size ≤ w6.heap.size) := ⟨HB5.out.1.trans (hb6.mono HB5.out.1.size), Nat.le_trans HB5.out.2 hb6.size⟩
        have HV2 := Lib.hid hv2
        have K6 := Lib.hid HM6.out.2.1
        clear hb6 HM5 HO5 HB5 CT hv2 k1 HW5
        have hbad : pairO o1 o2 = none → mapQ (allO nodeO ps) = ([], 7) := fun h => by rw [allO_bad nodeO ps j p HPJ.out (HNO.out.trans h)]; rfl
        cases o1 with
        | none =>
          have HBAD := Lib.hid (hbad rfl)
          clear hbad
          have r0 : w6.cell? ⟨w.heap.size, 0, none⟩ = some (.slice none 0 0) := by rw [K6.out.cell]; rfl
          have f0 : w6.frozen? ⟨w.heap.size, 0, none⟩ = false := K6.out.frozen 0
          go_wp2
          refine bodyPost_ret (v := .tuple #[.agg #[.slice none 0 0], .int .i64 7]) (by simp [results, Tryz.results39, go_sem, r0, f0]) rfl ?_
          exact mapErr (HB6.out.1.setCell (Nat.le_refl _) _) HBAD.out
        | some x =>
          cases o2 with
          | none =>
            have HBAD := Lib.hid (hbad rfl)
            clear hbad
            have r0 : w6.cell? ⟨w.heap.size, 0, none⟩ = some (.slice none 0 0) := by rw [K6.out.cell]; rfl
            have f0 : w6.frozen? ⟨w.heap.size, 0, none⟩ = false := K6.out.frozen 0
            go_wp2
            refine bodyPost_ret (v := .tuple #[.agg #[.slice none 0 0], .int .i64 7]) (by simp [results, Tryz.results39, go_sem, r0, f0]) rfl ?_
            exact mapErr (HB6.out.1.setCell (Nat.le_refl _) _) HBAD.out
          | some y =>
            have hx1 : v1 = x := HV1.out rfl
            have hy1 : v2 = y := HV2.out rfl
            subst hx1; subst hy1
            have HK : Hid (allO nodeO (ps.take (j + 1)) = some (ns ++ [(v1, v2)]) ∧ (ns ++ [(v1, v2)]).length = j + 1) := ⟨allO_take nodeO ps j p ns (v1, v2) HPJ.out HN.out.1 HNO.out, by rw [List.length_append, HN.out.2]; rfl⟩
            have t0 : w6.cell? ⟨gm, 0, none⟩ = some (.slice Ac j ca) := by rw [HM6.out.1.cell]; rfl
            clear hbad HV1 HV2
            go_wp2_with (at_builtin; refine wpList_append_own _ rfl (.tmp 56) (.tmp 60) 22 rfl w2.heap.size 99 i0 _ 2 16 Tryz.underlying22 hi0 hz0 hz1 hz2 rfl (by decide) _ _ _ rfl (HO6.out.alloc _) ⟨w6.heap.size, 0, none⟩ 1 1 [.int .i64 v1, .int .i64 v2] rfl rfl (lit2N w6 v1 v2) (by simp [Value.oneCell']) (by unfold maxLen; omega) (by omega) (by have := HB6.out.2; simp; omega) ?_)
            intro v' w7 hown' hgrow _
            obtain ⟨g', cap', rfl⟩ := ownsRow_succ hown'
            obtain ⟨v', hv'⟩ : ∃ v, Value.slice (some ⟨g', 0, none⟩) (j + 1) cap' = v := ⟨_, rfl⟩
            rw [hv'] at hown'
            have HV' := Lib.hid hv'
            have hfar : ∀ z, z < w2.heap.size → (Value.slice Ac j ca).ownBlock ≠ some z := fun z hz e => by have := (HO6.out.lt z e).1; omega
            have hgmw : gm < w2.heap.size := by omega
            have hM7 : Bk w7 gm 24 #[.slice Ac j ca] := (HM6.out.1.alloc _).grown hgrow (fun e => hfar gm hgmw e.symm)
            have hK7 : Bk w7 w.heap.size 24 #[.slice none 0 0] := (HM6.out.2.1.alloc _).grown hgrow (fun e => hfar _ (by omega) e.symm)
            have hW7 : WordsAt w7 g ps := (HM6.out.2.2.later ((Below.refl _ _).alloc (Nat.le_refl _) _)).grown hgrow (hfar g hg2)
            have O7 : Hid (w7.ownsRow w2.heap.size 99 2 v' (j + 1) (pairCells (ns ++ [(v1, v2)]))) := by
              show World.ownsRow _ _ _ _ _ _ _
              rw [pairSnoc]
              exact hown'
            have B7 : Hid (Below w.heap.size w w7) := (HB6.out.1.alloc HB6.out.1.size _).grown hgrow (by have := HB6.out.1.size; simp; omega) (fun z e => by have h1 := (HO6.out.lt z e).1; have h2 := B2s.out; omega)
            have HM8 : Hid (Bk (w7.setCell ⟨gm, 0, none⟩ v') gm 24 #[v'] ∧ Bk (w7.setCell ⟨gm, 0, none⟩ v') w.heap.size 24 #[.slice none 0 0] ∧ WordsAt (w7.setCell ⟨gm, 0, none⟩ v') g ps) := ⟨hM7.set_ 0 v', hK7.far _ (by show w.heap.size ≠ gm; omega) _, hW7.far _ _ (by show g ≠ gm; omega)⟩
            have O8 : Hid ((w7.setCell ⟨gm, 0, none⟩ v').ownsRow w2.heap.size 99 2 v' (j + 1) (pairCells (ns ++ [(v1, v2)]))) := ownFarN O7.out ⟨gm, 0, none⟩ v' hgmw
            have B8 : Hid (Below w.heap.size w (w7.setCell ⟨gm, 0, none⟩ v') ∧ w2.heap.size ≤ (w7.setCell ⟨gm, 0, none⟩ v').heap.size) := ⟨B7.out.setCell (Nat.le_of_lt hgm0) _, by rw [World.size_setCell]; have h1 := hgrow.size; have h2 := HB6.out.2; simp at h1; omega⟩
            have t6 : w7.cell? ⟨gm, 0, none⟩ = some (.slice Ac j ca) := by rw [hM7.cell]; rfl
            have f6 : w7.frozen? ⟨gm, 0, none⟩ = false := hM7.frozen 0
            clear hown' hgrow hfar hM7 hK7 hW7 O7 B7 t0 HM6 HO6 HB6
            rw [← HV'.out] at HM8 O8 B8
            clear hv' HV'
            go_wp2
            go_roundw
            case rel => exact ⟨j + 1, ns ++ [(v1, v2)], _, by omega, by go_num, HK.out, HM8.out, O8.out, B8.out⟩
            case measure => simp [intOf]; omega
      · have HBAD : Hid (mapQ (allO nodeO ps) = ([], 7)) := by
          show _ = _
          rw [allO_bad nodeO ps j p HPJ.out (by unfold nodeO; rw [HCS.out]; exact nodeP_not (by rw [HM2.out]; exact hm2))]
          rfl
        have hmI : ((m : Int) != 2) = true := by rw [bne_iff_ne]; omega
        have K6 := Lib.hid HM4.out.2.1
        clear hm2
        have r0 : w4.cell? ⟨w.heap.size, 0, none⟩ = some (.slice none 0 0) := by rw [K6.out.cell]; rfl
        have f0 : w4.frozen? ⟨w.heap.size, 0, none⟩ = false := K6.out.frozen 0
        go_wp2
        refine bodyPost_ret (v := .tuple #[.agg #[.slice none 0 0], .int .i64 7]) (by simp [results, Tryz.results39, go_sem, r0, f0]) rfl ?_
        exact mapErr (HB4.out.1.setCell (Nat.le_refl _) _) HBAD.out
    · obtain rfl : q = j := by omega
      have hall : ps.take q = ps := List.take_of_length_le (by rw [HQ.out]; exact Nat.le_refl _)
      have HNO : Hid (allO nodeO ps = some ns) := by show _ = _; rw [← hall]; exact HN.out.1
      have HNLL := Lib.hid (ownNilN HO.out)
      have HRDN := Lib.hid (rdNown HO.out HN.out.2)
      have HFA := Lib.hid (ownFrom HO.out)
      obtain ⟨E, hE⟩ : ∃ E, (mapR ns).2 = E := ⟨_, rfl⟩
      have HE := Lib.hid hE
      have CC := Lib.hid (refMapErr_any Ac q ca ns wr HRDN.out.toP (by omega))
      rw [hE] at CC
      have q0 : wr.cell? ⟨gm, 0, none⟩ = some (.slice Ac q ca) := by rw [HM.out.1.cell]; rfl
      clear hall hE
      go_wp2_with fail
      refine CC.out.mono ?_
      rintro e w4 ⟨rfl, hb4⟩
      have B4 := Lib.hid (HB.out.1.trans (hb4.mono HB.out.1.size))
      have K4 : Hid (Bk w4 w.heap.size 24 #[.slice none 0 0]) := HM.out.2.1.later hb4
      have F4 : Hid (Bk w4 gm 24 #[.slice Ac q ca]) := HM.out.1.later hb4
      have R4 := Lib.hid (HRDN.out.below hb4)
      have hww2 : w.heap.size < w2.heap.size := by omega
      clear hb4 q0 HB HM HRDN CC HO
      have r0 : w4.cell? ⟨w.heap.size, 0, none⟩ = some (.slice none 0 0) := by rw [K4.out.cell]; rfl
      have f0 : w4.frozen? ⟨w.heap.size, 0, none⟩ = false := K4.out.frozen 0
      by_cases h0 : E = 0
      · have HR : Hid (mapQ (allO nodeO ps) = (ns, 0)) := by show _ = _; rw [HNO.out]; exact mapQ_ok (HE.out.trans h0)
        subst h0
        have q0 : w4.cell? ⟨gm, 0, none⟩ = some (.slice Ac q ca) := by rw [F4.out.cell]; rfl
        go_wp2
        refine bodyPost_ret (v := .tuple #[.agg #[.slice Ac q ca], .int .i64 0]) (by simp [results, Tryz.results39, go_sem, r0, f0]) rfl ?_
        exact mapOk (B4.out.setCell (Nat.le_refl _) _) HR.out HN.out.2 (rdnFar R4.out ⟨w.heap.size, 0, none⟩ _ (fun a e _ => by have := HFA.out a e; show a.block ≠ w.heap.size; omega)) HNLL.out (fun a e => by have := HFA.out a e; omega)
      · have HR : Hid (mapQ (allO nodeO ps) = ([], E)) := by show _ = _; rw [HNO.out, mapQ_err (by rw [HE.out]; exact h0), HE.out]
        have hEn : (E != 0) = true := by simpa using h0
        clear h0
        go_wp2
        refine bodyPost_ret (v := .tuple #[.agg #[.slice none 0 0], .int .i64 E]) (by simp [results, Tryz.results39, go_sem, r0, f0]) rfl ?_
        exact mapErr (B4.out.setCell (Nat.le_refl _) _) HR.out

set_option maxRecDepth 100000 in
set_option maxHeartbeats 4000000 in
theorem refParseMap_any (s : ByteArray) (w : World) (hs : s.size ≤ 1000000) :
    Calls Tryz.prog 39 #[.string s] w (MapRes w (mapS s)) := by
  by_cases hbig : 60000 < s.size
  · have HR : Hid (mapS s = ([], 8)) := if_pos hbig
    have hI : (60000 : Int) < (s.size : Int) := by omega
    obtain ⟨w1, hw1⟩ : ∃ W, w.alloc (.cells #[.slice none 0 0] 24) = W := ⟨_, rfl⟩
    have B1 : Hid (Below w.heap.size w w1) := by show Below _ _ _; rw [← hw1]; exact (Below.refl _ _).alloc (Nat.le_refl _) _
    have K1 : Hid (Bk w1 w.heap.size 24 #[.slice none 0 0]) := by show Bk _ _ _ _; rw [← hw1]; exact Bk.new _ _ _
    clear hbig hs
    go_enter Tryz.func39, Tryz.ntmps39
    go_upto_region 1 with (fail)
    try rw [hw1]
    clear hw1
    have r0 : w1.cell? ⟨w.heap.size, 0, none⟩ = some (.slice none 0 0) := by rw [K1.out.cell]; rfl
    have f0 : w1.frozen? ⟨w.heap.size, 0, none⟩ = false := K1.out.frozen 0
    go_wp2
    refine bodyPost_ret (v := .tuple #[.agg #[.slice none 0 0], .int .i64 8]) (by simp [results, Tryz.results39, go_sem, r0, f0]) rfl ?_
    exact mapErr (B1.out.setCell (Nat.le_refl _) _) HR.out
  · have e : mapS s = mapQ (allO nodeO (pcs 32 s.data.toList)) := if_neg hbig
    rw [e]
    exact refParseMap_in s w (by omega) _ rfl
end Go.Proofs.YtjjflbnopphciacGreatDoor

namespace Go.Proofs.YtjjflbnopphciacGreatDoor
open Go.RowKit

/-- A node as text. -/
def nodeT (p : Int × Int) : List UInt8 := Lib.itoa p.1 ++ 64 :: Lib.itoa p.2
def txN (p : Int × Int) : Value := sv (nodeT p)
def joinN (ns : List (Int × Int)) : List UInt8 := Lib.join (ns.map nodeT) [32]
def I64N (ns : List (Int × Int)) : Prop := ∀ p ∈ ns, (-9223372036854775808 ≤ p.1 ∧ p.1 ≤ 9223372036854775807) ∧ (-9223372036854775808 ≤ p.2 ∧ p.2 ≤ 9223372036854775807)
/-- A map as text. -/
def mapT (ns : List (Int × Int)) : ByteArray := ⟨(joinN ns).toArray⟩
theorem joinN_one (p : Int × Int) : joinN [p] = nodeT p := by simp [joinN, Lib.join_cons, Lib.joinTail]
theorem joinN_snoc (ns : List (Int × Int)) (p : Int × Int) (h : ns ≠ []) : joinN (ns ++ [p]) = joinN ns ++ 32 :: nodeT p := by
  induction ns with
  | nil => exact absurd rfl h
  | cons a t ih =>
    cases t with
    | nil => simp [joinN, Lib.join_cons, Lib.joinTail]
    | cons b r =>
      have := ih (by simp)
      simp only [joinN, List.cons_append, List.map_cons, Lib.join_cons, Lib.joinTail] at this ⊢
      simp [this]
theorem nodeT_size (p : Int × Int) (h : (-9223372036854775808 ≤ p.1 ∧ p.1 ≤ 9223372036854775807) ∧ (-9223372036854775808 ≤ p.2 ∧ p.2 ≤ 9223372036854775807)) : (nodeT p).length ≤ 41 := by
  have h1 := itoaB_size p.1 h.1.1 h.1.2
  have h2 := itoaB_size p.2 h.2.1 h.2.2
  simp only [nodeT, List.length_append, List.length_cons]
  omega
theorem joinN_len (xs : List (Int × Int)) (h : I64N xs) : (joinN xs).length ≤ 42 * xs.length := by
  have key : ∀ ys zs : List (Int × Int), zs ++ ys = xs → zs ≠ [] → (joinN zs).length ≤ 42 * zs.length → (joinN (zs ++ ys)).length ≤ 42 * (zs ++ ys).length := by
    intro ys
    induction ys with
    | nil => intro zs _ _ hz; simpa using hz
    | cons y r ih =>
      intro zs he hne hz
      have hyl := nodeT_size y (h y (by rw [← he]; simp))
      have := ih (zs ++ [y]) (by rw [← he]; simp) (by simp) (by
        rw [joinN_snoc _ _ hne]
        simp only [List.length_append, List.length_cons, List.length_nil]
        omega)
      simpa using this
  cases xs with
  | nil => simp [joinN, Lib.join]
  | cons x r =>
    have hx := nodeT_size x (h x (by simp))
    have := key r [x] (by simp) (by simp) (by rw [joinN_one]; simp; omega)
    simpa using this

set_option maxRecDepth 100000 in
set_option maxHeartbeats 8000000 in
theorem formatMap_any (A : Option Addr) (n c : Nat) (ns : List (Int × Int)) (w : World) (hl : LaidG w) (hr : RdN w A n ns) (hn : n ≤ 1000) (hx : I64N ns) :
    Calls Tryz.prog 29 #[.agg #[.slice A n c]] w fun e w' => e = .returned (.string (mapT ns)) ∧ Below w.heap.size w w' := by
  obtain ⟨i0, hi0, hz0, hz1, hz2⟩ := info_parts strInfo
  have HLN := Lib.hid hr.1
  have HX := Lib.hid hx
  obtain ⟨R, hR⟩ : ∃ R, mapT ns = R := ⟨_, rfl⟩
  have HRR := Lib.hid hR
  rw [hR]
  obtain ⟨w1, hw1⟩ : ∃ W, w.alloc (.cells #[.slice A n c] 24) = W := ⟨_, rfl⟩
  have HB1 : Hid (Below w.heap.size w w1) := by show Below _ _ _; rw [← hw1]; exact (Below.refl _ _).alloc (Nat.le_refl _) _
  have c0 : w1.cell? ⟨w.heap.size, 0, none⟩ = some (.slice A n c) := by rw [← hw1, (Bk.new w 24 #[.slice A n c]).cell]; rfl
  have HL0 := Lib.hid hl
  have HR0 := Lib.hid hr
  have HW1 := Lib.hid hw1
  clear hr hx hl hR hw1
  go_enter Tryz.func29, Tryz.ntmps29
  go_upto_region 1 with fail
  rw [show w.alloc (.cells #[.slice A n c] 24) = w1 from HW1.out]
  go_wp2
  clear c0
  go_loopw [3, 5, 9] (fun v _ i wr => ∃ j : Nat, j ≤ n ∧ i = .int .i64 (j : Int) ∧ Hid (wr.ownsRow w.heap.size 9 1 v j ((ns.take j).map txN)) ∧ Hid (Below w.heap.size w wr)) (fun _ _ i _ => n - (intOf i).toNat)
  case atStart => exact ⟨0, Nat.zero_le _, rfl, World.ownsRow_nil _ _ _ _, HB1.out⟩
  case round =>
    obtain ⟨j, hj, rfl, HO, HB⟩ := hrel
    have HL : Hid (LaidG wr) := HL0.out.later HB.out
    obtain ⟨Ac, ca, rfl, _⟩ := own_formT HO.out
    have hszr : w.heap.size ≤ wr.heap.size := HB.out.size
    by_cases hlt : j < n
    · obtain ⟨g, rfl, hgl, hcs⟩ := (HR0.out.below HB.out).2 (by omega)
      obtain ⟨a1, a2⟩ := hcs j hlt
      have hxm : ns.getD j (0, 0) ∈ ns := by
        rw [List.getD_eq_getElem?_getD, List.getElem?_eq_getElem (by rw [HLN.out]; exact hlt)]
        exact List.getElem_mem _
      have hxb := HX.out _ hxm
      have hsn : ns.take (j + 1) = ns.take j ++ [ns.getD j (0, 0)] := by
        rw [List.take_add_one, List.getD_eq_getElem?_getD, List.getElem?_eq_getElem (by rw [HLN.out]; exact hlt)]
        rfl
      obtain ⟨⟨x, y⟩, hp⟩ : ∃ p, ns.getD j (0, 0) = p := ⟨_, rfl⟩
      rw [hp] at a1 a2 hxb hsn
      dsimp only at a1 a2 hxb
      obtain ⟨X, hX⟩ : ∃ D, (⟨(Lib.itoa x).toArray⟩ : ByteArray) = D := ⟨_, rfl⟩
      obtain ⟨Y, hY⟩ : ∃ D, (⟨(Lib.itoa y).toArray⟩ : ByteArray) = D := ⟨_, rfl⟩
      have CX : Hid (∀ W, LaidG W → _) := Lib.hid fun W h => itoaG_form x hxb.1.1 hxb.1.2 X hX W h
      have CY : Hid (∀ W, LaidG W → _) := Lib.hid fun W h => itoaG_form y hxb.2.1 hxb.2.2 Y hY W h
      have hXz : X.size ≤ 20 := by rw [← hX, bytes_size]; exact itoaB_size x hxb.1.1 hxb.1.2
      have hYz : Y.size ≤ 20 := by rw [← hY, bytes_size]; exact itoaB_size y hxb.2.1 hxb.2.2
      have HTX : Hid (txN (x, y) = Value.string (X ++ (⟨#[64]⟩ : ByteArray) ++ Y)) := by
        show _ = _
        rw [← hX, ← hY]
        show Value.string _ = Value.string _
        congr 1
        apply ByteArray.ext; simp [nodeT]
      have z1 : ¬ 9223372036854775807 < X.size + 1 := by omega
      have z2 : ¬ 9223372036854775807 < X.size + 1 + Y.size := by omega
      have hltI : (j : Int) < (n : Int) := by omega
      have HSN := Lib.hid hsn
      obtain ⟨B, hB⟩ : ∃ B, wr.heap.size = B := ⟨_, rfl⟩
      obtain ⟨w3, hw3⟩ : ∃ W, wr.alloc (.cells #[.int .i64 x, .int .i64 y] 99) = W := ⟨_, rfl⟩
      have KB : Hid (Bk w3 B 99 #[.int .i64 x, .int .i64 y]) := by
        show Bk _ _ _ _
        rw [← hw3, ← hB]
        exact Bk.new wr _ _
      have HB3 : Hid (Below w.heap.size w w3) := by
        show Below _ _ _
        rw [← hw3]
        exact HB.out.alloc hszr _
      have HO3 : Hid (w3.ownsRow w.heap.size 9 1 (.slice Ac j ca) j ((ns.take j).map txN)) := by
        show World.ownsRow _ _ _ _ _ _ _
        refine ownBelowT HO.out ?_
        rw [← hw3]
        exact (Below.refl _ _).alloc (Nat.le_refl _) _
      have HLX : Hid (∀ W, Below w3.heap.size w3 W → LaidG W) := fun W hW => HL0.out.later (HB3.out.trans (hW.mono HB3.out.size))
      have HSC : Hid (∀ W, Bk W B 99 #[.int .i64 x, .int .i64 y] → W.cell? ⟨B, 0, none⟩ = some (.int .i64 x) ∧ W.cell? ⟨B, 1, none⟩ = some (.int .i64 y)) := fun W hk => ⟨by rw [hk.cell]; rfl, by rw [hk.cell]; rfl⟩
      have HNB : Hid (∀ z, (Value.slice Ac j ca).ownBlock = some z → z < B) := fun z e => by rw [← hB]; exact (HO.out.lt z e).2
      have HSK : Hid (∀ W, Below w3.heap.size w3 W → W.cell? ⟨B, 0, none⟩ = some (.int .i64 x) ∧ W.cell? ⟨B, 1, none⟩ = some (.int .i64 y)) := fun W hW => by
        have hk := KB.out.later hW
        exact ⟨by rw [hk.cell]; rfl, by rw [hk.cell]; rfl⟩
      have hws3 : w.heap.size ≤ w3.heap.size := HB3.out.size
      have HW3 := Lib.hid hw3
      have HBB := Lib.hid hB
      clear hp hxm hxb hX hY hsn hcs hw3 hB
      go_upto_region 5 with fail
      try simp only [show wr.heap.size = B from HBB.out]
      rw [show wr.alloc (.cells #[.int .i64 x, .int .i64 y] 99) = w3 from HW3.out]
      clear a1 a2 HO HB HL
      refine wp_region_held_drew (S := (fun w' : World => w'.cell? ⟨B, 0, none⟩ = some (.int .i64 x) ∧ w'.cell? ⟨B, 1, none⟩ = some (.int .i64 y))) (by kernel_rfl) ?_ ?_
      · exact HSK.out _ (Below.refl w3.heap.size w3).drew
      intro hHeld
      refine wpAnyH_take (i := 0) (v := ?_) rfl (by kernel_rfl) (by kernel_rfl) (by kernel_rfl) (fun _ _ _ h => h) (Or.inl ⟨by rfl, ?_⟩) (by assumption) ?_
      rotate_left
      · intro w hSw; (try dsimp only at hSw); go_simp; (try (with_reducible rfl))
      try simp only [List.getElem_toArray, List.getElem_cons_succ, List.getElem_cons_zero, Act.put, List.setIfInBounds_toArray, List.set_cons_zero, List.set_cons_succ]
      refine wpAnyH_take (i := 1) (v := ?_) rfl (by kernel_rfl) (by kernel_rfl) (by kernel_rfl) (fun _ _ _ h => h) (Or.inl ⟨by rfl, ?_⟩) (by assumption) ?_
      rotate_left
      · intro w hSw; (try dsimp only at hSw); go_simp; (try (with_reducible rfl))
      try simp only [List.getElem_toArray, List.getElem_cons_succ, List.getElem_cons_zero, Act.put, List.setIfInBounds_toArray, List.set_cons_zero, List.set_cons_succ]
      refine wpAnyH_take (i := 2) (v := ?_) rfl (by kernel_rfl) (by kernel_rfl) (by kernel_rfl) (fun _ _ _ h => h) (Or.inl ⟨by rfl, ?_⟩) (by assumption) ?_
      rotate_left
      · intro w hSw; (try dsimp only at hSw); go_simp; (try (with_reducible rfl))
      try simp only [List.getElem_toArray, List.getElem_cons_succ, List.getElem_cons_zero, Act.put, List.setIfInBounds_toArray, List.set_cons_zero, List.set_cons_succ]
      refine wpAnyH_take (i := 5) (v := ?_) rfl (by kernel_rfl) (by kernel_rfl) (by kernel_rfl) (fun _ _ _ h => h) (Or.inl ⟨by rfl, ?_⟩) (by assumption) ?_
      rotate_left
      · intro w hSw; (try dsimp only at hSw); go_simp; (try (with_reducible rfl))
      try simp only [List.getElem_toArray, List.getElem_cons_succ, List.getElem_cons_zero, Act.put, List.setIfInBounds_toArray, List.set_cons_zero, List.set_cons_succ]
      refine wpAnyH_take (i := 6) (v := ?_) rfl (by kernel_rfl) (by kernel_rfl) (by kernel_rfl) (fun _ _ _ h => h) (Or.inl ⟨by rfl, ?_⟩) (by assumption) ?_
      rotate_left
      · intro w hSw; (try dsimp only at hSw); go_simp; (try (with_reducible rfl))
      try simp only [List.getElem_toArray, List.getElem_cons_succ, List.getElem_cons_zero, Act.put, List.setIfInBounds_toArray, List.set_cons_zero, List.set_cons_succ]
      refine wpAnyH_ready (rs := [3]) (by kernel_rfl) (by simp) ?_
      refine AllReadyH.cons rfl (fun K hK => ?_) AllReadyH.nil
      go_simp
      go_at_call 60
      refine Calls.mono (CX.out _ (HLX.out _ (Below.refl w3.heap.size w3).drew)) ?_
      rintro e wa ⟨rfl, hb⟩
      have Hwa : Hid (Below w3.heap.size w3 wa) := ((Below.refl w3.heap.size w3).drew).trans (hb.mono ((Below.refl w3.heap.size w3).drew).size)
      have Owa : Hid (wa.ownsRow w.heap.size 9 1 (.slice Ac j ca) j ((ns.take j).map txN)) := ownBelowT HO3.out.drew hb
      clear hb
      go_wp2_with fail
      refine hK.out _ _ ?_ (fun hHeld => ?_)
      · clear hK K; exact HSK.out _ Hwa.out
      clear hK K
      try simp only [List.getElem_toArray, List.getElem_cons_succ, List.getElem_cons_zero, Act.put, List.setIfInBounds_toArray, List.set_cons_zero, List.set_cons_succ]
      refine wpAnyH_take (i := 4) (v := ?_) rfl (by kernel_rfl) (by kernel_rfl) (by kernel_rfl) (fun _ _ _ h => h) (Or.inl ⟨by rfl, ?_⟩) (by assumption) ?_
      rotate_left
      · intro w hSw; (try dsimp only at hSw); go_simp; (try (with_reducible rfl))
      try simp only [List.getElem_toArray, List.getElem_cons_succ, List.getElem_cons_zero, Act.put, List.setIfInBounds_toArray, List.set_cons_zero, List.set_cons_succ]
      refine wpAnyH_ready (rs := [7]) (by kernel_rfl) (by simp) ?_
      refine AllReadyH.cons rfl (fun K hK => ?_) AllReadyH.nil
      go_simp
      go_at_call 60
      refine Calls.mono (CY.out _ (HLX.out _ Hwa.out)) ?_
      rintro e wb ⟨rfl, hb⟩
      have Hwb : Hid (Below w3.heap.size w3 wb) := (Hwa.out).trans (hb.mono (Hwa.out).size)
      have Owb : Hid (wb.ownsRow w.heap.size 9 1 (.slice Ac j ca) j ((ns.take j).map txN)) := ownBelowT Owa.out hb
      clear hb
      go_wp2_with fail
      refine hK.out _ _ ?_ (fun hHeld => ?_)
      · clear hK K; exact HSK.out _ Hwb.out
      clear hK K
      try simp only [List.getElem_toArray, List.getElem_cons_succ, List.getElem_cons_zero, Act.put, List.setIfInBounds_toArray, List.set_cons_zero, List.set_cons_succ]
      refine wpAnyH_take (i := 8) (v := ?_) rfl (by kernel_rfl) (by kernel_rfl) (by kernel_rfl) (fun _ _ _ h => h) (Or.inl ⟨by rfl, ?_⟩) (by assumption) ?_
      rotate_left
      · intro w hSw; (try dsimp only at hSw); go_simp; (try (with_reducible rfl))
      try simp only [List.getElem_toArray, List.getElem_cons_succ, List.getElem_cons_zero, Act.put, List.setIfInBounds_toArray, List.set_cons_zero, List.set_cons_succ]
      refine wpAnyH_ready (rs := [9]) (by kernel_rfl) (by simp) ?_
      refine AllReadyH.cons rfl (fun K hK => ?_) AllReadyH.nil
      go_simp
      refine hK.out _ _ ?_ (fun hHeld => ?_)
      · clear hK K; exact HSK.out _ (Hwb.out.alloc Hwb.out.size _)
      clear hK K
      try simp only [List.getElem_toArray, List.getElem_cons_succ, List.getElem_cons_zero, Act.put, List.setIfInBounds_toArray, List.set_cons_zero, List.set_cons_succ]
      refine wpAnyH_ready (rs := [10]) (by kernel_rfl) (by simp) ?_
      refine AllReadyH.cons rfl (fun K hK => ?_) AllReadyH.nil
      refine step_append_at _ rfl (.tmp 13) (.tmp 22) 76 rfl w.heap.size 9 i0 _ 1 16 Tryz.underlying76 hi0 hz0 hz1 hz2 rfl (by decide) _ j _ rfl (Owb.out.alloc _) ⟨wb.heap.size, 0, none⟩ 1 1 [.string (X ++ (⟨#[64]⟩ : ByteArray) ++ Y)] rfl rfl (cell_one_new _ _ _) (by simp [Value.oneCell']) (by simp only [maxLen]; omega) (by omega) (by have := hws3; have := Hwb.out.size; simp; omega) ?_
      intro v' w4 hown' hgrow _ hat
      obtain ⟨g', cap', rfl⟩ := ownsRow_succ hown'
      have HB4 : Hid (Below w.heap.size w w4) := ((HB3.out.trans (Hwb.out.mono HB3.out.size)).alloc (by have := hws3; have := Hwb.out.size; omega) _).grown hgrow (by have := hws3; have := Hwb.out.size; simp; omega) (fun z e => (Owb.out.lt z e).1)
      have KB4 : Hid (Bk w4 B 99 #[.int .i64 x, .int .i64 y]) := ((KB.out.later Hwb.out).alloc _).grown hgrow (fun e => absurd (HNB.out B e.symm) (by omega))
      have HO4 : Hid (w4.ownsRow w.heap.size 9 1 (.slice (some ⟨g', 0, none⟩) (j + 1) cap') (j + 1) ((ns.take (j + 1)).map txN)) := by
        refine Lib.hid ?_
        rw [HSN.out, List.map_append, List.map_singleton, show txN (x, y) = Value.string (X ++ (⟨#[64]⟩ : ByteArray) ++ Y) from HTX.out]
        exact hown'
      clear hown' hgrow hat
      refine hK.out _ _ ?_ (fun hHeld => ?_)
      · clear hK K; exact (HSC.out _ KB4.out)
      clear hK K
      try simp only [List.getElem_toArray, List.getElem_cons_succ, List.getElem_cons_zero, Act.put, List.setIfInBounds_toArray, List.set_cons_zero, List.set_cons_succ]
      refine wpAnyH_take (i := 11) (v := ?_) rfl (by kernel_rfl) (by kernel_rfl) (by kernel_rfl) (fun _ _ _ h => h) (Or.inl ⟨by rfl, ?_⟩) (by assumption) ?_
      rotate_left
      · intro w hSw; (try dsimp only at hSw); go_simp; (try (with_reducible rfl))
      try simp only [List.getElem_toArray, List.getElem_cons_succ, List.getElem_cons_zero, Act.put, List.setIfInBounds_toArray, List.set_cons_zero, List.set_cons_succ]
      refine wpAnyH_done (by kernel_rfl) ?_ _
      clear hHeld HSK
      go_wp2
      go_roundw
      case rel => exact ⟨j + 1, by omega, by go_num, HO4.out, HB4.out⟩
      case measure => simp [intOf]; omega
    · obtain rfl : n = j := by omega
      have hall : ns.take n = ns := List.take_of_length_le (by rw [HLN.out]; exact Nat.le_refl _)
      have HO6 : Hid (wr.ownsRow w.heap.size 9 1 (.slice Ac n ca) n (ns.map txN)) := by
        show World.ownsRow _ _ _ _ _ _ _
        have := HO.out
        rw [hall] at this
        exact this
      clear hall
      by_cases h0 : n = 0
      · have hnil : ns = [] := List.eq_nil_of_length_eq_zero (by rw [HLN.out]; exact h0)
        have hRe : R = ⟨#[]⟩ := by rw [← HRR.out, hnil]; rfl
        have HJ := Lib.hid (Tryz.strings_Join_none Ac ca ⟨#[32]⟩ wr)
        subst h0
        subst hRe
        clear hnil
        go_wp2_with fail
        refine (HJ.out).mono ?_
        rintro e w7 ⟨rfl, h7⟩
        have HBF : Hid (Below w.heap.size w w7) := by
          first
            | exact HB.out.trans (h7.mono hszr)
            | (have h8 : w7 = wr := h7; rw [h8]; exact HB.out)
            | (have h8 : wr = w7 := h7; rw [← h8]; exact HB.out)
        clear h7 HJ
        go_wp2
        go_ret
        exact ⟨rfl, HBF.out⟩
      · obtain ⟨g, cp, hv, hg1, hg2, hcl⟩ := own_str HO6.out (by rw [List.length_map, HLN.out]) (by omega)
        injection hv with hv1 hv2 hv3
        subst hv1; subst hv3
        have hcp : n ≤ ca := by
          rcases HO6.out.2 with ⟨h, _⟩ | ⟨g', cap', cur, h', _, _, hn, _, _, _⟩
          · cases h
          · simp only [Value.slice.injEq] at h'; omega
        have HCL := Lib.hid hcl
        have HJ := Lib.hid (Tryz.strings_Join g 0 ca (ns.map fun x => (⟨(nodeT x).toArray⟩ : ByteArray)) ⟨#[32]⟩ wr (by
          intro j x hx
          rw [List.getElem?_map] at hx
          cases hy : ns[j]? with
          | none => rw [hy] at hx; cases hx
          | some y =>
            rw [hy] at hx
            have := HCL.out j (txN y) (by rw [List.getElem?_map, hy]; rfl)
            rw [Nat.zero_add, this, ← Option.some.inj hx]
            rfl) hg2 (by rw [List.length_map, HLN.out]; omega) (by rw [List.length_map, HLN.out]; exact hcp) (by
          have hmap : (ns.map fun x => (⟨(nodeT x).toArray⟩ : ByteArray)).map (·.data.toList) = ns.map nodeT := by simp [List.map_map, Function.comp_def]
          rw [hmap]
          have h1 := joinN_len ns HX.out
          have h2 : (Lib.join (ns.map nodeT) [32]).length = (joinN ns).length := rfl
          rw [show (⟨#[32]⟩ : ByteArray).data.toList = [32] from rfl, h2]
          rw [HLN.out] at h1
          omega))
        rw [List.length_map, HLN.out] at HJ
        have HJ2 : Hid (Calls Tryz.prog 61 #[.slice (some ⟨g, 0, none⟩) n ca, .string ⟨#[32]⟩] wr fun e w' => e = .returned (.string R) ∧ Below wr.heap.size wr w') := by
          refine Calls.mono HJ.out ?_
          rintro e w' ⟨rfl, hb⟩
          refine ⟨?_, hb⟩
          rw [← HRR.out]
          have hmap : (ns.map fun x => (⟨(nodeT x).toArray⟩ : ByteArray)).map (·.data.toList) = ns.map nodeT := by simp [List.map_map, Function.comp_def]
          rw [hmap]
          rfl
        clear hcl HJ
        go_wp2_with fail
        refine HJ2.out.mono ?_
        rintro e w7 ⟨rfl, hb7⟩
        have HBF := Lib.hid (HB.out.trans (hb7.mono hszr))
        clear hb7 HJ2
        go_wp2
        go_ret
        exact ⟨rfl, HBF.out⟩
end Go.Proofs.YtjjflbnopphciacGreatDoor

