import Derived.RangeFuncNested
import Derived.RangeFuncBound
import Derived.RangeFuncBox
import Derived.RangeFuncCalls
import Derived.RangeFuncLeaves
import Derived.Shelf.Abstract
import Derived.Shelf.RegionOpen
import Derived.WalkKit
import Derived.WalkSpells
import Derived.WalkLawsBesides
import Derived.OwnWalkIn
import Derived.TacticsInMore
import Derived.LoopNIn
import Derived.LoopIn
import Derived.Lib.Hide
import Derived.Laws.CopyOwn
import Derived.Laws.Rows
import Derived.Deep.RegionHeld3
import Derived.Deep.QuietTactic
import Derived.BigQuiet
import Derived.BigRegion
import Derived.Maps.AppendAt
import Derived.StillTailTactics
import Derived.IntWalk
import Derived.Outline
import Derived.Laws.EntriesVeiled
import Derived.Test.YtjjflbnopphciacGreatDoorProg
import Derived.Test.YtjjflbnopphciacGreatDoorRows
import Derived.ProofKit
import Derived.OpenShut
import Derived.Deep.Slices
import Derived.Handy
namespace Go.Proofs.YtjjflbnopphciacGreatDoor
open Go.RowKit Go.Shelf

/-- The slice '.slice A n c' reads as the numbers xs. -/
def RdI (w : World) (A : Option Addr) (n : Nat) (xs : List Int) : Prop :=
  xs.length = n ∧ (0 < n → ∃ ad, A = some ad ∧ ad.block < w.heap.size ∧ ∀ j, j < n → w.cell? (ad.add j) = some (.int .i64 (xs.getD j 0)))
theorem addBlock (a : Addr) (n : Nat) : (a.add n).block = a.block := by unfold Addr.add; split <;> rfl
theorem RdI.below {w w' : World} {A : Option Addr} {n : Nat} {xs : List Int} (h : RdI w A n xs) (hb : Below w.heap.size w w') : RdI w' A n xs := by
  refine ⟨h.1, fun hn => ?_⟩
  obtain ⟨ad, e, hlt, hc⟩ := h.2 hn
  exact ⟨ad, e, Nat.lt_of_lt_of_le hlt hb.size, fun j hj => (hb.cell (by rw [addBlock]; exact hlt)).trans (hc j hj)⟩

theorem cellA {W : World} {a : Addr} {v : Value} (o : Obj) (h : W.cell? a = some v) : (W.alloc o).cell? a = some v := cell_kept h (World.grownBy_alloc W o none) (fun r e => by cases e)
theorem frozA {W : World} {a : Addr} {v : Value} (o : Obj) (h : W.cell? a = some v) (hf : W.frozen? a = false) : (W.alloc o).frozen? a = false := (frozen_kept h (World.grownBy_alloc W o none) (fun r e => by cases e)).trans hf

/-- All numbers are from lo to hi. -/
def fromB (lo hi : Int) (xs : List Int) : Bool := xs.all fun n => decide (lo ≤ n) && decide (n ≤ hi)
theorem fromB_step (lo hi : Int) (xs : List Int) (k : Nat) (hk : k < xs.length) :
    fromB lo hi (xs.drop k) = (decide (lo ≤ xs.getD k 0) && decide (xs.getD k 0 ≤ hi) && fromB lo hi (xs.drop (k + 1))) := by
  unfold fromB
  rw [List.drop_eq_getElem_cons hk]
  simp only [List.all_cons, List.getD_eq_getElem?_getD, List.getElem?_eq_getElem hk, Option.getD_some]

/-- Block g is just the cells cs of type t. -/
def Bk (w : World) (g : Nat) (t : TypeId) (cs : Array Value) : Prop := w.heap[g]? = some (.cells cs t (0, 0))
theorem Bk.heap {w : World} {g : Nat} {t : TypeId} {cs : Array Value} (h : Bk w g t cs) : w.heap[g]? = some (.cells cs t (0, 0)) := h
theorem Bk.lt {w : World} {g : Nat} {t : TypeId} {cs : Array Value} (h : Bk w g t cs) : g < w.heap.size := by
  rcases Nat.lt_or_ge g w.heap.size with h1 | h1
  · exact h1
  · unfold Bk at h; rw [Array.getElem?_eq_none h1] at h; cases h
theorem Bk.cell {w : World} {g : Nat} {t : TypeId} {cs : Array Value} (h : Bk w g t cs) (i : Nat) : w.cell? ⟨g, i, none⟩ = cs[i]? := cell_of_row w g i cs t (0, 0) h
theorem Bk.frozen {w : World} {g : Nat} {t : TypeId} {cs : Array Value} (h : Bk w g t cs) (i : Nat) : w.frozen? ⟨g, i, none⟩ = false := frozen_of_row w g i cs t h
theorem Bk.below {w w' : World} {g B : Nat} {t : TypeId} {cs : Array Value} (h : Bk w g t cs) (hb : Below B w w') (hg : g < B) : Bk w' g t cs := (hb.block g hg).trans h
theorem Bk.later {w w' : World} {g : Nat} {t : TypeId} {cs : Array Value} (h : Bk w g t cs) (hb : Below w.heap.size w w') : Bk w' g t cs := h.below hb h.lt
theorem Bk.new (w : World) (t : TypeId) (cs : Array Value) : Bk (w.alloc (.cells cs t)) w.heap.size t cs := heap_alloc_new w _
theorem Bk.alloc {w : World} {g : Nat} {t : TypeId} {cs : Array Value} (h : Bk w g t cs) (o : Obj) : Bk (w.alloc o) g t cs := (Below.heap_alloc w o g h.lt).trans h
theorem Bk.set_ {w : World} {g : Nat} {t : TypeId} {cs : Array Value} (h : Bk w g t cs) (i : Nat) (v : Value) : Bk (w.setCell ⟨g, i, none⟩ v) g t (cs.setIfInBounds i v) := heap_setCell_same w g i cs t v h
theorem Bk.far {w : World} {g : Nat} {t : TypeId} {cs : Array Value} (h : Bk w g t cs) (p : Addr) (hp : g ≠ p.block) (v : Value) : Bk (w.setCell p v) g t cs := (heap_setCell_other w p g v hp).trans h
theorem Bk.drewN {w : World} {g : Nat} {t : TypeId} {cs : Array Value} (h : Bk w g t cs) (n : Nat) : Bk (w.drewN n) g t cs := h
theorem Bk.drew {w : World} {g : Nat} {t : TypeId} {cs : Array Value} (h : Bk w g t cs) : Bk w.drew g t cs := h
theorem Bk.grown {w w' : World} {g : Nat} {t : TypeId} {cs : Array Value} {row : Option Nat} (h : Bk w g t cs) (hg : w.grownBy w' row) (hne : some g ≠ row) : Bk w' g t cs := (hg.block g h.lt hne).trans h

/-- Integers as cells. -/
def iArr (xs : List Int) : Array Value := (xs.map (Value.int .i64)).toArray
theorem iArr_size (xs : List Int) : (iArr xs).size = xs.length := by simp [iArr]
theorem iArr_at (xs : List Int) (i : Nat) (h : i < xs.length) : (iArr xs)[i]? = some (.int .i64 (xs.getD i 0)) := by
  simp [iArr, List.getElem?_toArray, List.getD_eq_getElem?_getD, List.getElem?_eq_getElem h]
theorem iArr_set (xs : List Int) (i : Nat) (v : Int) : (iArr xs).setIfInBounds i (.int .i64 v) = iArr (xs.set i v) := by
  simp [iArr, List.map_set]
theorem addOff (g j : Nat) : (⟨g, 0, none⟩ : Addr).add j = ⟨g, j, none⟩ := by unfold Addr.add; split <;> simp_all
theorem rd_of_bk {w : World} {g n : Nat} {xs : List Int} (h : Bk w g 3 (iArr xs)) (hn : xs.length = n) : RdI w (some ⟨g, 0, none⟩) n xs :=
  ⟨hn, fun _ => ⟨_, rfl, h.lt, fun j hj => by rw [addOff, h.cell]; exact iArr_at _ _ (by omega)⟩⟩
theorem own_of_bk {w : World} {base g : Nat} {xs : List Int} (n : Nat) (h : Bk w g 3 (iArr xs)) (hn : xs.length = n) (hb : base ≤ g) (hm : n ≤ 10000000) : w.ownsRow base 3 1 (.slice (some ⟨g, 0, none⟩) n n) n (xs.map (Value.int .i64)) := by
  refine ⟨by simp [hn], .inr ⟨g, n, iArr xs, rfl, hb, h, Nat.le_refl _, by simp only [maxLen]; omega, by rw [iArr_size]; omega, ?_⟩⟩
  rw [List.take_of_length_le (by simp [iArr]; omega)]
  simp [iArr]
theorem rd_of_own {w : World} {base : Nat} {v : Value} {n : Nat} {xs : List Int} (h : w.ownsRow base 3 1 v n (xs.map (Value.int .i64))) :
    ∃ A c, v = .slice A n c ∧ n ≤ c ∧ RdI w A n xs := by
  have hl : xs.length = n := by have := h.1; simpa using this
  rcases h.2 with ⟨rfl, rfl⟩ | ⟨g, cap, cur, rfl, _, hh, hnc, _, _, htk⟩
  · exact ⟨none, 0, rfl, Nat.le_refl _, hl, fun h0 => absurd h0 (by omega)⟩
  · refine ⟨_, cap, rfl, hnc, hl, fun _ => ⟨_, rfl, ?_, fun j hj => ?_⟩⟩
    · have : Bk w g 3 cur := hh
      exact this.lt
    · rw [addOff, cell_of_row w g j cur 3 (0, 0) hh, ← Array.getElem?_toList]
      have e1 : (cur.toList.take (n * 1))[j]? = (xs.map (Value.int .i64))[j]? := by rw [htk]
      rw [List.getElem?_take, if_pos (by omega)] at e1
      rw [e1]
      simp [List.getElem?_eq_getElem (show j < xs.length by omega)]

theorem intInfo' : (Tryz.prog.info? 3).map (fun i => (i.zero, i.size, i.bytes)) = some (some (.int .i64 0), 1, 8) := by kernel_rfl

theorem make_ints (c : Nat) (hc : c ≤ 1000000) (W : World) :
    (Instr.makeSlice 27 (.int .i64 (c : Int)) (.int .i64 (c : Int))).run Tryz.prog W = .ok (.slice (some ⟨W.heap.size, 0, none⟩) c c) (W.alloc (.cells (iArr (List.replicate c 0)) 3)) := by
  obtain ⟨i0, hi, hz0, hz1, hz2⟩ := info_parts intInfo'
  have hr := run_make (P := Tryz.prog) W 27 3 i0 _ Tryz.underlying27 hi hz0 .i64 .i64 c c (by omega) (by omega) (by rw [hz2]; omega) (by omega)
  rw [hr]
  have e : madeCells (Value.cells (.int .i64 0)) ((c : Int).toNat * i0.size) = iArr (List.replicate c 0) := by
    rw [hz1]
    apply Array.ext'
    have := toList_madeCells_one (Value.int .i64 0) c
    simp only [Int.toNat_natCast, Nat.mul_one]
    show (madeCells #[Value.int .i64 0] c).toList = _
    rw [this]
    simp [iArr]
  rw [e]
  simp
theorem ownMono {w : World} {base base' : Nat} {e : TypeId} {size : Nat} {v : Value} {n : Nat} {xs : List Value} (h : w.ownsRow base e size v n xs) (hb : base' ≤ base) : w.ownsRow base' e size v n xs := by
  refine ⟨h.1, ?_⟩
  rcases h.2 with h0 | ⟨g, cap, cur, h1, h2, h3⟩
  · exact .inl h0
  · exact .inr ⟨g, cap, cur, h1, Nat.le_trans hb h2, h3⟩

/-- A slice of integers of the call's own, and an error. -/
def OwnRes (w : World) (E : Int) (xs : List Int) (e : Ending) (w' : World) : Prop :=
  (∃ v, e = .returned (.tuple #[v, .int .i64 E]) ∧ w'.ownsRow w.heap.size 3 1 v xs.length (xs.map (Value.int .i64))) ∧ Below w.heap.size w w'
theorem OwnRes.none_ {w w' : World} {E : Int} (h : Below w.heap.size w w') : OwnRes w E [] (.returned (.tuple #[.slice none 0 0, .int .i64 E])) w' := ⟨⟨_, rfl, World.ownsRow_nil _ _ _ _⟩, h⟩
/-- A slice of integers of the call's own. -/
def OwnS (w : World) (xs : List Int) (e : Ending) (w' : World) : Prop :=
  (∃ v, e = .returned v ∧ w'.ownsRow w.heap.size 3 1 v xs.length (xs.map (Value.int .i64))) ∧ Below w.heap.size w w'

theorem RdI.drewN {w : World} {A : Option Addr} {n : Nat} {xs : List Int} (h : RdI w A n xs) (k : Nat) : RdI (w.drewN k) A n xs := h
theorem RdI.drew {w : World} {A : Option Addr} {n : Nat} {xs : List Int} (h : RdI w A n xs) : RdI w.drew A n xs := h

theorem ints_any (A B : Option Addr) (n m c d : Nat) (xs ys : List Int) (w : World) (ha : RdI w A n xs) (hb : RdI w B m ys) (hn : n ≤ 9223372036854775806) (hm : m ≤ 9223372036854775806) :
    Calls Tryz.prog 27 #[.slice A n c, .slice B m d] w fun e w' => e = .returned (.bool (decide (xs = ys))) ∧ ∃ k, w' = w.drewN k := by
  by_cases hnm : n = m
  · subst hnm
    have HA := Lib.hid ha; clear ha
    have HB := Lib.hid hb; clear hb
    go_enter Tryz.func27, Tryz.ntmps27
    go_wp2
    go_loopw [5] (fun i wr => ∃ k : Nat, k ≤ n ∧ i = .int .i64 k ∧ Hid (xs.take k = ys.take k) ∧ Hid (∃ j, wr = w.drewN j)) (fun i _ => n - (intOf i).toNat)
    case atStart => exact ⟨0, Nat.zero_le _, rfl, rfl, 0, rfl⟩
    case round =>
      obtain ⟨k, hk, rfl, HE, HJ⟩ := hrel
      obtain ⟨j, hj⟩ := HJ.out
      by_cases hlt : k < n
      · obtain ⟨a, ha, _, hca⟩ := (HA.out.drewN j).2 (by omega)
        obtain ⟨b, hb, _, hcb⟩ := (HB.out.drewN j).2 (by omega)
        have h1 := hca k hlt
        have h2 := hcb k hlt
        rw [← hj] at h1 h2
        have HXT : Hid (xs.take (k + 1) = xs.take k ++ [xs.getD k 0]) := by
          show _ = _
          rw [List.take_succ_eq_append_getElem (by have := HA.out.1; omega)]
          simp [List.getD_eq_getElem?_getD, List.getElem?_eq_getElem (show k < xs.length by have := HA.out.1; omega)]
        have HYT : Hid (ys.take (k + 1) = ys.take k ++ [ys.getD k 0]) := by
          show _ = _
          rw [List.take_succ_eq_append_getElem (by have := HB.out.1; omega)]
          simp [List.getD_eq_getElem?_getD, List.getElem?_eq_getElem (show k < ys.length by have := HB.out.1; omega)]
        subst ha hb
        clear hca hcb
        have HX2 : Hid (xs.getD k 0 = xs.getD k 0) := rfl
        obtain ⟨x, hx⟩ : ∃ x, xs.getD k 0 = x := ⟨_, rfl⟩
        obtain ⟨y, hy⟩ : ∃ y, ys.getD k 0 = y := ⟨_, rfl⟩
        rw [hx] at h1 HXT
        rw [hy] at h2 HYT
        have HXk := Lib.hid hx
        have HYk := Lib.hid hy
        have HJ' := Lib.hid hj
        clear hx hy hj HX2 HJ
        obtain ⟨t, ht⟩ : ∃ t, (x != y) = t := ⟨_, rfl⟩
        have hkI : (k : Int) < (n : Int) := by omega
        have hk0 : (0 : Int) ≤ (k : Int) := by omega
        cases t
        · go_wp2
          go_quiet (fail)
          go_wp2
          go_roundw
          case rel =>
            have hxy : x = y := by simpa using ht
            refine ⟨k + 1, by omega, by go_num, ?_, ?_⟩
            · show _ = _
              rw [HXT.out, HYT.out, HE.out, hxy]
            · show ∃ _, _ = _
              rw [HJ'.out]; exact ⟨_, World.drewN_drewN _ _ _⟩
          case measure => simp [intOf]; omega
        · go_wp2
          go_quiet (fail)
          go_wp2
          go_ret
          have hxy : x ≠ y := by simpa using ht
          refine ⟨?_, ?_⟩
          · have : xs ≠ ys := by
              rintro e
              apply hxy
              rw [← HXk.out, ← HYk.out, e]
            simp [this]
          · rw [HJ'.out]; exact ⟨_, World.drewN_drewN _ _ _⟩
      · obtain rfl : k = n := by omega
        clear hj
        go_wp2
        go_ret
        refine ⟨?_, HJ.out⟩
        have e := HE.out
        rw [List.take_of_length_le (by have := HA.out.1; omega), List.take_of_length_le (by have := HB.out.1; omega)] at e
        simp [e]
  · have h1 : ((n : Int) != (m : Int)) = true := by simp; omega
    have h2 : ((n : Int) == (m : Int)) = false := by simp; omega
    have HX : Hid (xs ≠ ys) := by
      rintro rfl
      exact hnm (ha.1.symm.trans hb.1)
    clear ha hb
    go_enter Tryz.func27, Tryz.ntmps27
    go_wp2
    go_ret
    exact ⟨by simp [HX.out], 0, rfl⟩

theorem belowDrewN {n0 : Nat} {w w' : World} (h : Below n0 w w') : ∀ k, Below n0 w (w'.drewN k) := fun k => ⟨h.1, h.2, h.3, h.4, h.5⟩

theorem tdiv_floor (n d : Int) (hd : 0 < d) : (if n.tmod d < 0 then n.tdiv d - 1 else n.tdiv d) = n / d := by
  have h1 := Int.mul_tdiv_add_tmod n d
  have h2 := Int.tmod_lt_of_pos n hd
  have h3 : -d < n.tmod d := by have h3 := Int.tmod_lt_of_pos (-n) hd; rw [Int.neg_tmod] at h3; omega
  have h4 := Int.mul_ediv_self_le (x := n) (k := d) (by omega)
  have h5 := Int.lt_mul_ediv_self_add (x := n) (k := d) hd
  by_cases h : n.tmod d < 0
  · rw [if_pos h]
    have e : d * (n.tdiv d - 1) = d * n.tdiv d - d := by rw [Int.mul_sub, Int.mul_one]
    have a : d * (n.tdiv d - 1) ≤ d * (n / d) + d - 1 := by omega
    have b : d * (n / d) ≤ d * (n.tdiv d - 1) + d - 1 := by omega
    have a' : n.tdiv d - 1 < n / d + 1 := by
      apply Int.lt_of_mul_lt_mul_left (a := d) _ (by omega)
      rw [Int.mul_add, Int.mul_one]; omega
    have b' : n / d < n.tdiv d - 1 + 1 := by
      apply Int.lt_of_mul_lt_mul_left (a := d) _ (by omega)
      rw [Int.mul_add, Int.mul_one]; omega
    omega
  · rw [if_neg h]
    have a' : n.tdiv d < n / d + 1 := by
      apply Int.lt_of_mul_lt_mul_left (a := d) _ (by omega)
      rw [Int.mul_add, Int.mul_one]; omega
    have b' : n / d < n.tdiv d + 1 := by
      apply Int.lt_of_mul_lt_mul_left (a := d) _ (by omega)
      rw [Int.mul_add, Int.mul_one]; omega
    omega

theorem within_any (n lo hi : Int) (w : World) :
    Calls Tryz.prog 44 #[.int .i64 n, .int .i64 lo, .int .i64 hi] w fun e w' => e = .returned (.bool (fromB lo hi [n])) ∧ w = w' := by
  by_cases h1 : lo ≤ n
  · go_enter Tryz.func44, Tryz.ntmps44
    go_wp2
    go_ret
    exact ⟨by simp [fromB, h1], rfl⟩
  · go_enter Tryz.func44, Tryz.ntmps44
    go_wp2
    go_ret
    exact ⟨by simp [fromB]; omega, rfl⟩

theorem rd_ownN {w : World} {base : Nat} {v : Value} {n : Nat} {xs : List Int} (h : w.ownsRow base 3 1 v n (xs.map (Value.int .i64))) :
    ∃ A c, v = .slice A n c ∧ n ≤ c ∧ RdI w A n xs ∧ (A = none → n = 0 ∧ c = 0) := by
  have h2 := h.2
  obtain ⟨A, c, rfl, hnc, hr⟩ := rd_of_own h
  refine ⟨A, c, rfl, hnc, hr, ?_⟩
  rintro rfl
  rcases h2 with ⟨e, h0⟩ | ⟨g, cap, cur, e, _⟩
  · injection e with _ e1 e2; exact ⟨e1, e2⟩
  · injection e with e; cases e

theorem copyInts_any (A : Option Addr) (n c : Nat) (l : List Int) (w : World) (hA : A = none → n = 0 ∧ c = 0) (hr : RdI w A n l) (hn : n ≤ 1000000) :
    Calls Tryz.prog 31 #[.slice A n c] w (OwnS w l) := by
  have ho : Hid ((w.alloc (.cells #[] 3)).ownsRow w.heap.size 3 1 (.slice (some ⟨w.heap.size, 0, none⟩) 0 0) 0 ([] : List Value)) := World.ownsRow_lit w #[] 0 (Nat.le_refl _) (by unfold maxLen; omega) rfl
  obtain ⟨i0, hi, hz0, hz1, hz2⟩ := info_parts intInfo'
  cases A with
  | none =>
    obtain ⟨rfl, rfl⟩ := hA rfl
    have hl : l = [] := List.eq_nil_of_length_eq_zero hr.1
    subst hl
    clear hA hr
    go_enter Tryz.func31, Tryz.ntmps31
    go_wp2_with (at_builtin; refine wpList_append_own_none rfl (.tmp 3) (.tmp 4) 27 rfl w.heap.size 3 i0 1 Tryz.underlying27 hi _ _ _ rfl ho.out rfl ?_)
    go_ret
    exact ⟨⟨_, rfl, ho.out⟩, (Below.refl _ _).alloc (Nat.le_refl _) _⟩
  | some ad =>
    have HR := Lib.hid hr; clear hr hA
    have hlen : Hid ((l.map (Value.int .i64)).length = n * 1) := by show List.length _ = _; rw [List.length_map]; have := HR.out.1; omega
    have hsrc : Hid (∀ j u, (l.map (Value.int .i64))[j]? = some u → (w.alloc (.cells #[] 3)).cell? (ad.add j) = some u) := by
      intro j u hu
      have hj : j < l.length := by
        have := (List.getElem?_eq_some_iff.1 hu).1
        simpa using this
      have hl := HR.out.1
      obtain ⟨ad', ha, hlt, hc⟩ := HR.out.2 (by omega)
      obtain rfl := Option.some.inj ha
      rw [World.cell?_alloc_lt w _ _ (by rw [addBlock]; exact hlt), hc j (by omega)]
      rw [List.getElem?_map, List.getElem?_eq_getElem hj] at hu
      simp at hu
      rw [← hu]
      simp [List.getD_eq_getElem?_getD, List.getElem?_eq_getElem hj]
    have hone : Hid (∀ u ∈ l.map (Value.int .i64), u.oneCell' = true) := by
      intro u hu
      obtain ⟨x, _, rfl⟩ := List.mem_map.1 hu
      rfl
    obtain ⟨news, hnews⟩ : ∃ news, l.map (Value.int .i64) = news := ⟨_, rfl⟩
    rw [hnews] at hlen hsrc hone
    have HNW := Lib.hid hnews
    clear hnews
    go_enter Tryz.func31, Tryz.ntmps31
    go_wp2_with (at_builtin; refine wpList_append_own _ rfl (.tmp 3) (.tmp 4) 27 rfl w.heap.size 3 i0 _ 1 8 Tryz.underlying27 hi hz0 hz1 hz2 rfl (by decide) _ _ _ rfl ho.out ad n c news rfl hlen.out hsrc.out hone.out (by unfold maxLen; omega) (by omega) (by simp) ?_)
    intro v w2 ho2 hg2 _
    have b2 : Below w.heap.size w w2 := ((Below.refl _ _).alloc (Nat.le_refl _) _).grown hg2 (by simp) (fun g hg => (ho.out.lt g hg).1)
    have o2 := Lib.hid ho2
    have B2 := Lib.hid b2
    clear ho2 hg2 b2
    go_wp2
    go_ret
    refine ⟨⟨_, rfl, ?_⟩, B2.out⟩
    have := o2.out
    rw [HNW.out, HR.out.1]
    simpa using this

theorem size_any (n : Int) (w : World) (h : -4611686018427387904 ≤ n ∧ n ≤ 4611686018427387904) :
    Calls Tryz.prog 96 #[.int .i64 n] w fun e w' => e = .returned (.int .i64 (if n < 0 then -n else n)) ∧ w = w' := by
  have hw : IntKind.i64.wrap (-n) = -n := IntWalk.i64_in _ (by omega)
  by_cases h0 : n < 0
  · have h1 : n < -n := by omega
    go_enter Tryz.func96, Tryz.ntmps96
    go_wp2
    go_ret
    exact ⟨by first | rfl | (rw [if_pos h0]; rfl), rfl⟩
  · have h1 : ¬ n < -n := by omega
    go_enter Tryz.func96, Tryz.ntmps96
    go_wp2
    go_ret
    exact ⟨by first | rfl | (rw [if_neg h0]; rfl), rfl⟩


end Go.Proofs.YtjjflbnopphciacGreatDoor

namespace Go.Proofs.YtjjflbnopphciacGreatDoor.op
open Go.ChangeShapes Go.WideShapes Go.ChangeAt Go.RowKit

theorem own : ownKnob Tryz.prog.godebug = none := by kernel_rfl
theorem laidOut : laidOutB Tryz.prog = true := by kernel_rfl
theorem cellsInt1 : Tryz.prog.cellsOf 3 = 1 := by kernel_rfl
theorem cellsI : Tryz.prog.cellsOf 3 = 1 := cellsInt1
theorem cellsInts : Tryz.prog.cellsOf 27 = 1 := by kernel_rfl
theorem lt_of_cell {w : World} {a : Addr} {v : Value} (h : w.cell? a = some v) : a.block < w.heap.size := World.block_lt_of_cell? _ _ h

set_option maxRecDepth 100000 in
/-- An equalizer as it comes in: three integers. -/
theorem open_eqz {H : Type} {enc : TypeId × Value → H} {w : World} {base : Nat} {spare : Nat → Bool} {held : Bool} {r : Reach} {b0 : Nat} {v : Value} {d : DataW H} {p : List MemPlace}
    (hv : Value.okWide Tryz.prog w r b0 64 v) (h : DataW.Trod enc Tryz.prog w base spare held 64 v d p) :
    ∃ f s q : Int, v = .agg #[.int .i64 f, .int .i64 s, .int .i64 q] := by
  obtain ⟨cs, rfl, hsz⟩ := okWide_struct Tryz.underlying64 hv
  obtain ⟨fuel, hf⟩ := h
  obtain ⟨xs, n, _, _, hl, hxl, hg⟩ := DataW.trod_struct Tryz.underlying64 hf
  have h3 : Tryz.prog.cellsOf 64 = 3 := by kernel_rfl
  obtain ⟨l⟩ := cs
  have hl3 : l.length = 3 := by rw [← h3]; simpa using hsz
  match l, hl3, xs, hxl with
  | [c0, c1, c2], _, [y0, y1, y2], _ =>
    have g0 := hg 0 _ rfl
    have g1 := hg 1 _ rfl
    have g2 := hg 2 _ rfl
    simp [Value.cells, cellsI] at g0 g1 g2
    obtain ⟨z0, e0, _, _⟩ := DataW.trod_int Tryz.underlying3 g0
    obtain ⟨z1, e1, _, _⟩ := DataW.trod_int Tryz.underlying3 g1
    obtain ⟨z2, e2, _, _⟩ := DataW.trod_int Tryz.underlying3 g2
    simp at e0 e1 e2
    exact ⟨z0, z1, z2, by rw [e0, e1, e2]⟩

/-- Numbers as they come in. -/
theorem open_rd {H : Type} {enc : TypeId × Value → H} {w : World} {base : Nat} {spare : Nat → Bool} {held : Bool} {A : Option Addr} {n c : Nat} {d : DataW H} {p : List MemPlace}
    (h : DataW.Trod enc Tryz.prog w base spare held 27 (.slice A n c) d p) : ∃ l, RdI w A n l ∧ n ≤ c ∧ c ≤ 9223372036854775807 ∧ (A = none → n = 0 ∧ c = 0) := by
  obtain ⟨fuel, hf⟩ := h
  rcases open_ints Tryz.underlying27 Tryz.underlying3 cellsInt1 hf with ⟨hcs, _⟩ | ⟨a, len, cap, zs, hcs, _, hl, hm, hz, _, hcell, _⟩
  · simp [Value.cells] at hcs
    obtain ⟨rfl, rfl, rfl⟩ := hcs
    exact ⟨[], ⟨rfl, fun h => absurd h (by omega)⟩, by omega, by omega, fun _ => ⟨rfl, rfl⟩⟩
  · simp [Value.cells] at hcs
    obtain ⟨rfl, rfl, rfl⟩ := hcs
    have hlen : n ≤ zs.length := by rw [hz]; split <;> omega
    refine ⟨zs.take n, ⟨by rw [List.length_take]; omega, fun hn => ⟨a, rfl, ?_, fun j hj => ?_⟩⟩, hl, by unfold maxLen at hm; omega, fun h => by cases h⟩
    · have := lt_of_cell (hcell 0 (by omega))
      rwa [addBlock] at this
    · rw [hcell j (by omega)]
      simp [List.getD_eq_getElem?_getD, List.getElem?_take, hj]

/-- Numbers of a field as they come in. -/
theorem open_rdf {H : Type} {enc : TypeId × Value → H} {w : World} {base : Nat} {spare : Nat → Bool} {held : Bool} {fuel : Nat} {v : Value} {x : DataW H × List MemPlace}
    (hf : DataW.trod enc Tryz.prog w base spare held fuel 27 [v] = some x) : ∃ A n c l, v = .slice A n c ∧ RdI w A n l ∧ n ≤ c ∧ c ≤ 9223372036854775807 ∧ (A = none → n = 0 ∧ c = 0) := by
  rcases open_ints Tryz.underlying27 Tryz.underlying3 cellsInt1 hf with ⟨hcs, _⟩ | ⟨a, len, cap, zs, hcs, _, hl, hm, hz, _, hcell, _⟩
  · injection hcs with hcs
    exact ⟨none, 0, 0, [], hcs, ⟨rfl, fun h => absurd h (by omega)⟩, by omega, by omega, fun _ => ⟨rfl, rfl⟩⟩
  · injection hcs with hcs
    have hlen : len ≤ zs.length := by rw [hz]; split <;> omega
    refine ⟨some a, len, cap, zs.take len, hcs, ⟨by rw [List.length_take]; omega, fun hn => ⟨a, rfl, ?_, fun j hj => ?_⟩⟩, hl, by unfold maxLen at hm; omega, fun h => by cases h⟩
    · have := lt_of_cell (hcell 0 (by omega))
      rwa [addBlock] at this
    · rw [hcell j (by omega)]
      simp [List.getD_eq_getElem?_getD, List.getElem?_take, hj]
set_option maxRecDepth 100000 in
/-- A filter as it comes in. -/
theorem open_filter {H : Type} {enc : TypeId × Value → H} {w : World} {base : Nat} {spare : Nat → Bool} {held : Bool} {r : Reach} {b0 : Nat} {v : Value} {d : DataW H} {p : List MemPlace}
    (hv : Value.okWide Tryz.prog w r b0 29 v) (h : DataW.Trod enc Tryz.prog w base spare held 29 v d p) :
    ∃ A n c b l, v = .agg #[.slice A n c, .int .i64 b] ∧ RdI w A n l ∧ n ≤ c ∧ c ≤ 9223372036854775807 ∧ (A = none → n = 0 ∧ c = 0) := by
  obtain ⟨cs, rfl, hsz⟩ := okWide_struct Tryz.underlying29 hv
  obtain ⟨fuel, hf⟩ := h
  obtain ⟨xs, n, _, _, hl, hxl, hg⟩ := DataW.trod_struct Tryz.underlying29 hf
  have h2 : Tryz.prog.cellsOf 29 = 2 := by kernel_rfl
  obtain ⟨l⟩ := cs
  have hl2 : l.length = 2 := by rw [← h2]; simpa using hsz
  match l, hl2, xs, hxl with
  | [c0, c1], _, [y0, y1], _ =>
    have g0 := hg 0 _ rfl
    have g1 := hg 1 _ rfl
    simp [Value.cells, cellsI, cellsInts] at g0 g1
    obtain ⟨A, n', c, l, rfl, hr, h3, h4, h5⟩ := open_rdf g0
    obtain ⟨z1, e1, _, _⟩ := DataW.trod_int Tryz.underlying3 g1
    simp at e1
    exact ⟨A, n', c, z1, l, by rw [e1], hr, h3, h4, h5⟩
end Go.Proofs.YtjjflbnopphciacGreatDoor.op


namespace Go.Proofs.YtjjflbnopphciacGreatDoor
open Go.RowKit

theorem lit1 (W : World) (b : Nat) (x : Int) (h : W.cell? ⟨b, 0, none⟩ = some (.int .i64 x)) : RdI W (some ⟨b, 0, none⟩) 1 [x] :=
  ⟨rfl, fun _ => ⟨_, rfl, World.block_lt_of_cell? _ _ h, fun j hj => by obtain rfl : j = 0 := by omega
                                                                        rw [addOff]; exact h⟩⟩
theorem lit2 (W : World) (b : Nat) (x y : Int) (h : W.cell? ⟨b, 0, none⟩ = some (.int .i64 x)) (h' : W.cell? ⟨b, 1, none⟩ = some (.int .i64 y)) : RdI W (some ⟨b, 0, none⟩) 2 [x, y] :=
  ⟨rfl, fun _ => ⟨_, rfl, World.block_lt_of_cell? _ _ h, fun j hj => by
    rcases (by omega : j = 0 ∨ j = 1) with rfl | rfl
    · rw [addOff]; exact h
    · rw [addOff]; exact h'⟩⟩
theorem lit3 (W : World) (b : Nat) (x y z : Int) (h : W.cell? ⟨b, 0, none⟩ = some (.int .i64 x)) (h' : W.cell? ⟨b, 1, none⟩ = some (.int .i64 y)) (h'' : W.cell? ⟨b, 2, none⟩ = some (.int .i64 z)) : RdI W (some ⟨b, 0, none⟩) 3 [x, y, z] :=
  ⟨rfl, fun _ => ⟨_, rfl, World.block_lt_of_cell? _ _ h, fun j hj => by
    rcases (by omega : j = 0 ∨ j = 1 ∨ j = 2) with rfl | rfl | rfl
    · rw [addOff]; exact h
    · rw [addOff]; exact h'
    · rw [addOff]; exact h''⟩⟩
theorem lit4 (W : World) (b : Nat) (x y z u : Int) (h : W.cell? ⟨b, 0, none⟩ = some (.int .i64 x)) (h' : W.cell? ⟨b, 1, none⟩ = some (.int .i64 y)) (h'' : W.cell? ⟨b, 2, none⟩ = some (.int .i64 z)) (h''' : W.cell? ⟨b, 3, none⟩ = some (.int .i64 u)) : RdI W (some ⟨b, 0, none⟩) 4 [x, y, z, u] :=
  ⟨rfl, fun _ => ⟨_, rfl, World.block_lt_of_cell? _ _ h, fun j hj => by
    rcases (by omega : j = 0 ∨ j = 1 ∨ j = 2 ∨ j = 3) with rfl | rfl | rfl | rfl
    · rw [addOff]; exact h
    · rw [addOff]; exact h'
    · rw [addOff]; exact h''
    · rw [addOff]; exact h'''⟩⟩

/-- What goes in a quiet region. -/
theorem quietP {P : Program} {f : FuncId} {args : Array Value} {w : World} {n : Nat} {v : Value}
    (h : Calls P f args (w.drewN n) fun e w' => e = .returned v ∧ w.drewN n = w') : Calls P f args (w.drewN n) fun e w'' => e = .returned v ∧ ∃ m, w'' = w.drewN m :=
  h.mono fun _ _ ⟨he, hm⟩ => ⟨he, n, hm.symm⟩
theorem quietD {P : Program} {f : FuncId} {args : Array Value} {w : World} {n : Nat} {v : Value}
    (h : Calls P f args (w.drewN n) fun e w' => e = .returned v ∧ ∃ k, w' = (w.drewN n).drewN k) : Calls P f args (w.drewN n) fun e w'' => e = .returned v ∧ ∃ m, w'' = w.drewN m := Calls.quiet_of h

theorem retI {a b : Int} (h : a = b) : Ending.returned (.int .i64 a) = Ending.returned (.int .i64 b) := by rw [h]
theorem retB {a b : Bool} (h : a = b) : Ending.returned (.bool a) = Ending.returned (.bool b) := by rw [h]
theorem retI2 {a b c d : Int} (h : a = c) (k : b = d) : Ending.returned (.tuple #[.int .i64 a, .int .i64 b]) = Ending.returned (.tuple #[.int .i64 c, .int .i64 d]) := by rw [h, k]
theorem retI3 {a b c d e f : Int} (h : a = c) (k : b = d) (l : e = f) : Ending.returned (.tuple #[.int .i64 a, .int .i64 b, .int .i64 e]) = Ending.returned (.tuple #[.int .i64 c, .int .i64 d, .int .i64 f]) := by rw [h, k, l]
theorem retIB {a c : Int} {b d : Bool} (h : a = c) (k : b = d) : Ending.returned (.tuple #[.int .i64 a, .bool b]) = Ending.returned (.tuple #[.int .i64 c, .bool d]) := by rw [h, k]
theorem ne0_of {F : Int} (h : (F != 0) = true) : ¬ F = 0 := by simpa using h
theorem eq0_of {F : Int} (h : (F != 0) = false) : F = 0 := by simpa using h

/-! ### numbers -/
theorem down_any (n d : Int) (hn : -4611686018427387904 ≤ n ∧ n ≤ 4611686018427387904) (hd : 0 < d ∧ d ≤ 4611686018427387904) (w : World) :
    Calls Tryz.prog 84 #[.int .i64 n, .int .i64 d] w fun e w' => e = .returned (.int .i64 (n / d)) ∧ w = w' := by
  have hf := Lib.hid (tdiv_floor n d hd.1)
  have hq : -4611686018427387904 ≤ n.tdiv d ∧ n.tdiv d ≤ 4611686018427387904 := by
    have h1 := Int.natAbs_tdiv_le_natAbs n d
    omega
  have HQ := Lib.hid hq
  clear hq
  have hd0 : d ≠ 0 := by omega
  have hd1 : (d == 0) = false := by simpa using hd0
  go_enter Tryz.func84, Tryz.ntmps84
  go_wp2
  all_goals go_ret
  · have h : n.tmod d < 0 := by assumption
    have h2 := hf.out
    have h3 := HQ.out
    rw [if_pos h] at h2
    refine ⟨?_, rfl⟩
    show Ending.returned (Value.int .i64 (wrap64 (n.tdiv d - 1))) = _
    rw [IntWalk.wrap64_in _ ⟨by omega, by omega⟩, h2]
  · have h : 0 ≤ n.tmod d := by assumption
    have h2 := hf.out
    rw [if_neg (by omega)] at h2
    refine ⟨?_, rfl⟩
    show Ending.returned (Value.int .i64 (n.tdiv d)) = _
    rw [h2]

theorem ediv_bd (n d : Int) (hn : -4611686018427387904 ≤ n ∧ n ≤ 4611686018427387904) (hd : 0 < d) : -4611686018427387904 ≤ n / d ∧ n / d ≤ 4611686018427387904 := by
  constructor
  · rw [Int.le_ediv_iff_mul_le hd]
    have : (-4611686018427387904) * d ≤ (-4611686018427387904) * 1 := Int.mul_le_mul_of_nonpos_left (by omega) (by omega)
    omega
  · have h1 : n / d < 4611686018427387904 + 1 := by
      rw [Int.ediv_lt_iff_lt_mul hd]
      have : (4611686018427387905 : Int) * 1 ≤ 4611686018427387905 * d := Int.mul_le_mul_of_nonneg_left (by omega) (by omega)
      omega
    omega

/-- A quotient, rounded up. -/
def upF (n d : Int) : Int := -((-n) / d)
theorem up_any (n d : Int) (hn : -4611686018427387904 ≤ n ∧ n ≤ 4611686018427387904) (hd : 0 < d ∧ d ≤ 4611686018427387904) (w : World) :
    Calls Tryz.prog 59 #[.int .i64 n, .int .i64 d] w fun e w' => e = .returned (.int .i64 (upF n d)) ∧ w = w' := by
  have C := Lib.hid (down_any (-n) d ⟨by omega, by omega⟩ hd w)
  have h1 : IntKind.i64.wrap (-n) = -n := IntWalk.i64_in _ (by omega)
  have hb := ediv_bd (-n) d ⟨by omega, by omega⟩ hd.1
  have HE : Hid (upF n d = -((-n) / d)) := rfl
  obtain ⟨q, hq⟩ : ∃ q, (-n) / d = q := ⟨_, rfl⟩
  rw [hq] at C hb HE
  have h2 : IntKind.i64.wrap (-q) = -q := IntWalk.i64_in _ (by omega)
  clear hq
  go_enter Tryz.func59, Tryz.ntmps59
  go_wp2_with (go_at_call 84; refine C.out.mono ?_; rintro e w' ⟨rfl, rfl⟩)
  go_ret
  exact ⟨by rw [HE.out]; rfl, rfl⟩
def absF (n : Int) : Int := if n < 0 then -n else n
theorem bsize_any (n : Int) (w : World) (h : -4611686018427387904 ≤ n ∧ n ≤ 4611686018427387904) :
    Calls Tryz.prog 96 #[.int .i64 n] w fun e w' => e = .returned (.int .i64 (absF n)) ∧ w = w' := size_any n w h
theorem rsize_any (n : Int) (w : World) (h : -4611686018427387904 ≤ n ∧ n ≤ 4611686018427387904) :
    Calls Tryz.prog 54 #[.int .i64 n] w fun e w' => e = .returned (.int .i64 (absF n)) ∧ w = w' := by
  have hw : IntKind.i64.wrap (-n) = -n := IntWalk.i64_in _ (by omega)
  unfold absF
  by_cases h0 : n < 0
  · have h1 : n < -n := by omega
    go_enter Tryz.func54, Tryz.ntmps54
    go_wp2
    go_ret
    exact ⟨by first | rfl | (rw [if_pos h0]; rfl), rfl⟩
  · have h1 : ¬ n < -n := by omega
    go_enter Tryz.func54, Tryz.ntmps54
    go_wp2
    go_ret
    exact ⟨by first | rfl | (rw [if_neg h0]; rfl), rfl⟩

theorem nearest_any (n d : Int) (hn : -1000000000000000000 ≤ n ∧ n ≤ 1000000000000000000) (hd : 0 < d ∧ d ≤ 1000000000000000000) (w : World) :
    Calls Tryz.prog 83 #[.int .i64 n, .int .i64 d] w fun e w' => e = .returned (.int .i64 ((2 * n + d) / (2 * d))) ∧ w = w' := by
  have h1 : IntKind.i64.wrap (2 * n) = 2 * n := IntWalk.i64_in _ (by omega)
  have h2 : IntKind.i64.wrap (2 * n + d) = 2 * n + d := IntWalk.i64_in _ (by omega)
  have h3 : IntKind.i64.wrap (2 * d) = 2 * d := IntWalk.i64_in _ (by omega)
  have C := Lib.hid (down_any (2 * n + d) (2 * d) ⟨by omega, by omega⟩ ⟨by omega, by omega⟩ w)
  go_enter Tryz.func83, Tryz.ntmps83
  go_wp2_with (go_at_call 84; refine C.out.mono ?_; rintro e w' ⟨rfl, rfl⟩)
  go_ret
  exact ⟨rfl, rfl⟩

/-! ### errors -/
theorem when_any (b : Bool) (E : Int) (w : World) :
    Calls Tryz.prog 65 #[.bool b, .int .i64 E] w fun e w' => e = .returned (.int .i64 (if b = true then E else 0)) ∧ w = w' := by
  cases b
  all_goals
    go_enter Tryz.func65, Tryz.ntmps65
    go_wp2
    go_ret
    exact ⟨rfl, rfl⟩

/-- The error of a number, of numbers. -/
def rngE (lo hi : Int) (xs : List Int) : Int := if fromB lo hi xs = true then 0 else 2
theorem rngE_one (lo hi n : Int) : rngE lo hi [n] = if lo ≤ n ∧ n ≤ hi then 0 else 2 := by
  unfold rngE fromB
  by_cases h : lo ≤ n ∧ n ≤ hi
  · rw [if_pos h, if_pos (by simp [h.1, h.2])]
  · rw [if_neg h, if_neg (by simp; omega)]
theorem rngE_step (lo hi : Int) (xs : List Int) (k : Nat) (hk : k < xs.length) :
    rngE lo hi (xs.drop k) = if rngE lo hi [xs.getD k 0] = 0 then rngE lo hi (xs.drop (k + 1)) else rngE lo hi [xs.getD k 0] := by
  unfold rngE
  rw [fromB_step lo hi xs k hk]
  have e : fromB lo hi [xs.getD k 0] = (decide (lo ≤ xs.getD k 0) && decide (xs.getD k 0 ≤ hi)) := by simp [fromB]
  rw [e]
  cases (decide (lo ≤ xs.getD k 0) && decide (xs.getD k 0 ≤ hi)) <;> cases fromB lo hi (xs.drop (k + 1)) <;> rfl

theorem from_any (lo hi : Int) (w : World) :
    Calls Tryz.prog 49 #[.int .i64 lo, .int .i64 hi] w fun e w' => e = .returned (.func (.func 81) #[] #[.pointer (some ⟨w.heap.size, 0, none⟩), .pointer (some ⟨w.heap.size + 1, 0, none⟩)]) ∧ w' = (w.alloc (.cells #[.int .i64 lo] 3)).alloc (.cells #[.int .i64 hi] 3) := by
  go_enter Tryz.func49, Tryz.ntmps49
  go_wp2
  go_ret
  exact ⟨rfl, rfl⟩
theorem atMost_any (m : Int) (hm : -4611686018427387904 ≤ m ∧ m ≤ 4611686018427387904) (w : World) :
    Calls Tryz.prog 72 #[.int .i64 m] w fun e w' => e = .returned (.func (.func 81) #[] #[.pointer (some ⟨w.heap.size, 0, none⟩), .pointer (some ⟨w.heap.size + 1, 0, none⟩)]) ∧ w' = (w.alloc (.cells #[.int .i64 (-m)] 3)).alloc (.cells #[.int .i64 m] 3) := by
  have h1 : IntKind.i64.wrap (-m) = -m := IntWalk.i64_in _ (by omega)
  have C := Lib.hid (from_any (-m) m w)
  go_enter Tryz.func72, Tryz.ntmps72
  go_wp2_with (go_at_call 49; refine C.out.mono ?_; rintro e w' ⟨rfl, rfl⟩)
  go_ret
  exact ⟨rfl, rfl⟩
theorem from1_any (n lo hi : Int) (a b : Addr) (w : World) (ha : w.cell? a = some (.int .i64 lo)) (hb : w.cell? b = some (.int .i64 hi)) :
    Calls Tryz.prog 81 #[.int .i64 n, .pointer (some a), .pointer (some b)] w fun e w' => e = .returned (.int .i64 (rngE lo hi [n])) ∧ w = w' := by
  have HE := Lib.hid (rngE_one lo hi n)
  by_cases h1 : n < lo
  · have C := Lib.hid (when_any true 2 w)
    go_enter Tryz.func81, Tryz.ntmps81
    go_wp2_with (go_at_call 65; refine C.out.mono ?_; rintro e w' ⟨rfl, rfl⟩)
    go_ret
    exact ⟨by rw [HE.out, if_neg (by omega)]; rfl, rfl⟩
  · by_cases h2 : hi < n
    · have C := Lib.hid (when_any true 2 w)
      go_enter Tryz.func81, Tryz.ntmps81
      go_wp2_with (go_at_call 65; refine C.out.mono ?_; rintro e w' ⟨rfl, rfl⟩)
      go_ret
      exact ⟨by rw [HE.out, if_neg (by omega)]; rfl, rfl⟩
    · have C := Lib.hid (when_any false 2 w)
      go_enter Tryz.func81, Tryz.ntmps81
      go_wp2_with (go_at_call 65; refine C.out.mono ?_; rintro e w' ⟨rfl, rfl⟩)
      go_ret
      exact ⟨by rw [HE.out, if_pos (by omega)]; rfl, rfl⟩

/-- The first error of a list. -/
def firstNZ : List Int → Int
  | [] => 0
  | x :: xs => if x = 0 then firstNZ xs else x
theorem firstNZ_step (xs : List Int) (k : Nat) (hk : k < xs.length) : firstNZ (xs.drop k) = if xs.getD k 0 = 0 then firstNZ (xs.drop (k + 1)) else xs.getD k 0 := by
  rw [List.drop_eq_getElem_cons hk]
  simp only [firstNZ, List.getD_eq_getElem?_getD, List.getElem?_eq_getElem hk, Option.getD_some]
set_option maxHeartbeats 1000000 in
theorem firstError_any (A : Option Addr) (n c : Nat) (xs : List Int) (w : World) (hr : RdI w A n xs) (hn : n ≤ 9223372036854775806) :
    Calls Tryz.prog 33 #[.slice A n c] w fun e w' => e = .returned (.int .i64 (firstNZ xs)) ∧ w = w' := by
  have HR := Lib.hid hr; clear hr
  go_enter Tryz.func33, Tryz.ntmps33
  go_wp2
  go_loop [7] (fun i => ∃ k : Nat, k ≤ n ∧ i = .int .i64 k ∧ Hid (firstNZ xs = firstNZ (xs.drop k))) (fun i => n - (intOf i).toNat)
  case atStart => exact ⟨0, Nat.zero_le _, rfl, rfl⟩
  case round =>
    obtain ⟨k, hk, rfl, HF⟩ := hrel
    by_cases hlt : k < n
    · obtain ⟨ad, ha, _, hc⟩ := HR.out.2 (by omega)
      have hck := hc k hlt
      clear hc
      subst ha
      obtain ⟨x, hx⟩ : ∃ x, xs.getD k 0 = x := ⟨_, rfl⟩
      have hs := firstNZ_step xs k (by have := HR.out.1; omega)
      rw [hx] at hck hs
      have HS := Lib.hid hs; clear hs hx
      have hkI : (k : Int) < (n : Int) := by omega
      by_cases h0 : x = 0
      · subst h0
        go_wp2
        go_round
        case rel => exact ⟨k + 1, by omega, by go_num, by show _ = _; rw [HF.out, HS.out]; rfl⟩
        case measure => simp [intOf]; omega
      · have h1 : (x == 0) = false := by rw [beq_eq_false_iff_ne]; exact h0
        have h2 : (x != 0) = true := by rw [bne_iff_ne]; exact h0
        go_wp2
        go_ret
        exact ⟨by rw [HF.out, HS.out, if_neg h0]; rfl, rfl⟩
    · obtain rfl : n = k := by omega
      go_wp2
      go_ret
      exact ⟨by rw [HF.out, List.drop_eq_nil_of_le (by have := HR.out.1; omega)]; rfl, rfl⟩

set_option maxHeartbeats 1000000 in
theorem checkEach_any (A : Option Addr) (n c : Nat) (xs : List Int) (lo hi : Int) (a b : Addr) (w : World) (hr : RdI w A n xs) (hn : n ≤ 9223372036854775806) (ha : w.cell? a = some (.int .i64 lo)) (hb : w.cell? b = some (.int .i64 hi)) :
    Calls Tryz.prog 71 #[.slice A n c, .func (.func 81) #[] #[.pointer (some a), .pointer (some b)]] w fun e w' => e = .returned (.int .i64 (rngE lo hi xs)) ∧ w = w' := by
  have HR := Lib.hid hr; clear hr
  have C := Lib.hid (fun n => from1_any n lo hi a b w ha hb)
  clear ha hb
  go_enter Tryz.func71, Tryz.ntmps71
  go_wp2
  go_loop [10] (fun i => ∃ k : Nat, k ≤ n ∧ i = .int .i64 k ∧ Hid (rngE lo hi xs = rngE lo hi (xs.drop k))) (fun i => n - (intOf i).toNat)
  case atStart => exact ⟨0, Nat.zero_le _, rfl, rfl⟩
  case round =>
    obtain ⟨k, hk, rfl, HF⟩ := hrel
    by_cases hlt : k < n
    · obtain ⟨ad, ha, _, hc⟩ := HR.out.2 (by omega)
      have hck := hc k hlt
      clear hc
      subst ha
      obtain ⟨x, hx⟩ : ∃ x, xs.getD k 0 = x := ⟨_, rfl⟩
      have hs := rngE_step lo hi xs k (by have := HR.out.1; omega)
      rw [hx] at hck hs
      have CX := Lib.hid (C.out x)
      obtain ⟨E, hE⟩ : ∃ E, rngE lo hi [x] = E := ⟨_, rfl⟩
      rw [hE] at hs CX
      have HS := Lib.hid hs; clear hs hx hE
      have hkI : (k : Int) < (n : Int) := by omega
      by_cases h0 : E = 0
      · subst h0
        go_wp2_with (go_at_call 81; refine CX.out.mono ?_; rintro e w' ⟨rfl, rfl⟩)
        go_round
        case rel => exact ⟨k + 1, by omega, by go_num, by show _ = _; rw [HF.out, HS.out]; rfl⟩
        case measure => simp [intOf]; omega
      · have h1 : (E == 0) = false := by rw [beq_eq_false_iff_ne]; exact h0
        have h2 : (E != 0) = true := by rw [bne_iff_ne]; exact h0
        go_wp2_with (go_at_call 81; refine CX.out.mono ?_; rintro e w' ⟨rfl, rfl⟩)
        go_ret
        exact ⟨by rw [HF.out, HS.out, if_neg h0]; rfl, rfl⟩
    · obtain rfl : n = k := by omega
      go_wp2
      go_ret
      exact ⟨by rw [HF.out, List.drop_eq_nil_of_le (by have := HR.out.1; omega)]; rfl, rfl⟩

end Go.Proofs.YtjjflbnopphciacGreatDoor


namespace Go.Proofs.YtjjflbnopphciacGreatDoor
open Go.RowKit

theorem firstNZ2 (a b : Int) : firstNZ [a, b] = if a = 0 then b else a := by
  simp only [firstNZ]
  by_cases h : b = 0 <;> simp [h]
theorem firstNZ3 (a b c : Int) : firstNZ [a, b, c] = if a = 0 then (if b = 0 then c else b) else a := by
  simp only [firstNZ]
  by_cases h : c = 0 <;> simp [h]

def ampE (a : Int) : Int := rngE 0 32767 [a]
def frcE (a : Int) : Int := rngE 0 63 [a]
theorem below2 (w : World) (o p : Obj) : Below w.heap.size w ((w.alloc o).alloc p) := ((Below.refl _ _).alloc (Nat.le_refl _) _).alloc (by simp) _
theorem below3 (w : World) (o p q : Obj) : Below w.heap.size w (((w.alloc o).alloc p).alloc q) := (below2 w o p).alloc (by simp; omega) _

theorem checkAmplitude_any (n : Int) (w : World) :
    Calls Tryz.prog 57 #[.int .i64 n] w fun e w' => e = .returned (.int .i64 (ampE n)) ∧ Below w.heap.size w w' := by
  go_enter Tryz.func57, Tryz.ntmps57
  go_wp2_with (first | (go_at_call 49; refine (from_any _ _ _).mono ?_; rintro e w' ⟨rfl, rfl⟩) | (go_at_call 81; refine (from1_any n 0 32767 _ _ _ ?_ ?_).mono ?_; (focus (simp [go_sem])); (focus (simp [go_sem])); rintro e w' ⟨rfl, rfl⟩))
  go_ret
  exact ⟨rfl, below2 _ _ _⟩
/-- The error of as many numbers as a signal may have. -/
def numE (m : Int) (xs : List Int) : Int := if 400 < xs.length then 8 else rngE (-m) m xs
def sigE (xs : List Int) : Int := numE 32767 xs
def outE (xs : List Int) : Int := numE 1000000000000000 xs
theorem checkNumbers_any (A : Option Addr) (n c : Nat) (xs : List Int) (m : Int) (w : World) (hr : RdI w A n xs) (hn : n ≤ 9223372036854775806) (hm : 0 ≤ m ∧ m ≤ 4611686018427387904) :
    Calls Tryz.prog 80 #[.slice A n c, .int .i64 m] w fun e w' => e = .returned (.int .i64 (numE m xs)) ∧ Below w.heap.size w w' := by
  have HR := Lib.hid hr
  have HE : Hid (numE m xs = if 400 < n then 8 else rngE (-m) m xs) := by show _ = _; unfold numE; rw [hr.1]
  clear hr
  have C2 : Hid (∀ o p, Calls Tryz.prog 71 #[.slice A n c, .func (.func 81) #[] #[.pointer (some ⟨w.heap.size, 0, none⟩), .pointer (some ⟨w.heap.size + 1, 0, none⟩)]] ((w.alloc (.cells #[.int .i64 (-m)] o)).alloc (.cells #[.int .i64 m] p)) fun e w' => e = .returned (.int .i64 (rngE (-m) m xs)) ∧ ((w.alloc (.cells #[.int .i64 (-m)] o)).alloc (.cells #[.int .i64 m] p)) = w') := by
    intro o p
    exact checkEach_any A n c xs (-m) m _ _ _ (HR.out.below (below2 _ _ _)) hn (by simp [go_sem]) (by simp [go_sem])
  obtain ⟨E, hE⟩ : ∃ E, rngE (-m) m xs = E := ⟨_, rfl⟩
  rw [hE] at C2 HE
  clear hE HR
  by_cases h1 : 400 < n
  · have h1I : (400 : Int) < (n : Int) := by omega
    go_enter Tryz.func80, Tryz.ntmps80
    go_wp2_with (first | (go_at_call 65; refine (when_any true 8 _).mono ?_; rintro e w' ⟨rfl, rfl⟩) | (go_at_call 72; refine (atMost_any m (by omega) _).mono ?_; rintro e w' ⟨rfl, rfl⟩) | (go_at_call 71; refine (C2.out _ _).mono ?_; rintro e w' ⟨rfl, rfl⟩) | (go_at_call 33; refine (firstError_any _ 2 2 [8, E] _ (lit2 _ _ _ _ ?_ ?_) (by omega)).mono ?_; (focus (simp [go_sem])); (focus (simp [go_sem])); rintro e w' ⟨rfl, rfl⟩))
    go_ret
    exact ⟨by rw [HE.out, if_pos h1]; rfl, below3 _ _ _ _⟩
  · have h1I : ¬ (400 : Int) < (n : Int) := by omega
    go_enter Tryz.func80, Tryz.ntmps80
    go_wp2_with (first | (go_at_call 65; refine (when_any false 8 _).mono ?_; rintro e w' ⟨rfl, rfl⟩) | (go_at_call 72; refine (atMost_any m (by omega) _).mono ?_; rintro e w' ⟨rfl, rfl⟩) | (go_at_call 71; refine (C2.out _ _).mono ?_; rintro e w' ⟨rfl, rfl⟩) | (go_at_call 33; refine (firstError_any _ 2 2 [0, E] _ (lit2 _ _ _ _ ?_ ?_) (by omega)).mono ?_; (focus (simp [go_sem])); (focus (simp [go_sem])); rintro e w' ⟨rfl, rfl⟩))
    go_ret
    exact ⟨by rw [HE.out, if_neg h1, firstNZ2, if_pos rfl]; rfl, below3 _ _ _ _⟩
theorem checkSignal_any (A : Option Addr) (n c : Nat) (xs : List Int) (w : World) (hr : RdI w A n xs) (hn : n ≤ 9223372036854775806) :
    Calls Tryz.prog 48 #[.slice A n c] w fun e w' => e = .returned (.int .i64 (sigE xs)) ∧ Below w.heap.size w w' := by
  have C := Lib.hid (checkNumbers_any A n c xs 32767 w hr hn (by omega))
  clear hr
  go_enter Tryz.func48, Tryz.ntmps48
  go_wp2_with (go_at_call 80; refine C.out.mono ?_; rintro e w' ⟨rfl, hb⟩)
  go_ret
  exact ⟨rfl, hb⟩

def eqzE (f s d : Int) : Int := if rngE (-1000) 1000 [f, s] = 0 then rngE 1 1000 [d] else rngE (-1000) 1000 [f, s]
set_option maxHeartbeats 4000000 in
theorem CheckEqualizer_any (f s d : Int) (w : World) :
    Calls Tryz.prog 56 #[.agg #[.int .i64 f, .int .i64 s, .int .i64 d]] w fun e w' => e = .returned (.int .i64 (eqzE f s d)) ∧ Below w.heap.size w w' := by
  have HE : Hid (eqzE f s d = firstNZ [rngE (-1000) 1000 [f, s], rngE 1 1000 [d]]) := by show _ = _; rw [firstNZ2]; rfl
  go_enter Tryz.func56, Tryz.ntmps56
  go_wp2
  go_region_held3 (fun w' : World => w'.cell? ⟨w.heap.size, 0, none⟩ = some (.int .i64 f) ∧ w'.cell? ⟨w.heap.size, 1, none⟩ = some (.int .i64 s) ∧ w'.cell? ⟨w.heap.size, 2, none⟩ = some (.int .i64 d)) ((go_split_ands; simp [go_sem, *])) (first
    | (go_at_call 49; refine (from_any _ _ _).mono ?_; rintro e w' ⟨rfl, rfl⟩)
    | (go_at_call 72; refine (atMost_any 1000 (by omega) _).mono ?_; rintro e w' ⟨rfl, rfl⟩)
    | (go_at_call 81; refine (from1_any d 1 1000 _ _ _ ?_ ?_).mono ?_; (focus (simp [go_sem])); (focus (simp [go_sem])); rintro e w' ⟨rfl, rfl⟩)
    | (go_at_call 71; refine (checkEach_any _ 2 2 [f, s] (-1000) 1000 _ _ _ (lit2 _ _ _ _ ?_ ?_) (by omega) ?_ ?_).mono ?_; (focus (simp [go_sem])); (focus (simp [go_sem])); (focus (simp [go_sem])); (focus (simp [go_sem])); rintro e w' ⟨rfl, rfl⟩)
    | (go_at_call 33; refine (firstError_any _ 2 2 [rngE (-1000) 1000 [f, s], rngE 1 1000 [d]] _ (lit2 _ _ _ _ ?_ ?_) (by omega)).mono ?_; (focus (simp [go_sem])); (focus (simp [go_sem])); rintro e w' ⟨rfl, rfl⟩))
  all_goals
    go_wp2
    go_ret
    exact ⟨by rw [HE.out]; rfl, by (repeat (first | exact Below.refl _ _ | refine Below.drew ?_ | refine belowDrewN ?_ _ | refine Below.alloc ?_ (by first | (simp; done) | (simp; omega)) _))⟩

/-! ### the bounds of equalizers -/
def strF (f s : Int) : Int := absF f + absF s
theorem absF_bd (n m : Int) (h : -m ≤ n ∧ n ≤ m) : 0 ≤ absF n ∧ absF n ≤ m := by unfold absF; split <;> omega
set_option maxRecDepth 100000 in
theorem strength_any (f s d : Int) (w : World) (hf : -1000 ≤ f ∧ f ≤ 1000) (hs : -1000 ≤ s ∧ s ≤ 1000) :
    Calls Tryz.prog 58 #[.agg #[.int .i64 f, .int .i64 s, .int .i64 d]] w fun e w' => e = .returned (.int .i64 (strF f s)) ∧ Below w.heap.size w w' := by
  have h1 := absF_bd f 1000 (by omega)
  have h2 := absF_bd s 1000 (by omega)
  have hz : IntKind.i64.wrap (absF f + absF s) = absF f + absF s := IntWalk.i64_in _ (by omega)
  go_enter Tryz.func58, Tryz.ntmps58
  go_wp2
  go_quiet ((go_at_call 54; exact quietP (rsize_any _ _ (by omega))))
  go_wp2
  go_ret
  exact ⟨rfl, by (repeat (first | exact Below.refl _ _ | refine Below.drew ?_ | refine belowDrewN ?_ _ | refine Below.alloc ?_ (by first | (simp; done) | (simp; omega)) _))⟩

theorem rngE_01 (lo hi : Int) (xs : List Int) : rngE lo hi xs = 0 ∨ rngE lo hi xs = 2 := by unfold rngE; split <;> simp
theorem rngE_zero {lo hi n : Int} (h : rngE lo hi [n] = 0) : lo ≤ n ∧ n ≤ hi := by
  rw [rngE_one] at h
  by_cases h1 : lo ≤ n ∧ n ≤ hi
  · exact h1
  · rw [if_neg h1] at h; cases h
theorem rngE_of {lo hi n : Int} (h : lo ≤ n ∧ n ≤ hi) : rngE lo hi [n] = 0 := by rw [rngE_one, if_pos h]
theorem rngE_two (lo hi a b : Int) : rngE lo hi [a, b] = if lo ≤ a ∧ a ≤ hi ∧ lo ≤ b ∧ b ≤ hi then 0 else 2 := by
  unfold rngE fromB
  by_cases h : lo ≤ a ∧ a ≤ hi ∧ lo ≤ b ∧ b ≤ hi
  · rw [if_pos h, if_pos (by simp [h.1, h.2.1, h.2.2.1, h.2.2.2])]
  · rw [if_neg h, if_neg (by simp; omega)]
theorem eqzE_zero {f s d : Int} (h : eqzE f s d = 0) : (-1000 ≤ f ∧ f ≤ 1000) ∧ (-1000 ≤ s ∧ s ≤ 1000) ∧ 1 ≤ d ∧ d ≤ 1000 := by
  unfold eqzE at h
  rw [rngE_two, rngE_one] at h
  by_cases h1 : -1000 ≤ f ∧ f ≤ 1000 ∧ -1000 ≤ s ∧ s ≤ 1000
  · rw [if_pos h1, if_pos rfl] at h
    by_cases h2 : 1 ≤ d ∧ d ≤ 1000
    · omega
    · rw [if_neg h2] at h; cases h
  · rw [if_neg h1] at h; simp at h
theorem eqzE_of {f s d : Int} (h : (-1000 ≤ f ∧ f ≤ 1000) ∧ (-1000 ≤ s ∧ s ≤ 1000) ∧ 1 ≤ d ∧ d ≤ 1000) : eqzE f s d = 0 := by
  unfold eqzE
  rw [rngE_two, rngE_one, if_pos (by omega)]
  simp; omega

theorem ampE_zero {a : Int} (h : ampE a = 0) : 0 ≤ a ∧ a ≤ 32767 := rngE_zero h
theorem mul_bd {a b A B : Int} (ha : -A ≤ a ∧ a ≤ A) (hb : -B ≤ b ∧ b ≤ B) (hA : 0 ≤ A) (hB : 0 ≤ B) : -(A * B) ≤ a * b ∧ a * b ≤ A * B := by
  have h : (a.natAbs : Int) * b.natAbs ≤ A * B := Int.mul_le_mul (by omega) (by omega) (by omega) hA
  have e : ((a * b).natAbs : Int) = (a.natAbs : Int) * b.natAbs := by rw [Int.natAbs_mul]; rfl
  rw [← e] at h
  obtain ⟨x, hx⟩ : ∃ x, a * b = x := ⟨_, rfl⟩
  obtain ⟨y, hy⟩ : ∃ y, A * B = y := ⟨_, rfl⟩
  rw [hx, hy] at h ⊢
  omega


theorem firstError2 {E1 E2 F : Int} (hF : firstNZ [E1, E2] = F) (W : World) (g : Nat) (h0 : W.cell? ⟨g, 0, none⟩ = some (.int .i64 E1)) (h1 : W.cell? ⟨g, 1, none⟩ = some (.int .i64 E2)) :
    Calls Tryz.prog 33 #[.slice (some ⟨g, 0, none⟩) 2 2] W fun e w' => e = .returned (.int .i64 F) ∧ W = w' := by
  subst hF
  exact firstError_any _ 2 2 [E1, E2] W (lit2 _ _ _ _ h0 h1) (by omega)
theorem firstError3 {E1 E2 E3 F : Int} (hF : firstNZ [E1, E2, E3] = F) (W : World) (g : Nat) (h0 : W.cell? ⟨g, 0, none⟩ = some (.int .i64 E1)) (h1 : W.cell? ⟨g, 1, none⟩ = some (.int .i64 E2)) (h2 : W.cell? ⟨g, 2, none⟩ = some (.int .i64 E3)) :
    Calls Tryz.prog 33 #[.slice (some ⟨g, 0, none⟩) 3 3] W fun e w' => e = .returned (.int .i64 F) ∧ W = w' := by
  subst hF
  exact firstError_any _ 3 3 [E1, E2, E3] W (lit3 _ _ _ _ _ h0 h1 h2) (by omega)
theorem firstError4 {E1 E2 E3 E4 F : Int} (hF : firstNZ [E1, E2, E3, E4] = F) (W : World) (g : Nat) (h0 : W.cell? ⟨g, 0, none⟩ = some (.int .i64 E1)) (h1 : W.cell? ⟨g, 1, none⟩ = some (.int .i64 E2)) (h2 : W.cell? ⟨g, 2, none⟩ = some (.int .i64 E3)) (h3 : W.cell? ⟨g, 3, none⟩ = some (.int .i64 E4)) :
    Calls Tryz.prog 33 #[.slice (some ⟨g, 0, none⟩) 4 4] W fun e w' => e = .returned (.int .i64 F) ∧ W = w' := by
  subst hF
  exact firstError_any _ 4 4 [E1, E2, E3, E4] W (lit4 _ _ _ _ _ _ h0 h1 h2 h3) (by omega)
theorem firstNZ_zero {xs : List Int} (h : firstNZ xs = 0) : ∀ x ∈ xs, x = 0 := by
  induction xs with
  | nil => simp
  | cons a l ih =>
    rw [firstNZ] at h
    by_cases h0 : a = 0
    · rw [if_pos h0] at h
      intro x hx
      rcases List.mem_cons.1 hx with rfl | hx
      · exact h0
      · exact ih h x hx
    · rw [if_neg h0] at h; exact absurd h h0

/-- What Below says of the cells. -/
theorem bcell {B : Nat} {W w1 : World} (hb : Below B W w1) : (∀ b o, b < B → w1.cell? ⟨b, o, none⟩ = W.cell? ⟨b, o, none⟩) ∧ (∀ b o, b < B → w1.frozen? ⟨b, o, none⟩ = W.frozen? ⟨b, o, none⟩) :=
  ⟨fun b o h => hb.cell (p := ⟨b, o, none⟩) h, fun b o h => hb.frozen (p := ⟨b, o, none⟩) h⟩

/-- The least bound: its error, and it. -/
def eqaE (f s d a : Int) : Int := firstNZ [eqzE f s d, ampE a]
def stbE (f s d a : Int) : Int := if eqaE f s d a = 0 then (if d - strF f s ≤ 0 then 22 else 0) else eqaE f s d a
def stbN (f s d a : Int) : Int := if stbE f s d a = 0 then upF (a * d) (d - strF f s) else 0
theorem eqaE_zero {f s d a : Int} (h : eqaE f s d a = 0) : (-1000 ≤ f ∧ f ≤ 1000) ∧ (-1000 ≤ s ∧ s ≤ 1000) ∧ (1 ≤ d ∧ d ≤ 1000) ∧ 0 ≤ a ∧ a ≤ 32767 := by
  have h1 := eqzE_zero (firstNZ_zero h (eqzE f s d) (by simp))
  have h2 := ampE_zero (firstNZ_zero h (ampE a) (by simp))
  exact ⟨h1.1, h1.2.1, h1.2.2, h2⟩
theorem strF_bd {f s : Int} (hf : -1000 ≤ f ∧ f ≤ 1000) (hs : -1000 ≤ s ∧ s ≤ 1000) : 0 ≤ strF f s ∧ strF f s ≤ 2000 := by
  have h1 := absF_bd f 1000 hf
  have h2 := absF_bd s 1000 hs
  unfold strF; omega


/-- A block of three integers known whole. -/
theorem bk3 {W : World} {g : Nat} {t : TypeId} {x y z : Int} (h : Bk W g t #[.int .i64 x, .int .i64 y, .int .i64 z]) : W.cell? ⟨g, 0, none⟩ = some (.int .i64 x) ∧ W.cell? ⟨g, 1, none⟩ = some (.int .i64 y) ∧ W.cell? ⟨g, 2, none⟩ = some (.int .i64 z) :=
  ⟨by rw [h.cell]; rfl, by rw [h.cell]; rfl, by rw [h.cell]; rfl⟩

theorem bk6 {W : World} {g : Nat} {t : TypeId} {a b c d e f : Value} (h : Bk W g t #[a, b, c, d, e, f]) : W.cell? ⟨g, 0, none⟩ = some a ∧ W.cell? ⟨g, 1, none⟩ = some b ∧ W.cell? ⟨g, 2, none⟩ = some c ∧ W.cell? ⟨g, 3, none⟩ = some d ∧ W.cell? ⟨g, 4, none⟩ = some e ∧ W.cell? ⟨g, 5, none⟩ = some f :=
  ⟨by rw [h.cell]; rfl, by rw [h.cell]; rfl, by rw [h.cell]; rfl, by rw [h.cell]; rfl, by rw [h.cell]; rfl, by rw [h.cell]; rfl⟩

end Go.Proofs.YtjjflbnopphciacGreatDoor


namespace Go.Proofs.YtjjflbnopphciacGreatDoor
open Go.RowKit

def itp1 : Value := .agg #[.int .i64 1, .int .i64 0, .int .i64 64, .func (.func 76) #[] #[], .int .i64 8192, .func (.func 77) #[] #[]]
def itp3 : Value := .agg #[.int .i64 3, .int .i64 1, .int .i64 1572864, .func (.func 78) #[] #[], .int .i64 402653184, .func (.func 79) #[] #[]]
def itp0 : Value := .agg #[.int .i64 0, .int .i64 0, .int .i64 0, .nilFunc, .int .i64 0, .nilFunc]

set_option maxRecDepth 100000 in
set_option maxHeartbeats 1000000 in
theorem itpOf_1 (w : World) :
    Calls Tryz.prog 47 #[.int .i64 1] w fun e w' => e = .returned (.tuple #[itp1, .int .i64 0]) ∧ Below w.heap.size w w' := by
  have i0 : ∀ w, (Instr.index 115 (.agg #[.int .i64 1, .int .i64 0, .int .i64 64, .func (.func 76) #[] #[], .int .i64 8192, .func (.func 77) #[] #[], .int .i64 3, .int .i64 1, .int .i64 1572864, .func (.func 78) #[] #[], .int .i64 402653184, .func (.func 79) #[] #[]]) (.int .i64 0)).run Tryz.prog w = .ok (.agg #[.int .i64 1, .int .i64 0, .int .i64 64, .func (.func 76) #[] #[], .int .i64 8192, .func (.func 77) #[] #[]]) w := fun _ => by kernel_rfl
  have i1 : ∀ w, (Instr.index 115 (.agg #[.int .i64 1, .int .i64 0, .int .i64 64, .func (.func 76) #[] #[], .int .i64 8192, .func (.func 77) #[] #[], .int .i64 3, .int .i64 1, .int .i64 1572864, .func (.func 78) #[] #[], .int .i64 402653184, .func (.func 79) #[] #[]]) (.int .i64 1)).run Tryz.prog w = .ok (.agg #[.int .i64 3, .int .i64 1, .int .i64 1572864, .func (.func 78) #[] #[], .int .i64 402653184, .func (.func 79) #[] #[]]) w := fun _ => by kernel_rfl
  go_enter Tryz.func47, Tryz.ntmps47
  go_wp2
  refine wp_loop_rounds 3 ?_
  rw [rounds_succ]
  go_wp2
  exact bodyPost_ret (v := .tuple #[itp1, .int .i64 0]) (by simp [results, Tryz.results47, go_sem, itp1]) rfl ⟨rfl, by go_grown⟩
set_option maxRecDepth 100000 in
set_option maxHeartbeats 1000000 in
theorem itpOf_3 (w : World) :
    Calls Tryz.prog 47 #[.int .i64 3] w fun e w' => e = .returned (.tuple #[itp3, .int .i64 0]) ∧ Below w.heap.size w w' := by
  have i0 : ∀ w, (Instr.index 115 (.agg #[.int .i64 1, .int .i64 0, .int .i64 64, .func (.func 76) #[] #[], .int .i64 8192, .func (.func 77) #[] #[], .int .i64 3, .int .i64 1, .int .i64 1572864, .func (.func 78) #[] #[], .int .i64 402653184, .func (.func 79) #[] #[]]) (.int .i64 0)).run Tryz.prog w = .ok (.agg #[.int .i64 1, .int .i64 0, .int .i64 64, .func (.func 76) #[] #[], .int .i64 8192, .func (.func 77) #[] #[]]) w := fun _ => by kernel_rfl
  have i1 : ∀ w, (Instr.index 115 (.agg #[.int .i64 1, .int .i64 0, .int .i64 64, .func (.func 76) #[] #[], .int .i64 8192, .func (.func 77) #[] #[], .int .i64 3, .int .i64 1, .int .i64 1572864, .func (.func 78) #[] #[], .int .i64 402653184, .func (.func 79) #[] #[]]) (.int .i64 1)).run Tryz.prog w = .ok (.agg #[.int .i64 3, .int .i64 1, .int .i64 1572864, .func (.func 78) #[] #[], .int .i64 402653184, .func (.func 79) #[] #[]]) w := fun _ => by kernel_rfl
  go_enter Tryz.func47, Tryz.ntmps47
  go_wp2
  refine wp_loop_rounds 3 ?_
  rw [rounds_succ]
  go_wp2
  rw [rounds_succ]
  go_wp2
  exact bodyPost_ret (v := .tuple #[itp3, .int .i64 0]) (by simp [results, Tryz.results47, go_sem, itp3]) rfl ⟨rfl, by go_grown⟩
set_option maxRecDepth 100000 in
set_option maxHeartbeats 1000000 in
theorem itpOf_no (n : Int) (w : World) (h1 : n ≠ 1) (h3 : n ≠ 3) :
    Calls Tryz.prog 47 #[.int .i64 n] w fun e w' => e = .returned (.tuple #[itp0, .int .i64 15]) ∧ Below w.heap.size w w' := by
  have i0 : ∀ w, (Instr.index 115 (.agg #[.int .i64 1, .int .i64 0, .int .i64 64, .func (.func 76) #[] #[], .int .i64 8192, .func (.func 77) #[] #[], .int .i64 3, .int .i64 1, .int .i64 1572864, .func (.func 78) #[] #[], .int .i64 402653184, .func (.func 79) #[] #[]]) (.int .i64 0)).run Tryz.prog w = .ok (.agg #[.int .i64 1, .int .i64 0, .int .i64 64, .func (.func 76) #[] #[], .int .i64 8192, .func (.func 77) #[] #[]]) w := fun _ => by kernel_rfl
  have i1 : ∀ w, (Instr.index 115 (.agg #[.int .i64 1, .int .i64 0, .int .i64 64, .func (.func 76) #[] #[], .int .i64 8192, .func (.func 77) #[] #[], .int .i64 3, .int .i64 1, .int .i64 1572864, .func (.func 78) #[] #[], .int .i64 402653184, .func (.func 79) #[] #[]]) (.int .i64 1)).run Tryz.prog w = .ok (.agg #[.int .i64 3, .int .i64 1, .int .i64 1572864, .func (.func 78) #[] #[], .int .i64 402653184, .func (.func 79) #[] #[]]) w := fun _ => by kernel_rfl
  have e1 : ((1 : Int) == n) = false := by rw [beq_eq_false_iff_ne]; omega
  have e3 : ((3 : Int) == n) = false := by rw [beq_eq_false_iff_ne]; omega
  clear h1 h3
  go_enter Tryz.func47, Tryz.ntmps47
  go_wp2
  refine wp_loop_rounds 3 ?_
  rw [rounds_succ]
  go_wp2
  rw [rounds_succ]
  go_wp2
  rw [rounds_succ]
  go_wp2
  exact bodyPost_ret (v := .tuple #[itp0, .int .i64 15]) (by simp [results, Tryz.results47, go_sem, itp0]) rfl ⟨rfl, by go_grown⟩

end Go.Proofs.YtjjflbnopphciacGreatDoor


namespace Go.Proofs.YtjjflbnopphciacGreatDoor
open Go.RowKit

/-! ### weights -/
theorem wrapM {a b A B : Int} (ha : -A ≤ a ∧ a ≤ A) (hb : -B ≤ b ∧ b ≤ B) (hA : 0 ≤ A) (hB : 0 ≤ B) (h : A * B ≤ 9000000000000000000) : IntKind.i64.wrap (a * b) = a * b := by
  have := mul_bd ha hb hA hB
  exact IntWalk.i64_in _ (by omega)
theorem mulB {a b : Int} (A B : Int) (ha : -A ≤ a ∧ a ≤ A) (hb : -B ≤ b ∧ b ≤ B) (hA : 0 ≤ A) (hB : 0 ≤ B) (C : Int) (h : A * B ≤ C) : -C ≤ a * b ∧ a * b ≤ C := by
  have := mul_bd ha hb hA hB
  omega
theorem wrapOf {a : Int} (A : Int) (h : -A ≤ a ∧ a ≤ A) (hA : A ≤ 9000000000000000000) : IntKind.i64.wrap a = a := IntWalk.i64_in _ (by omega)

def wts1 (f : Int) : List Int := [64 - f, f]
def wts3 (f : Int) : List Int := [-f * (f - 64) * (f - 128), 3 * (f + 64) * (f - 64) * (f - 128), -3 * (f + 64) * f * (f - 128), (f + 64) * f * (f - 64)]
theorem wts1_bd {f : Int} (h : 0 ≤ f ∧ f ≤ 63) : ∀ x ∈ wts1 f, -4000000 ≤ x ∧ x ≤ 4000000 := by
  intro x hx
  simp [wts1] at hx
  omega
/-- The products of a fraction and their bounds. -/
theorem prods {f : Int} (h : 0 ≤ f ∧ f ≤ 63) :
    (-4096 ≤ -f * (f - 64) ∧ -f * (f - 64) ≤ 4096) ∧ (-600000 ≤ -f * (f - 64) * (f - 128) ∧ -f * (f - 64) * (f - 128) ≤ 600000) ∧
    (-25000 ≤ 3 * (f + 64) * (f - 64) ∧ 3 * (f + 64) * (f - 64) ≤ 25000) ∧ (-3200000 ≤ 3 * (f + 64) * (f - 64) * (f - 128) ∧ 3 * (f + 64) * (f - 64) * (f - 128) ≤ 3200000) ∧
    (-25000 ≤ -3 * (f + 64) * f ∧ -3 * (f + 64) * f ≤ 25000) ∧ (-3200000 ≤ -3 * (f + 64) * f * (f - 128) ∧ -3 * (f + 64) * f * (f - 128) ≤ 3200000) ∧
    (-8192 ≤ (f + 64) * f ∧ (f + 64) * f ≤ 8192) ∧ (-600000 ≤ (f + 64) * f * (f - 64) ∧ (f + 64) * f * (f - 64) ≤ 600000) ∧
    (-76800000 ≤ (f + 64) * f * (f - 64) * (f - 128) ∧ (f + 64) * f * (f - 64) * (f - 128) ≤ 76800000) := by
  have a1 := mulB (a := -f) (b := f - 64) 64 64 (by omega) (by omega) (by omega) (by omega) 4096 (by omega)
  have a2 := mulB (a := -f * (f - 64)) (b := f - 128) 4096 128 a1 (by omega) (by omega) (by omega) 600000 (by omega)
  have b1 := mulB (a := 3 * (f + 64)) (b := f - 64) 384 64 (by omega) (by omega) (by omega) (by omega) 25000 (by omega)
  have b2 := mulB (a := 3 * (f + 64) * (f - 64)) (b := f - 128) 25000 128 b1 (by omega) (by omega) (by omega) 3200000 (by omega)
  have c1 := mulB (a := -3 * (f + 64)) (b := f) 384 64 (by omega) (by omega) (by omega) (by omega) 25000 (by omega)
  have c2 := mulB (a := -3 * (f + 64) * f) (b := f - 128) 25000 128 c1 (by omega) (by omega) (by omega) 3200000 (by omega)
  have d1 := mulB (a := f + 64) (b := f) 128 64 (by omega) (by omega) (by omega) (by omega) 8192 (by omega)
  have d2 := mulB (a := (f + 64) * f) (b := f - 64) 8192 64 d1 (by omega) (by omega) (by omega) 600000 (by omega)
  have d3 := mulB (a := (f + 64) * f * (f - 64)) (b := f - 128) 600000 128 d2 (by omega) (by omega) (by omega) 76800000 (by omega)
  exact ⟨a1, a2, b1, b2, c1, c2, d1, d2, d3⟩
theorem wts3_bd {f : Int} (h : 0 ≤ f ∧ f ≤ 63) : ∀ x ∈ wts3 f, -4000000 ≤ x ∧ x ≤ 4000000 := by
  obtain ⟨a1, a2, b1, b2, c1, c2, d1, d2, d3⟩ := prods h
  intro x hx
  simp only [wts3, List.mem_cons, List.not_mem_nil, or_false] at hx
  rcases hx with rfl | rfl | rfl | rfl <;> omega

theorem wts1_any (f : Int) (w : World) (h : 0 ≤ f ∧ f ≤ 63) :
    Calls Tryz.prog 76 #[.int .i64 f] w fun e w' => e = .returned (.slice (some ⟨w.heap.size, 0, none⟩) 2 2) ∧ w' = w.alloc (.cells (iArr (wts1 f)) 3) := by
  have h1 : IntKind.i64.wrap (64 - f) = 64 - f := IntWalk.i64_in _ (by omega)
  go_enter Tryz.func76, Tryz.ntmps76
  go_wp2
  go_ret
  exact ⟨rfl, rfl⟩
theorem rem1_any (f : Int) (w : World) (h : 0 ≤ f ∧ f ≤ 63) :
    Calls Tryz.prog 77 #[.int .i64 f] w fun e w' => e = .returned (.int .i64 (f * (f - 64))) ∧ w = w' := by
  have h1 : IntKind.i64.wrap (f - 64) = f - 64 := IntWalk.i64_in _ (by omega)
  have h2 : IntKind.i64.wrap (f * (f - 64)) = f * (f - 64) := wrapM (A := 64) (B := 64) (by omega) (by omega) (by omega) (by omega) (by omega)
  go_enter Tryz.func77, Tryz.ntmps77
  go_wp2
  go_ret
  exact ⟨rfl, rfl⟩
set_option maxHeartbeats 1000000 in
theorem wts3_any (f : Int) (w : World) (h : 0 ≤ f ∧ f ≤ 63) :
    Calls Tryz.prog 78 #[.int .i64 f] w fun e w' => e = .returned (.slice (some ⟨w.heap.size, 0, none⟩) 4 4) ∧ w' = w.alloc (.cells (iArr (wts3 f)) 3) := by
  obtain ⟨a1, a2, b1, b2, c1, c2, d1, d2, d3⟩ := prods h
  have h1 : IntKind.i64.wrap (-f) = -f := IntWalk.i64_in _ (by omega)
  have h2 : IntKind.i64.wrap (f - 64) = f - 64 := IntWalk.i64_in _ (by omega)
  have h3 : IntKind.i64.wrap (f - 128) = f - 128 := IntWalk.i64_in _ (by omega)
  have h4 : IntKind.i64.wrap (f + 64) = f + 64 := IntWalk.i64_in _ (by omega)
  have h5 : IntKind.i64.wrap (3 * (f + 64)) = 3 * (f + 64) := IntWalk.i64_in _ (by omega)
  have h6 : IntKind.i64.wrap (-3 * (f + 64)) = -3 * (f + 64) := IntWalk.i64_in _ (by omega)
  have k1 := wrapOf _ a1 (by omega)
  have k2 := wrapOf _ a2 (by omega)
  have k3 := wrapOf _ b1 (by omega)
  have k4 := wrapOf _ b2 (by omega)
  have k5 := wrapOf _ c1 (by omega)
  have k6 := wrapOf _ c2 (by omega)
  have k7 := wrapOf _ d1 (by omega)
  have k8 := wrapOf _ d2 (by omega)
  clear a1 a2 b1 b2 c1 c2 d1 d2 d3
  go_enter Tryz.func78, Tryz.ntmps78
  go_wp2
  go_ret
  exact ⟨rfl, rfl⟩
theorem rem3_any (f : Int) (w : World) (h : 0 ≤ f ∧ f ≤ 63) :
    Calls Tryz.prog 79 #[.int .i64 f] w fun e w' => e = .returned (.int .i64 ((f + 64) * f * (f - 64) * (f - 128))) ∧ w = w' := by
  obtain ⟨a1, a2, b1, b2, c1, c2, d1, d2, d3⟩ := prods h
  have h2 : IntKind.i64.wrap (f - 64) = f - 64 := IntWalk.i64_in _ (by omega)
  have h3 : IntKind.i64.wrap (f - 128) = f - 128 := IntWalk.i64_in _ (by omega)
  have h4 : IntKind.i64.wrap (f + 64) = f + 64 := IntWalk.i64_in _ (by omega)
  have k7 := wrapOf _ d1 (by omega)
  have k8 := wrapOf _ d2 (by omega)
  have k9 := wrapOf _ d3 (by omega)
  clear a1 a2 b1 b2 c1 c2 d1 d2 d3
  go_enter Tryz.func79, Tryz.ntmps79
  go_wp2
  go_ret
  exact ⟨rfl, rfl⟩

/-! ### values -/
/-- The index that is there instead of another one. -/
def clmp (n : Nat) (i : Int) : Nat := (max 0 (min i ((n : Int) - 1))).toNat
theorem clmp_lt {n : Nat} (hn : 0 < n) (i : Int) : clmp n i < n := by unfold clmp; omega
def vsum (ws xs : List Int) (first : Int) : Nat → Int
  | 0 => 0
  | k + 1 => vsum ws xs first k + ws.getD k 0 * xs.getD (clmp xs.length (first + k)) 0
theorem getD_bd {xs : List Int} {A : Int} (hA : 0 ≤ A) (h : ∀ x ∈ xs, -A ≤ x ∧ x ≤ A) (k : Nat) : -A ≤ xs.getD k 0 ∧ xs.getD k 0 ≤ A := by
  rw [List.getD_eq_getElem?_getD]
  by_cases hk : k < xs.length
  · rw [List.getElem?_eq_getElem hk]; exact h _ (List.getElem_mem hk)
  · rw [List.getElem?_eq_none (by omega)]; simp; omega
theorem vsum_bd {ws xs : List Int} {first : Int} (hw : ∀ x ∈ ws, -4000000 ≤ x ∧ x ≤ 4000000) (hx : ∀ x ∈ xs, -32767 ≤ x ∧ x ≤ 32767) : ∀ k : Nat, -(131068000000 * (k : Int)) ≤ vsum ws xs first k ∧ vsum ws xs first k ≤ 131068000000 * (k : Int)
  | 0 => by simp [vsum]
  | k + 1 => by
    have ih := vsum_bd (first := first) hw hx k
    have h := mulB 4000000 32767 (getD_bd (by omega) hw k) (getD_bd (by omega) hx (clmp xs.length (first + k))) (by omega) (by omega) 131068000000 (by omega)
    unfold vsum
    omega

end Go.Proofs.YtjjflbnopphciacGreatDoor


namespace Go.Proofs.YtjjflbnopphciacGreatDoor
open Go.RowKit

/-- The numerator of the value at a position. -/
def vnum1 (xs : List Int) (q : Int) : Int := vsum (wts1 (q % 64)) xs (q / 64) 2
def vnum3 (xs : List Int) (q : Int) : Int := vsum (wts3 (q % 64)) xs (q / 64 - 1) 4
theorem vsum_clear {ws xs : List Int} {first : Int} {k : Nat} {p q : Int} (hp : ws.getD k 0 = p) (hq : xs.getD (clmp xs.length (first + k)) 0 = q) : vsum ws xs first (k + 1) = vsum ws xs first k + p * q := by show vsum ws xs first k + ws.getD k 0 * xs.getD (clmp xs.length (first + k)) 0 = _; rw [hp, hq]

set_option maxRecDepth 100000 in
set_option maxHeartbeats 1000000 in
theorem num1_any (A : Option Addr) (n c : Nat) (xs : List Int) (q : Int) (w : World) (hr : RdI w A n xs) (hn : 0 < n ∧ n ≤ 1000000) (hx : ∀ x ∈ xs, -32767 ≤ x ∧ x ≤ 32767) (hq : 0 ≤ q ∧ q ≤ 100000000) :
    Calls Tryz.prog 51 #[itp1, .slice A n c, .int .i64 q] w fun e w' => e = .returned (.int .i64 (vnum1 xs q)) ∧ Below w.heap.size w w' := by
  have hw := wts1_bd (f := q % 64) (by omega)
  have HB : Hid (∀ k : Nat, -(131068000000 * (k : Int)) ≤ vsum (wts1 (q % 64)) xs (q / 64) k ∧ vsum (wts1 (q % 64)) xs (q / 64) k ≤ 131068000000 * (k : Int)) := fun k => vsum_bd hw hx k
  have HG : Hid (∀ k, -32767 ≤ xs.getD k 0 ∧ xs.getD k 0 ≤ 32767) := fun k => getD_bd (by omega) hx k
  have HWG : Hid (∀ k, -4000000 ≤ (wts1 (q % 64)).getD k 0 ∧ (wts1 (q % 64)).getD k 0 ≤ 4000000) := fun k => getD_bd (by omega) hw k
  have HR := Lib.hid hr
  have CW := Lib.hid (fun w => wts1_any (q % 64) w (by omega))
  have HN : Hid (vnum1 xs q = vsum (wts1 (q % 64)) xs (q / 64) 2) := rfl
  have HL : Hid ((wts1 (q % 64)).length = 2) := rfl
  clear hw hx hr
  obtain ⟨ws, hws⟩ : ∃ ws, wts1 (q % 64) = ws := ⟨_, rfl⟩
  rw [hws] at HB HWG CW HN HL
  clear hws
  obtain ⟨fi, hfi⟩ : ∃ fi, q / 64 = fi := ⟨_, rfl⟩
  have hfb : -1 ≤ fi ∧ fi ≤ 100000000 := by omega
  rw [hfi] at HB HN
  have hq64 : IntKind.i64.wrap (q / 64) = fi := by rw [← hfi]; exact IntWalk.i64_in _ (by omega)
  have HFI := Lib.hid hfi
  clear hfi
  unfold itp1
  go_enter Tryz.func51, Tryz.ntmps51
  go_wp2_with (go_at_call 76; refine (CW.out _).mono ?_; rintro e w' ⟨rfl, rfl⟩)
  have RW : Hid (RdI ((w.alloc (.cells #[.int .i64 1, .int .i64 0, .int .i64 64, .func (.func 76) #[] #[], .int .i64 8192, .func (.func 77) #[] #[]] 90)).alloc (.cells (iArr ws) 3)) (some ⟨w.heap.size + 1, 0, none⟩) 2 ws) := rd_of_bk (by have h := Bk.new (w.alloc (.cells #[.int .i64 1, .int .i64 0, .int .i64 64, .func (.func 76) #[] #[], .int .i64 8192, .func (.func 77) #[] #[]] 90)) 3 (iArr ws); simpa using h) HL.out
  have RX : Hid (RdI ((w.alloc (.cells #[.int .i64 1, .int .i64 0, .int .i64 64, .func (.func 76) #[] #[], .int .i64 8192, .func (.func 77) #[] #[]] 90)).alloc (.cells (iArr ws) 3)) A n xs) := HR.out.below (below2 _ _ _)
  have BW := Lib.hid (below2 w (.cells #[.int .i64 1, .int .i64 0, .int .i64 64, .func (.func 76) #[] #[], .int .i64 8192, .func (.func 77) #[] #[]] 90) (.cells (iArr ws) 3))
  obtain ⟨W, hW⟩ : ∃ W, (w.alloc (.cells #[.int .i64 1, .int .i64 0, .int .i64 64, .func (.func 76) #[] #[], .int .i64 8192, .func (.func 77) #[] #[]] 90)).alloc (.cells (iArr ws) 3) = W := ⟨_, rfl⟩
  rw [hW] at RW RX BW ⊢
  clear hW
  go_loop [8, 22] (fun s i => ∃ k : Nat, k ≤ 2 ∧ i = .int .i64 k ∧ s = .int .i64 (vsum ws xs fi k)) (fun _ i => 2 - (intOf i).toNat)
  case atStart => exact ⟨0, by omega, rfl, rfl⟩
  case round =>
    obtain ⟨k, hk, rfl, rfl⟩ := hrel
    by_cases hlt : k < 2
    · have hck : W.cell? ⟨w.heap.size + 1, k, none⟩ = some (.int .i64 (ws.getD k 0)) := by
        obtain ⟨ad, ha, _, hc⟩ := RW.out.2 (by omega)
        obtain rfl := Option.some.inj ha
        have := hc k hlt
        rwa [addOff] at this
      obtain ⟨ad, ha, _, hc⟩ := RX.out.2 hn.1
      obtain ⟨j, hj⟩ : ∃ j, clmp xs.length (fi + k) = j := ⟨_, rfl⟩
      have hjn : j < n := by rw [← hj, HR.out.1]; exact clmp_lt hn.1 _
      have hcj := hc j hjn
      clear hc
      subst ha
      obtain ⟨p, hp⟩ : ∃ p, ws.getD k 0 = p := ⟨_, rfl⟩
      obtain ⟨y, hy⟩ : ∃ y, xs.getD j 0 = y := ⟨_, rfl⟩
      have hpb := HWG.out k
      have hyb := HG.out j
      rw [hp] at hck hpb
      rw [hy] at hcj hyb
      have HS : Hid (vsum ws xs fi (k + 1) = vsum ws xs fi k + p * y) := vsum_clear hp (by rw [hj]; exact hy)
      have hsb := HB.out k
      have hsb2 := HB.out (k + 1)
      rw [HS.out] at hsb2
      obtain ⟨s, hs⟩ : ∃ s, vsum ws xs fi k = s := ⟨_, rfl⟩
      rw [hs] at hsb hsb2 HS ⊢
      have hpy := mulB (a := p) (b := y) 4000000 32767 hpb hyb (by omega) (by omega) 131068000000 (by omega)
      obtain ⟨m, hm⟩ : ∃ m : Int, (if (n : Int) - 1 < fi + k then (n : Int) - 1 else fi + k) = m := ⟨_, rfl⟩
      have hmj : (if 0 < m then m else 0) = (j : Int) := by
        have e := HR.out.1
        rw [← hj, ← hm, e]
        unfold clmp
        split <;> split <;> omega
      have w1 : IntKind.i64.wrap (fi + (k : Int)) = fi + k := IntWalk.i64_in _ (by omega)
      have w2 : IntKind.i64.wrap ((n : Int) - 1) = (n : Int) - 1 := IntWalk.i64_in _ (by omega)
      have w3 : IntKind.i64.wrap (p * y) = p * y := IntWalk.i64_in _ (by omega)
      have w4 : IntKind.i64.wrap (s + p * y) = s + p * y := IntWalk.i64_in _ (by omega)
      have hjI : (j : Int) < (n : Int) := by omega
      have hkI : (k : Int) < 2 := by omega
      clear hj hp hy hs hpb hyb hsb hsb2 hpy
      go_wp2
      go_round
      case rel => exact ⟨k + 1, by omega, by go_num, by rw [HS.out]⟩
      case measure => simp [intOf]; omega
    · obtain rfl : k = 2 := by omega
      go_wp2
      go_ret
      exact ⟨retI HN.out.symm, BW.out⟩

set_option maxRecDepth 100000 in
set_option maxHeartbeats 1000000 in
theorem num3_any (A : Option Addr) (n c : Nat) (xs : List Int) (q : Int) (w : World) (hr : RdI w A n xs) (hn : 0 < n ∧ n ≤ 1000000) (hx : ∀ x ∈ xs, -32767 ≤ x ∧ x ≤ 32767) (hq : 0 ≤ q ∧ q ≤ 100000000) :
    Calls Tryz.prog 51 #[itp3, .slice A n c, .int .i64 q] w fun e w' => e = .returned (.int .i64 (vnum3 xs q)) ∧ Below w.heap.size w w' := by
  have hw := wts3_bd (f := q % 64) (by omega)
  have HB : Hid (∀ k : Nat, -(131068000000 * (k : Int)) ≤ vsum (wts3 (q % 64)) xs (q / 64 - 1) k ∧ vsum (wts3 (q % 64)) xs (q / 64 - 1) k ≤ 131068000000 * (k : Int)) := fun k => vsum_bd hw hx k
  have HG : Hid (∀ k, -32767 ≤ xs.getD k 0 ∧ xs.getD k 0 ≤ 32767) := fun k => getD_bd (by omega) hx k
  have HWG : Hid (∀ k, -4000000 ≤ (wts3 (q % 64)).getD k 0 ∧ (wts3 (q % 64)).getD k 0 ≤ 4000000) := fun k => getD_bd (by omega) hw k
  have HR := Lib.hid hr
  have CW := Lib.hid (fun w => wts3_any (q % 64) w (by omega))
  have HN : Hid (vnum3 xs q = vsum (wts3 (q % 64)) xs (q / 64 - 1) 4) := rfl
  have HL : Hid ((wts3 (q % 64)).length = 4) := rfl
  clear hw hx hr
  obtain ⟨ws, hws⟩ : ∃ ws, wts3 (q % 64) = ws := ⟨_, rfl⟩
  rw [hws] at HB HWG CW HN HL
  clear hws
  obtain ⟨fi, hfi⟩ : ∃ fi, q / 64 - 1 = fi := ⟨_, rfl⟩
  have hfb : -1 ≤ fi ∧ fi ≤ 100000000 := by omega
  rw [hfi] at HB HN
  have hq64 : IntKind.i64.wrap (q / 64 - 1) = fi := by rw [← hfi]; exact IntWalk.i64_in _ (by omega)
  have HFI := Lib.hid hfi
  clear hfi
  unfold itp3
  go_enter Tryz.func51, Tryz.ntmps51
  go_wp2_with (go_at_call 78; refine (CW.out _).mono ?_; rintro e w' ⟨rfl, rfl⟩)
  have RW : Hid (RdI ((w.alloc (.cells #[.int .i64 3, .int .i64 1, .int .i64 1572864, .func (.func 78) #[] #[], .int .i64 402653184, .func (.func 79) #[] #[]] 90)).alloc (.cells (iArr ws) 3)) (some ⟨w.heap.size + 1, 0, none⟩) 4 ws) := rd_of_bk (by have h := Bk.new (w.alloc (.cells #[.int .i64 3, .int .i64 1, .int .i64 1572864, .func (.func 78) #[] #[], .int .i64 402653184, .func (.func 79) #[] #[]] 90)) 3 (iArr ws); simpa using h) HL.out
  have RX : Hid (RdI ((w.alloc (.cells #[.int .i64 3, .int .i64 1, .int .i64 1572864, .func (.func 78) #[] #[], .int .i64 402653184, .func (.func 79) #[] #[]] 90)).alloc (.cells (iArr ws) 3)) A n xs) := HR.out.below (below2 _ _ _)
  have BW := Lib.hid (below2 w (.cells #[.int .i64 3, .int .i64 1, .int .i64 1572864, .func (.func 78) #[] #[], .int .i64 402653184, .func (.func 79) #[] #[]] 90) (.cells (iArr ws) 3))
  obtain ⟨W, hW⟩ : ∃ W, (w.alloc (.cells #[.int .i64 3, .int .i64 1, .int .i64 1572864, .func (.func 78) #[] #[], .int .i64 402653184, .func (.func 79) #[] #[]] 90)).alloc (.cells (iArr ws) 3) = W := ⟨_, rfl⟩
  rw [hW] at RW RX BW ⊢
  clear hW
  go_loop [8, 22] (fun s i => ∃ k : Nat, k ≤ 4 ∧ i = .int .i64 k ∧ s = .int .i64 (vsum ws xs fi k)) (fun _ i => 4 - (intOf i).toNat)
  case atStart => exact ⟨0, by omega, rfl, rfl⟩
  case round =>
    obtain ⟨k, hk, rfl, rfl⟩ := hrel
    by_cases hlt : k < 4
    · have hck : W.cell? ⟨w.heap.size + 1, k, none⟩ = some (.int .i64 (ws.getD k 0)) := by
        obtain ⟨ad, ha, _, hc⟩ := RW.out.2 (by omega)
        obtain rfl := Option.some.inj ha
        have := hc k hlt
        rwa [addOff] at this
      obtain ⟨ad, ha, _, hc⟩ := RX.out.2 hn.1
      obtain ⟨j, hj⟩ : ∃ j, clmp xs.length (fi + k) = j := ⟨_, rfl⟩
      have hjn : j < n := by rw [← hj, HR.out.1]; exact clmp_lt hn.1 _
      have hcj := hc j hjn
      clear hc
      subst ha
      obtain ⟨p, hp⟩ : ∃ p, ws.getD k 0 = p := ⟨_, rfl⟩
      obtain ⟨y, hy⟩ : ∃ y, xs.getD j 0 = y := ⟨_, rfl⟩
      have hpb := HWG.out k
      have hyb := HG.out j
      rw [hp] at hck hpb
      rw [hy] at hcj hyb
      have HS : Hid (vsum ws xs fi (k + 1) = vsum ws xs fi k + p * y) := vsum_clear hp (by rw [hj]; exact hy)
      have hsb := HB.out k
      have hsb2 := HB.out (k + 1)
      rw [HS.out] at hsb2
      obtain ⟨s, hs⟩ : ∃ s, vsum ws xs fi k = s := ⟨_, rfl⟩
      rw [hs] at hsb hsb2 HS ⊢
      have hpy := mulB (a := p) (b := y) 4000000 32767 hpb hyb (by omega) (by omega) 131068000000 (by omega)
      obtain ⟨m, hm⟩ : ∃ m : Int, (if (n : Int) - 1 < fi + k then (n : Int) - 1 else fi + k) = m := ⟨_, rfl⟩
      have hmj : (if 0 < m then m else 0) = (j : Int) := by
        have e := HR.out.1
        rw [← hj, ← hm, e]
        unfold clmp
        split <;> split <;> omega
      have w1 : IntKind.i64.wrap (fi + (k : Int)) = fi + k := IntWalk.i64_in _ (by omega)
      have w2 : IntKind.i64.wrap ((n : Int) - 1) = (n : Int) - 1 := IntWalk.i64_in _ (by omega)
      have w3 : IntKind.i64.wrap (p * y) = p * y := IntWalk.i64_in _ (by omega)
      have w4 : IntKind.i64.wrap (s + p * y) = s + p * y := IntWalk.i64_in _ (by omega)
      have hjI : (j : Int) < (n : Int) := by omega
      have hkI : (k : Int) < 4 := by omega
      clear hj hp hy hs hpb hyb hsb hsb2 hpy
      go_wp2
      go_round
      case rel => exact ⟨k + 1, by omega, by go_num, by rw [HS.out]⟩
      case measure => simp [intOf]; omega
    · obtain rfl : k = 4 := by omega
      go_wp2
      go_ret
      exact ⟨retI HN.out.symm, BW.out⟩


theorem num1_bd {xs : List Int} {q : Int} (hx : ∀ x ∈ xs, -32767 ≤ x ∧ x ≤ 32767) (hq : 0 ≤ q) : -1000000000000 ≤ vnum1 xs q ∧ vnum1 xs q ≤ 1000000000000 := by
  have := vsum_bd (first := q / 64) (wts1_bd (f := q % 64) (by omega)) hx 2
  unfold vnum1; omega
theorem num3_bd {xs : List Int} {q : Int} (hx : ∀ x ∈ xs, -32767 ≤ x ∧ x ≤ 32767) (hq : 0 ≤ q) : -1000000000000 ≤ vnum3 xs q ∧ vnum3 xs q ≤ 1000000000000 := by
  have := vsum_bd (first := q / 64 - 1) (wts3_bd (f := q % 64) (by omega)) hx 4
  unfold vnum3; omega
theorem below1 (w : World) (o : Obj) : Below w.heap.size w (w.alloc o) := (Below.refl _ _).alloc (Nat.le_refl _) _
/-- The sample that stands for a value. -/
def outV (num den : Int) : Int := max (-32767) (min ((2 * num + den) / (2 * den)) 32767)

set_option maxRecDepth 100000 in
set_option maxHeartbeats 1000000 in
theorem out1_any (A : Option Addr) (n c : Nat) (xs : List Int) (q : Int) (w : World) (hr : RdI w A n xs) (hn : 0 < n ∧ n ≤ 1000000) (hx : ∀ x ∈ xs, -32767 ≤ x ∧ x ≤ 32767) (hq : 0 ≤ q ∧ q ≤ 100000000) :
    Calls Tryz.prog 53 #[itp1, .slice A n c, .int .i64 q] w fun e w' => e = .returned (.int .i64 (outV (vnum1 xs q) 64)) ∧ Below w.heap.size w w' := by
  have hb := num1_bd (q := q) hx hq.1
  have CN : Hid (∀ w', Below w.heap.size w w' → Calls Tryz.prog 51 #[itp1, .slice A n c, .int .i64 q] w' fun e w'' => e = .returned (.int .i64 (vnum1 xs q)) ∧ Below w'.heap.size w' w'') := fun w' hb => num1_any A n c xs q w' (hr.below hb) hn hx hq
  clear hr hx hn hq
  have HV : Hid (outV (vnum1 xs q) 64 = max (-32767) (min ((2 * vnum1 xs q + 64) / (2 * 64)) 32767)) := rfl
  obtain ⟨v, hv⟩ : ∃ v, vnum1 xs q = v := ⟨_, rfl⟩
  rw [hv] at hb CN HV
  have HO : Hid (Ending.returned (.int .i64 (outV (vnum1 xs q) 64)) = Ending.returned (.int .i64 (outV v 64))) := by show _ = _; rw [hv]
  clear hv
  have CR := Lib.hid (fun w => nearest_any v 64 (by omega) (by omega) w)
  obtain ⟨z, hz⟩ : ∃ z, (2 * v + 64) / (2 * 64) = z := ⟨_, rfl⟩
  rw [hz] at CR
  have HZ : Hid (outV v 64 = max (-32767) (min z 32767)) := by show _ = _; unfold outV; rw [hz]
  clear hz hb HV
  unfold itp1 at CN
  unfold itp1
  go_enter Tryz.func53, Tryz.ntmps53
  go_wp2
  go_region_held3 (fun w' : World => (w'.cell? ⟨w.heap.size, 0, none⟩ = some (.int .i64 1) ∧ w'.cell? ⟨w.heap.size, 1, none⟩ = some (.int .i64 0) ∧ w'.cell? ⟨w.heap.size, 2, none⟩ = some (.int .i64 64) ∧ w'.cell? ⟨w.heap.size, 3, none⟩ = some (.func (.func 76) #[] #[]) ∧ w'.cell? ⟨w.heap.size, 4, none⟩ = some (.int .i64 8192) ∧ w'.cell? ⟨w.heap.size, 5, none⟩ = some (.func (.func 77) #[] #[])) ∧ Below w.heap.size w w')
    (((repeat' apply And.intro) <;> first | assumption | (simp [go_sem]; done) | (go_grown; done)))
    (first
      | (go_at_call 51; refine (CN.out _ ?_).mono ?_; (focus go_grown); rintro e w3 ⟨rfl, hb3⟩; have K3 : Bk w3 w.heap.size 90 #[.int .i64 1, .int .i64 0, .int .i64 64, .func (.func 76) #[] #[], .int .i64 8192, .func (.func 77) #[] #[]] := (Bk.new w _ _).drew.later hb3; have B3 : Below w.heap.size w w3 := ((below1 w _).drew).trans (hb3.mono (by simp)); have q := bk6 K3; obtain ⟨q0, q1, q2, q3, q4, q5⟩ := q)
      | (go_at_call 83; refine (CR.out _).mono ?_; rintro e w' ⟨rfl, rfl⟩))
  obtain ⟨m, hm⟩ : ∃ m : Int, (if 32767 < z then 32767 else z) = m := ⟨_, rfl⟩
  obtain ⟨o, ho⟩ : ∃ o : Int, (if -32767 < m then m else -32767) = o := ⟨_, rfl⟩
  have HO2 : Hid (outV v 64 = o) := by
    show _ = _
    rw [HZ.out, ← ho, ← hm]
    split <;> split <;> omega
  clear hb3 K3 q0 q1 q2 q3 q4 q5
  go_wp2
  go_ret
  exact ⟨by rw [HO.out]; exact retI HO2.out.symm, B3⟩

set_option maxRecDepth 100000 in
set_option maxHeartbeats 1000000 in
theorem out3_any (A : Option Addr) (n c : Nat) (xs : List Int) (q : Int) (w : World) (hr : RdI w A n xs) (hn : 0 < n ∧ n ≤ 1000000) (hx : ∀ x ∈ xs, -32767 ≤ x ∧ x ≤ 32767) (hq : 0 ≤ q ∧ q ≤ 100000000) :
    Calls Tryz.prog 53 #[itp3, .slice A n c, .int .i64 q] w fun e w' => e = .returned (.int .i64 (outV (vnum3 xs q) 1572864)) ∧ Below w.heap.size w w' := by
  have hb := num3_bd (q := q) hx hq.1
  have CN : Hid (∀ w', Below w.heap.size w w' → Calls Tryz.prog 51 #[itp3, .slice A n c, .int .i64 q] w' fun e w'' => e = .returned (.int .i64 (vnum3 xs q)) ∧ Below w'.heap.size w' w'') := fun w' hb => num3_any A n c xs q w' (hr.below hb) hn hx hq
  clear hr hx hn hq
  have HV : Hid (outV (vnum3 xs q) 1572864 = max (-32767) (min ((2 * vnum3 xs q + 1572864) / (2 * 1572864)) 32767)) := rfl
  obtain ⟨v, hv⟩ : ∃ v, vnum3 xs q = v := ⟨_, rfl⟩
  rw [hv] at hb CN HV
  have HO : Hid (Ending.returned (.int .i64 (outV (vnum3 xs q) 1572864)) = Ending.returned (.int .i64 (outV v 1572864))) := by show _ = _; rw [hv]
  clear hv
  have CR := Lib.hid (fun w => nearest_any v 1572864 (by omega) (by omega) w)
  obtain ⟨z, hz⟩ : ∃ z, (2 * v + 1572864) / (2 * 1572864) = z := ⟨_, rfl⟩
  rw [hz] at CR
  have HZ : Hid (outV v 1572864 = max (-32767) (min z 32767)) := by show _ = _; unfold outV; rw [hz]
  clear hz hb HV
  unfold itp3 at CN
  unfold itp3
  go_enter Tryz.func53, Tryz.ntmps53
  go_wp2
  go_region_held3 (fun w' : World => (w'.cell? ⟨w.heap.size, 0, none⟩ = some (.int .i64 3) ∧ w'.cell? ⟨w.heap.size, 1, none⟩ = some (.int .i64 1) ∧ w'.cell? ⟨w.heap.size, 2, none⟩ = some (.int .i64 1572864) ∧ w'.cell? ⟨w.heap.size, 3, none⟩ = some (.func (.func 78) #[] #[]) ∧ w'.cell? ⟨w.heap.size, 4, none⟩ = some (.int .i64 402653184) ∧ w'.cell? ⟨w.heap.size, 5, none⟩ = some (.func (.func 79) #[] #[])) ∧ Below w.heap.size w w')
    (((repeat' apply And.intro) <;> first | assumption | (simp [go_sem]; done) | (go_grown; done)))
    (first
      | (go_at_call 51; refine (CN.out _ ?_).mono ?_; (focus go_grown); rintro e w3 ⟨rfl, hb3⟩; have K3 : Bk w3 w.heap.size 90 #[.int .i64 3, .int .i64 1, .int .i64 1572864, .func (.func 78) #[] #[], .int .i64 402653184, .func (.func 79) #[] #[]] := (Bk.new w _ _).drew.later hb3; have B3 : Below w.heap.size w w3 := ((below1 w _).drew).trans (hb3.mono (by simp)); have q := bk6 K3; obtain ⟨q0, q1, q2, q3, q4, q5⟩ := q)
      | (go_at_call 83; refine (CR.out _).mono ?_; rintro e w' ⟨rfl, rfl⟩))
  obtain ⟨m, hm⟩ : ∃ m : Int, (if 32767 < z then 32767 else z) = m := ⟨_, rfl⟩
  obtain ⟨o, ho⟩ : ∃ o : Int, (if -32767 < m then m else -32767) = o := ⟨_, rfl⟩
  have HO2 : Hid (outV v 1572864 = o) := by
    show _ = _
    rw [HZ.out, ← ho, ← hm]
    split <;> split <;> omega
  clear hb3 K3 q0 q1 q2 q3 q4 q5
  go_wp2
  go_ret
  exact ⟨by rw [HO.out]; exact retI HO2.out.symm, B3⟩

end Go.Proofs.YtjjflbnopphciacGreatDoor

