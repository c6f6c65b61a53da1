import Derived.RangeFuncNested
import Derived.RangeFuncBound
import Derived.RangeFuncBox
import Derived.RangeFuncCalls
import Derived.RangeFuncLeaves
import Derived.Shelf.Abstract
import Derived.Shelf.RegionOpen
import Derived.WalkKit
import Derived.WalkSpells
import Derived.WalkLawsBesides
import Derived.OwnWalkIn
import Derived.TacticsInMore
import Derived.LoopNIn
import Derived.LoopIn
import Derived.Lib.Hide
import Derived.Laws.CopyOwn
import Derived.Laws.Rows
import Derived.Deep.RegionHeld3
import Derived.Deep.QuietTactic
import Derived.BigQuiet
import Derived.BigRegion
import Derived.Maps.AppendAt
import Derived.StillTailTactics
import Derived.IntWalk
import Derived.Outline
import Derived.Laws.EntriesVeiled
import Derived.Test.YtccoflhoggpgoaaProg
import Derived.Handy
import Derived.Deep.DeepCutAuto
namespace Go.Proofs.Ytccoflhoggpgoaa
open Go.RowKit Go.Shelf

/-- The slice '.slice A n c' reads as the numbers xs. -/
def RdI (w : World) (A : Option Addr) (n : Nat) (xs : List Int) : Prop :=
  xs.length = n ∧ (0 < n → ∃ ad, A = some ad ∧ ad.block < w.heap.size ∧ ∀ j, j < n → w.cell? (ad.add j) = some (.int .i64 (xs.getD j 0)))
theorem addBlock (a : Addr) (n : Nat) : (a.add n).block = a.block := by unfold Addr.add; split <;> rfl
theorem RdI.below {w w' : World} {A : Option Addr} {n : Nat} {xs : List Int} (h : RdI w A n xs) (hb : Below w.heap.size w w') : RdI w' A n xs := by
  refine ⟨h.1, fun hn => ?_⟩
  obtain ⟨ad, e, hlt, hc⟩ := h.2 hn
  exact ⟨ad, e, Nat.lt_of_lt_of_le hlt hb.size, fun j hj => (hb.cell (by rw [addBlock]; exact hlt)).trans (hc j hj)⟩

theorem cellA {W : World} {a : Addr} {v : Value} (o : Obj) (h : W.cell? a = some v) : (W.alloc o).cell? a = some v := cell_kept h (World.grownBy_alloc W o none) (fun r e => by cases e)
theorem frozA {W : World} {a : Addr} {v : Value} (o : Obj) (h : W.cell? a = some v) (hf : W.frozen? a = false) : (W.alloc o).frozen? a = false := (frozen_kept h (World.grownBy_alloc W o none) (fun r e => by cases e)).trans hf

/-- All numbers are from lo to hi. -/
def fromB (lo hi : Int) (xs : List Int) : Bool := xs.all fun n => decide (lo ≤ n) && decide (n ≤ hi)
theorem fromB_step (lo hi : Int) (xs : List Int) (k : Nat) (hk : k < xs.length) :
    fromB lo hi (xs.drop k) = (decide (lo ≤ xs.getD k 0) && decide (xs.getD k 0 ≤ hi) && fromB lo hi (xs.drop (k + 1))) := by
  unfold fromB
  rw [List.drop_eq_getElem_cons hk]
  simp only [List.all_cons, List.getD_eq_getElem?_getD, List.getElem?_eq_getElem hk, Option.getD_some]

/-- Block g is just the cells cs of type t. -/
def Bk (w : World) (g : Nat) (t : TypeId) (cs : Array Value) : Prop := w.heap[g]? = some (.cells cs t (0, 0))
theorem Bk.heap {w : World} {g : Nat} {t : TypeId} {cs : Array Value} (h : Bk w g t cs) : w.heap[g]? = some (.cells cs t (0, 0)) := h
theorem Bk.lt {w : World} {g : Nat} {t : TypeId} {cs : Array Value} (h : Bk w g t cs) : g < w.heap.size := by
  rcases Nat.lt_or_ge g w.heap.size with h1 | h1
  · exact h1
  · unfold Bk at h; rw [Array.getElem?_eq_none h1] at h; cases h
theorem Bk.cell {w : World} {g : Nat} {t : TypeId} {cs : Array Value} (h : Bk w g t cs) (i : Nat) : w.cell? ⟨g, i, none⟩ = cs[i]? := cell_of_row w g i cs t (0, 0) h
theorem Bk.frozen {w : World} {g : Nat} {t : TypeId} {cs : Array Value} (h : Bk w g t cs) (i : Nat) : w.frozen? ⟨g, i, none⟩ = false := frozen_of_row w g i cs t h
theorem Bk.below {w w' : World} {g B : Nat} {t : TypeId} {cs : Array Value} (h : Bk w g t cs) (hb : Below B w w') (hg : g < B) : Bk w' g t cs := (hb.block g hg).trans h
theorem Bk.later {w w' : World} {g : Nat} {t : TypeId} {cs : Array Value} (h : Bk w g t cs) (hb : Below w.heap.size w w') : Bk w' g t cs := h.below hb h.lt
theorem Bk.new (w : World) (t : TypeId) (cs : Array Value) : Bk (w.alloc (.cells cs t)) w.heap.size t cs := heap_alloc_new w _
theorem Bk.alloc {w : World} {g : Nat} {t : TypeId} {cs : Array Value} (h : Bk w g t cs) (o : Obj) : Bk (w.alloc o) g t cs := (Below.heap_alloc w o g h.lt).trans h
theorem Bk.set_ {w : World} {g : Nat} {t : TypeId} {cs : Array Value} (h : Bk w g t cs) (i : Nat) (v : Value) : Bk (w.setCell ⟨g, i, none⟩ v) g t (cs.setIfInBounds i v) := heap_setCell_same w g i cs t v h
theorem Bk.far {w : World} {g : Nat} {t : TypeId} {cs : Array Value} (h : Bk w g t cs) (p : Addr) (hp : g ≠ p.block) (v : Value) : Bk (w.setCell p v) g t cs := (heap_setCell_other w p g v hp).trans h
theorem Bk.drewN {w : World} {g : Nat} {t : TypeId} {cs : Array Value} (h : Bk w g t cs) (n : Nat) : Bk (w.drewN n) g t cs := h
theorem Bk.drew {w : World} {g : Nat} {t : TypeId} {cs : Array Value} (h : Bk w g t cs) : Bk w.drew g t cs := h
theorem Bk.grown {w w' : World} {g : Nat} {t : TypeId} {cs : Array Value} {row : Option Nat} (h : Bk w g t cs) (hg : w.grownBy w' row) (hne : some g ≠ row) : Bk w' g t cs := (hg.block g h.lt hne).trans h

/-- Integers as cells. -/
def iArr (xs : List Int) : Array Value := (xs.map (Value.int .i64)).toArray
theorem iArr_size (xs : List Int) : (iArr xs).size = xs.length := by simp [iArr]
theorem iArr_at (xs : List Int) (i : Nat) (h : i < xs.length) : (iArr xs)[i]? = some (.int .i64 (xs.getD i 0)) := by
  simp [iArr, List.getElem?_toArray, List.getD_eq_getElem?_getD, List.getElem?_eq_getElem h]
theorem iArr_set (xs : List Int) (i : Nat) (v : Int) : (iArr xs).setIfInBounds i (.int .i64 v) = iArr (xs.set i v) := by
  simp [iArr, List.map_set]
theorem addOff (g j : Nat) : (⟨g, 0, none⟩ : Addr).add j = ⟨g, j, none⟩ := by unfold Addr.add; split <;> simp_all
theorem rd_of_bk {w : World} {g n : Nat} {xs : List Int} (h : Bk w g 3 (iArr xs)) (hn : xs.length = n) : RdI w (some ⟨g, 0, none⟩) n xs :=
  ⟨hn, fun _ => ⟨_, rfl, h.lt, fun j hj => by rw [addOff, h.cell]; exact iArr_at _ _ (by omega)⟩⟩
theorem own_of_bk {w : World} {base g : Nat} {xs : List Int} (n : Nat) (h : Bk w g 3 (iArr xs)) (hn : xs.length = n) (hb : base ≤ g) (hm : n ≤ 10000000) : w.ownsRow base 3 1 (.slice (some ⟨g, 0, none⟩) n n) n (xs.map (Value.int .i64)) := by
  refine ⟨by simp [hn], .inr ⟨g, n, iArr xs, rfl, hb, h, Nat.le_refl _, by simp only [maxLen]; omega, by rw [iArr_size]; omega, ?_⟩⟩
  rw [List.take_of_length_le (by simp [iArr]; omega)]
  simp [iArr]
theorem rd_of_own {w : World} {base : Nat} {v : Value} {n : Nat} {xs : List Int} (h : w.ownsRow base 3 1 v n (xs.map (Value.int .i64))) :
    ∃ A c, v = .slice A n c ∧ n ≤ c ∧ RdI w A n xs := by
  have hl : xs.length = n := by have := h.1; simpa using this
  rcases h.2 with ⟨rfl, rfl⟩ | ⟨g, cap, cur, rfl, _, hh, hnc, _, _, htk⟩
  · exact ⟨none, 0, rfl, Nat.le_refl _, hl, fun h0 => absurd h0 (by omega)⟩
  · refine ⟨_, cap, rfl, hnc, hl, fun _ => ⟨_, rfl, ?_, fun j hj => ?_⟩⟩
    · have : Bk w g 3 cur := hh
      exact this.lt
    · rw [addOff, cell_of_row w g j cur 3 (0, 0) hh, ← Array.getElem?_toList]
      have e1 : (cur.toList.take (n * 1))[j]? = (xs.map (Value.int .i64))[j]? := by rw [htk]
      rw [List.getElem?_take, if_pos (by omega)] at e1
      rw [e1]
      simp [List.getElem?_eq_getElem (show j < xs.length by omega)]

theorem intInfo' : (Try.prog.info? 3).map (fun i => (i.zero, i.size, i.bytes)) = some (some (.int .i64 0), 1, 8) := by kernel_rfl

theorem make_ints (c : Nat) (hc : c ≤ 1000000) (W : World) :
    (Instr.makeSlice 43 (.int .i64 (c : Int)) (.int .i64 (c : Int))).run Try.prog W = .ok (.slice (some ⟨W.heap.size, 0, none⟩) c c) (W.alloc (.cells (iArr (List.replicate c 0)) 3)) := by
  obtain ⟨i0, hi, hz0, hz1, hz2⟩ := info_parts intInfo'
  have hr := run_make (P := Try.prog) W 43 3 i0 _ Try.underlying43 hi hz0 .i64 .i64 c c (by omega) (by omega) (by rw [hz2]; omega) (by omega)
  rw [hr]
  have e : madeCells (Value.cells (.int .i64 0)) ((c : Int).toNat * i0.size) = iArr (List.replicate c 0) := by
    rw [hz1]
    apply Array.ext'
    have := toList_madeCells_one (Value.int .i64 0) c
    simp only [Int.toNat_natCast, Nat.mul_one]
    show (madeCells #[Value.int .i64 0] c).toList = _
    rw [this]
    simp [iArr]
  rw [e]
  simp
theorem ownMono {w : World} {base base' : Nat} {e : TypeId} {size : Nat} {v : Value} {n : Nat} {xs : List Value} (h : w.ownsRow base e size v n xs) (hb : base' ≤ base) : w.ownsRow base' e size v n xs := by
  refine ⟨h.1, ?_⟩
  rcases h.2 with h0 | ⟨g, cap, cur, h1, h2, h3⟩
  · exact .inl h0
  · exact .inr ⟨g, cap, cur, h1, Nat.le_trans hb h2, h3⟩

/-- A slice of integers of the call's own, and an error. -/
def OwnRes (w : World) (E : Int) (xs : List Int) (e : Ending) (w' : World) : Prop :=
  (∃ v, e = .returned (.tuple #[v, .int .i64 E]) ∧ w'.ownsRow w.heap.size 3 1 v xs.length (xs.map (Value.int .i64))) ∧ Below w.heap.size w w'
theorem OwnRes.none_ {w w' : World} {E : Int} (h : Below w.heap.size w w') : OwnRes w E [] (.returned (.tuple #[.slice none 0 0, .int .i64 E])) w' := ⟨⟨_, rfl, World.ownsRow_nil _ _ _ _⟩, h⟩
/-- A slice of integers of the call's own. -/
def OwnS (w : World) (xs : List Int) (e : Ending) (w' : World) : Prop :=
  (∃ v, e = .returned v ∧ w'.ownsRow w.heap.size 3 1 v xs.length (xs.map (Value.int .i64))) ∧ Below w.heap.size w w'

theorem RdI.drewN {w : World} {A : Option Addr} {n : Nat} {xs : List Int} (h : RdI w A n xs) (k : Nat) : RdI (w.drewN k) A n xs := h
theorem RdI.drew {w : World} {A : Option Addr} {n : Nat} {xs : List Int} (h : RdI w A n xs) : RdI w.drew A n xs := h

theorem ints_any (A B : Option Addr) (n m c d : Nat) (xs ys : List Int) (w : World) (ha : RdI w A n xs) (hb : RdI w B m ys) (hn : n ≤ 9223372036854775806) (hm : m ≤ 9223372036854775806) :
    Calls Try.prog 36 #[.slice A n c, .slice B m d] w fun e w' => e = .returned (.bool (decide (xs = ys))) ∧ ∃ k, w' = w.drewN k := by
  by_cases hnm : n = m
  · subst hnm
    have HA := Lib.hid ha; clear ha
    have HB := Lib.hid hb; clear hb
    go_enter Try.func36, Try.ntmps36
    go_wp2
    go_loopw [5] (fun i wr => ∃ k : Nat, k ≤ n ∧ i = .int .i64 k ∧ Hid (xs.take k = ys.take k) ∧ Hid (∃ j, wr = w.drewN j)) (fun i _ => n - (intOf i).toNat)
    case atStart => exact ⟨0, Nat.zero_le _, rfl, rfl, 0, rfl⟩
    case round =>
      obtain ⟨k, hk, rfl, HE, HJ⟩ := hrel
      obtain ⟨j, hj⟩ := HJ.out
      by_cases hlt : k < n
      · obtain ⟨a, ha, _, hca⟩ := (HA.out.drewN j).2 (by omega)
        obtain ⟨b, hb, _, hcb⟩ := (HB.out.drewN j).2 (by omega)
        have h1 := hca k hlt
        have h2 := hcb k hlt
        rw [← hj] at h1 h2
        have HXT : Hid (xs.take (k + 1) = xs.take k ++ [xs.getD k 0]) := by
          show _ = _
          rw [List.take_succ_eq_append_getElem (by have := HA.out.1; omega)]
          simp [List.getD_eq_getElem?_getD, List.getElem?_eq_getElem (show k < xs.length by have := HA.out.1; omega)]
        have HYT : Hid (ys.take (k + 1) = ys.take k ++ [ys.getD k 0]) := by
          show _ = _
          rw [List.take_succ_eq_append_getElem (by have := HB.out.1; omega)]
          simp [List.getD_eq_getElem?_getD, List.getElem?_eq_getElem (show k < ys.length by have := HB.out.1; omega)]
        subst ha hb
        clear hca hcb
        have HX2 : Hid (xs.getD k 0 = xs.getD k 0) := rfl
        obtain ⟨x, hx⟩ : ∃ x, xs.getD k 0 = x := ⟨_, rfl⟩
        obtain ⟨y, hy⟩ : ∃ y, ys.getD k 0 = y := ⟨_, rfl⟩
        rw [hx] at h1 HXT
        rw [hy] at h2 HYT
        have HXk := Lib.hid hx
        have HYk := Lib.hid hy
        have HJ' := Lib.hid hj
        clear hx hy hj HX2 HJ
        obtain ⟨t, ht⟩ : ∃ t, (x != y) = t := ⟨_, rfl⟩
        have hkI : (k : Int) < (n : Int) := by omega
        have hk0 : (0 : Int) ≤ (k : Int) := by omega
        cases t
        · go_wp2
          go_quiet (fail)
          go_wp2
          go_roundw
          case rel =>
            have hxy : x = y := by simpa using ht
            refine ⟨k + 1, by omega, by go_num, ?_, ?_⟩
            · show _ = _
              rw [HXT.out, HYT.out, HE.out, hxy]
            · show ∃ _, _ = _
              rw [HJ'.out]; exact ⟨_, World.drewN_drewN _ _ _⟩
          case measure => simp [intOf]; omega
        · go_wp2
          go_quiet (fail)
          go_wp2
          go_ret
          have hxy : x ≠ y := by simpa using ht
          refine ⟨?_, ?_⟩
          · have : xs ≠ ys := by
              rintro e
              apply hxy
              rw [← HXk.out, ← HYk.out, e]
            simp [this]
          · rw [HJ'.out]; exact ⟨_, World.drewN_drewN _ _ _⟩
      · obtain rfl : k = n := by omega
        clear hj
        go_wp2
        go_ret
        refine ⟨?_, HJ.out⟩
        have e := HE.out
        rw [List.take_of_length_le (by have := HA.out.1; omega), List.take_of_length_le (by have := HB.out.1; omega)] at e
        simp [e]
  · have h1 : ((n : Int) != (m : Int)) = true := by simp; omega
    have h2 : ((n : Int) == (m : Int)) = false := by simp; omega
    have HX : Hid (xs ≠ ys) := by
      rintro rfl
      exact hnm (ha.1.symm.trans hb.1)
    clear ha hb
    go_enter Try.func36, Try.ntmps36
    go_wp2
    go_ret
    exact ⟨by simp [HX.out], 0, rfl⟩

theorem belowDrewN {n0 : Nat} {w w' : World} (h : Below n0 w w') : ∀ k, Below n0 w (w'.drewN k) := fun k => ⟨h.1, h.2, h.3, h.4, h.5⟩

theorem tdiv_floor (n d : Int) (hd : 0 < d) : (if n.tmod d < 0 then n.tdiv d - 1 else n.tdiv d) = n / d := by
  have h1 := Int.mul_tdiv_add_tmod n d
  have h2 := Int.tmod_lt_of_pos n hd
  have h3 : -d < n.tmod d := by have h3 := Int.tmod_lt_of_pos (-n) hd; rw [Int.neg_tmod] at h3; omega
  have h4 := Int.mul_ediv_self_le (x := n) (k := d) (by omega)
  have h5 := Int.lt_mul_ediv_self_add (x := n) (k := d) hd
  by_cases h : n.tmod d < 0
  · rw [if_pos h]
    have e : d * (n.tdiv d - 1) = d * n.tdiv d - d := by rw [Int.mul_sub, Int.mul_one]
    have a : d * (n.tdiv d - 1) ≤ d * (n / d) + d - 1 := by omega
    have b : d * (n / d) ≤ d * (n.tdiv d - 1) + d - 1 := by omega
    have a' : n.tdiv d - 1 < n / d + 1 := by
      apply Int.lt_of_mul_lt_mul_left (a := d) _ (by omega)
      rw [Int.mul_add, Int.mul_one]; omega
    have b' : n / d < n.tdiv d - 1 + 1 := by
      apply Int.lt_of_mul_lt_mul_left (a := d) _ (by omega)
      rw [Int.mul_add, Int.mul_one]; omega
    omega
  · rw [if_neg h]
    have a' : n.tdiv d < n / d + 1 := by
      apply Int.lt_of_mul_lt_mul_left (a := d) _ (by omega)
      rw [Int.mul_add, Int.mul_one]; omega
    have b' : n / d < n.tdiv d + 1 := by
      apply Int.lt_of_mul_lt_mul_left (a := d) _ (by omega)
      rw [Int.mul_add, Int.mul_one]; omega
    omega

theorem within_any (n lo hi : Int) (w : World) :
    Calls Try.prog 28 #[.int .i64 n, .int .i64 lo, .int .i64 hi] w fun e w' => e = .returned (.bool (fromB lo hi [n])) ∧ w = w' := by
  by_cases h1 : lo ≤ n
  · go_enter Try.func28, Try.ntmps28
    go_wp2
    go_ret
    exact ⟨by simp [fromB, h1], rfl⟩
  · go_enter Try.func28, Try.ntmps28
    go_wp2
    go_ret
    exact ⟨by simp [fromB]; omega, rfl⟩

theorem rd_ownN {w : World} {base : Nat} {v : Value} {n : Nat} {xs : List Int} (h : w.ownsRow base 3 1 v n (xs.map (Value.int .i64))) :
    ∃ A c, v = .slice A n c ∧ n ≤ c ∧ RdI w A n xs ∧ (A = none → n = 0 ∧ c = 0) := by
  have h2 := h.2
  obtain ⟨A, c, rfl, hnc, hr⟩ := rd_of_own h
  refine ⟨A, c, rfl, hnc, hr, ?_⟩
  rintro rfl
  rcases h2 with ⟨e, h0⟩ | ⟨g, cap, cur, e, _⟩
  · injection e with _ e1 e2; exact ⟨e1, e2⟩
  · injection e with e; cases e

theorem copyInts_any (A : Option Addr) (n c : Nat) (l : List Int) (w : World) (hA : A = none → n = 0 ∧ c = 0) (hr : RdI w A n l) (hn : n ≤ 1000000) :
    Calls Try.prog 31 #[.slice A n c] w (OwnS w l) := by
  have ho : Hid ((w.alloc (.cells #[] 3)).ownsRow w.heap.size 3 1 (.slice (some ⟨w.heap.size, 0, none⟩) 0 0) 0 ([] : List Value)) := World.ownsRow_lit w #[] 0 (Nat.le_refl _) (by unfold maxLen; omega) rfl
  obtain ⟨i0, hi, hz0, hz1, hz2⟩ := info_parts intInfo'
  cases A with
  | none =>
    obtain ⟨rfl, rfl⟩ := hA rfl
    have hl : l = [] := List.eq_nil_of_length_eq_zero hr.1
    subst hl
    clear hA hr
    go_enter Try.func31, Try.ntmps31
    go_wp2_with (at_builtin; refine wpList_append_own_none rfl (.tmp 3) (.tmp 4) 43 rfl w.heap.size 3 i0 1 Try.underlying43 hi _ _ _ rfl ho.out rfl ?_)
    go_ret
    exact ⟨⟨_, rfl, ho.out⟩, (Below.refl _ _).alloc (Nat.le_refl _) _⟩
  | some ad =>
    have HR := Lib.hid hr; clear hr hA
    have hlen : Hid ((l.map (Value.int .i64)).length = n * 1) := by show List.length _ = _; rw [List.length_map]; have := HR.out.1; omega
    have hsrc : Hid (∀ j u, (l.map (Value.int .i64))[j]? = some u → (w.alloc (.cells #[] 3)).cell? (ad.add j) = some u) := by
      intro j u hu
      have hj : j < l.length := by
        have := (List.getElem?_eq_some_iff.1 hu).1
        simpa using this
      have hl := HR.out.1
      obtain ⟨ad', ha, hlt, hc⟩ := HR.out.2 (by omega)
      obtain rfl := Option.some.inj ha
      rw [World.cell?_alloc_lt w _ _ (by rw [addBlock]; exact hlt), hc j (by omega)]
      rw [List.getElem?_map, List.getElem?_eq_getElem hj] at hu
      simp at hu
      rw [← hu]
      simp [List.getD_eq_getElem?_getD, List.getElem?_eq_getElem hj]
    have hone : Hid (∀ u ∈ l.map (Value.int .i64), u.oneCell' = true) := by
      intro u hu
      obtain ⟨x, _, rfl⟩ := List.mem_map.1 hu
      rfl
    obtain ⟨news, hnews⟩ : ∃ news, l.map (Value.int .i64) = news := ⟨_, rfl⟩
    rw [hnews] at hlen hsrc hone
    have HNW := Lib.hid hnews
    clear hnews
    go_enter Try.func31, Try.ntmps31
    go_wp2_with (at_builtin; refine wpList_append_own _ rfl (.tmp 3) (.tmp 4) 43 rfl w.heap.size 3 i0 _ 1 8 Try.underlying43 hi hz0 hz1 hz2 rfl (by decide) _ _ _ rfl ho.out ad n c news rfl hlen.out hsrc.out hone.out (by unfold maxLen; omega) (by omega) (by simp) ?_)
    intro v w2 ho2 hg2 _
    have b2 : Below w.heap.size w w2 := ((Below.refl _ _).alloc (Nat.le_refl _) _).grown hg2 (by simp) (fun g hg => (ho.out.lt g hg).1)
    have o2 := Lib.hid ho2
    have B2 := Lib.hid b2
    clear ho2 hg2 b2
    go_wp2
    go_ret
    refine ⟨⟨_, rfl, ?_⟩, B2.out⟩
    have := o2.out
    rw [HNW.out, HR.out.1]
    simpa using this

theorem size_any (n : Int) (w : World) (h : -4611686018427387904 ≤ n ∧ n ≤ 4611686018427387904) :
    Calls Try.prog 63 #[.int .i64 n] w fun e w' => e = .returned (.int .i64 (if n < 0 then -n else n)) ∧ w = w' := by
  have hw : IntKind.i64.wrap (-n) = -n := IntWalk.i64_in _ (by omega)
  by_cases h0 : n < 0
  · have h1 : n < -n := by omega
    go_enter Try.func63, Try.ntmps63
    go_wp2
    go_ret
    exact ⟨by first | rfl | (rw [if_pos h0]; rfl), rfl⟩
  · have h1 : ¬ n < -n := by omega
    go_enter Try.func63, Try.ntmps63
    go_wp2
    go_ret
    exact ⟨by first | rfl | (rw [if_neg h0]; rfl), rfl⟩


end Go.Proofs.Ytccoflhoggpgoaa


namespace Go.Proofs.Ytccoflhoggpgoaa
open Go.RowKit

theorem lit1 (W : World) (b : Nat) (x : Int) (h : W.cell? ⟨b, 0, none⟩ = some (.int .i64 x)) : RdI W (some ⟨b, 0, none⟩) 1 [x] :=
  ⟨rfl, fun _ => ⟨_, rfl, World.block_lt_of_cell? _ _ h, fun j hj => by obtain rfl : j = 0 := by omega
                                                                        rw [addOff]; exact h⟩⟩
theorem lit2 (W : World) (b : Nat) (x y : Int) (h : W.cell? ⟨b, 0, none⟩ = some (.int .i64 x)) (h' : W.cell? ⟨b, 1, none⟩ = some (.int .i64 y)) : RdI W (some ⟨b, 0, none⟩) 2 [x, y] :=
  ⟨rfl, fun _ => ⟨_, rfl, World.block_lt_of_cell? _ _ h, fun j hj => by
    rcases (by omega : j = 0 ∨ j = 1) with rfl | rfl
    · rw [addOff]; exact h
    · rw [addOff]; exact h'⟩⟩
theorem lit3 (W : World) (b : Nat) (x y z : Int) (h : W.cell? ⟨b, 0, none⟩ = some (.int .i64 x)) (h' : W.cell? ⟨b, 1, none⟩ = some (.int .i64 y)) (h'' : W.cell? ⟨b, 2, none⟩ = some (.int .i64 z)) : RdI W (some ⟨b, 0, none⟩) 3 [x, y, z] :=
  ⟨rfl, fun _ => ⟨_, rfl, World.block_lt_of_cell? _ _ h, fun j hj => by
    rcases (by omega : j = 0 ∨ j = 1 ∨ j = 2) with rfl | rfl | rfl
    · rw [addOff]; exact h
    · rw [addOff]; exact h'
    · rw [addOff]; exact h''⟩⟩
theorem lit4 (W : World) (b : Nat) (x y z u : Int) (h : W.cell? ⟨b, 0, none⟩ = some (.int .i64 x)) (h' : W.cell? ⟨b, 1, none⟩ = some (.int .i64 y)) (h'' : W.cell? ⟨b, 2, none⟩ = some (.int .i64 z)) (h''' : W.cell? ⟨b, 3, none⟩ = some (.int .i64 u)) : RdI W (some ⟨b, 0, none⟩) 4 [x, y, z, u] :=
  ⟨rfl, fun _ => ⟨_, rfl, World.block_lt_of_cell? _ _ h, fun j hj => by
    rcases (by omega : j = 0 ∨ j = 1 ∨ j = 2 ∨ j = 3) with rfl | rfl | rfl | rfl
    · rw [addOff]; exact h
    · rw [addOff]; exact h'
    · rw [addOff]; exact h''
    · rw [addOff]; exact h'''⟩⟩

/-- What goes in a quiet region. -/
theorem quietP {P : Program} {f : FuncId} {args : Array Value} {w : World} {n : Nat} {v : Value}
    (h : Calls P f args (w.drewN n) fun e w' => e = .returned v ∧ w.drewN n = w') : Calls P f args (w.drewN n) fun e w'' => e = .returned v ∧ ∃ m, w'' = w.drewN m :=
  h.mono fun _ _ ⟨he, hm⟩ => ⟨he, n, hm.symm⟩
theorem quietD {P : Program} {f : FuncId} {args : Array Value} {w : World} {n : Nat} {v : Value}
    (h : Calls P f args (w.drewN n) fun e w' => e = .returned v ∧ ∃ k, w' = (w.drewN n).drewN k) : Calls P f args (w.drewN n) fun e w'' => e = .returned v ∧ ∃ m, w'' = w.drewN m := Calls.quiet_of h

theorem retI {a b : Int} (h : a = b) : Ending.returned (.int .i64 a) = Ending.returned (.int .i64 b) := by rw [h]
theorem retB {a b : Bool} (h : a = b) : Ending.returned (.bool a) = Ending.returned (.bool b) := by rw [h]
theorem retI2 {a b c d : Int} (h : a = c) (k : b = d) : Ending.returned (.tuple #[.int .i64 a, .int .i64 b]) = Ending.returned (.tuple #[.int .i64 c, .int .i64 d]) := by rw [h, k]
theorem retI3 {a b c d e f : Int} (h : a = c) (k : b = d) (l : e = f) : Ending.returned (.tuple #[.int .i64 a, .int .i64 b, .int .i64 e]) = Ending.returned (.tuple #[.int .i64 c, .int .i64 d, .int .i64 f]) := by rw [h, k, l]
theorem retIB {a c : Int} {b d : Bool} (h : a = c) (k : b = d) : Ending.returned (.tuple #[.int .i64 a, .bool b]) = Ending.returned (.tuple #[.int .i64 c, .bool d]) := by rw [h, k]
theorem ne0_of {F : Int} (h : (F != 0) = true) : ¬ F = 0 := by simpa using h
theorem eq0_of {F : Int} (h : (F != 0) = false) : F = 0 := by simpa using h

/-! ### numbers -/
theorem ediv_bd (n d : Int) (hn : -4611686018427387904 ≤ n ∧ n ≤ 4611686018427387904) (hd : 0 < d) : -4611686018427387904 ≤ n / d ∧ n / d ≤ 4611686018427387904 := by
  constructor
  · rw [Int.le_ediv_iff_mul_le hd]
    have : (-4611686018427387904) * d ≤ (-4611686018427387904) * 1 := Int.mul_le_mul_of_nonpos_left (by omega) (by omega)
    omega
  · have h1 : n / d < 4611686018427387904 + 1 := by
      rw [Int.ediv_lt_iff_lt_mul hd]
      have : (4611686018427387905 : Int) * 1 ≤ 4611686018427387905 * d := Int.mul_le_mul_of_nonneg_left (by omega) (by omega)
      omega
    omega

/-- A quotient, rounded up. -/
def upF (n d : Int) : Int := -((-n) / d)
def absF (n : Int) : Int := if n < 0 then -n else n
theorem bsize_any (n : Int) (w : World) (h : -4611686018427387904 ≤ n ∧ n ≤ 4611686018427387904) :
    Calls Try.prog 63 #[.int .i64 n] w fun e w' => e = .returned (.int .i64 (absF n)) ∧ w = w' := size_any n w h
/-! ### errors -/
theorem when_any (b : Bool) (E : Int) (w : World) :
    Calls Try.prog 99 #[.bool b, .int .i64 E] w fun e w' => e = .returned (.int .i64 (if b = true then E else 0)) ∧ w = w' := by
  cases b
  all_goals
    go_enter Try.func99, Try.ntmps99
    go_wp2
    go_ret
    exact ⟨rfl, rfl⟩

/-- The error of a number, of numbers. -/
def rngE (lo hi : Int) (xs : List Int) : Int := if fromB lo hi xs = true then 0 else 2
theorem rngE_one (lo hi n : Int) : rngE lo hi [n] = if lo ≤ n ∧ n ≤ hi then 0 else 2 := by
  unfold rngE fromB
  by_cases h : lo ≤ n ∧ n ≤ hi
  · rw [if_pos h, if_pos (by simp [h.1, h.2])]
  · rw [if_neg h, if_neg (by simp; omega)]
theorem rngE_step (lo hi : Int) (xs : List Int) (k : Nat) (hk : k < xs.length) :
    rngE lo hi (xs.drop k) = if rngE lo hi [xs.getD k 0] = 0 then rngE lo hi (xs.drop (k + 1)) else rngE lo hi [xs.getD k 0] := by
  unfold rngE
  rw [fromB_step lo hi xs k hk]
  have e : fromB lo hi [xs.getD k 0] = (decide (lo ≤ xs.getD k 0) && decide (xs.getD k 0 ≤ hi)) := by simp [fromB]
  rw [e]
  cases (decide (lo ≤ xs.getD k 0) && decide (xs.getD k 0 ≤ hi)) <;> cases fromB lo hi (xs.drop (k + 1)) <;> rfl

theorem from_any (lo hi : Int) (w : World) :
    Calls Try.prog 86 #[.int .i64 lo, .int .i64 hi] w fun e w' => e = .returned (.func (.func 125) #[] #[.pointer (some ⟨w.heap.size, 0, none⟩), .pointer (some ⟨w.heap.size + 1, 0, none⟩)]) ∧ w' = (w.alloc (.cells #[.int .i64 lo] 3)).alloc (.cells #[.int .i64 hi] 3) := by
  go_enter Try.func86, Try.ntmps86
  go_wp2
  go_ret
  exact ⟨rfl, rfl⟩
theorem from1_any (n lo hi : Int) (a b : Addr) (w : World) (ha : w.cell? a = some (.int .i64 lo)) (hb : w.cell? b = some (.int .i64 hi)) :
    Calls Try.prog 125 #[.int .i64 n, .pointer (some a), .pointer (some b)] w fun e w' => e = .returned (.int .i64 (rngE lo hi [n])) ∧ w = w' := by
  have HE := Lib.hid (rngE_one lo hi n)
  by_cases h1 : n < lo
  · have C := Lib.hid (when_any true 2 w)
    go_enter Try.func125, Try.ntmps125
    go_wp2_with (go_at_call 99; refine C.out.mono ?_; rintro e w' ⟨rfl, rfl⟩)
    go_ret
    exact ⟨by rw [HE.out, if_neg (by omega)]; rfl, rfl⟩
  · by_cases h2 : hi < n
    · have C := Lib.hid (when_any true 2 w)
      go_enter Try.func125, Try.ntmps125
      go_wp2_with (go_at_call 99; refine C.out.mono ?_; rintro e w' ⟨rfl, rfl⟩)
      go_ret
      exact ⟨by rw [HE.out, if_neg (by omega)]; rfl, rfl⟩
    · have C := Lib.hid (when_any false 2 w)
      go_enter Try.func125, Try.ntmps125
      go_wp2_with (go_at_call 99; refine C.out.mono ?_; rintro e w' ⟨rfl, rfl⟩)
      go_ret
      exact ⟨by rw [HE.out, if_pos (by omega)]; rfl, rfl⟩

/-- The first error of a list. -/
def firstNZ : List Int → Int
  | [] => 0
  | x :: xs => if x = 0 then firstNZ xs else x
theorem firstNZ_step (xs : List Int) (k : Nat) (hk : k < xs.length) : firstNZ (xs.drop k) = if xs.getD k 0 = 0 then firstNZ (xs.drop (k + 1)) else xs.getD k 0 := by
  rw [List.drop_eq_getElem_cons hk]
  simp only [firstNZ, List.getD_eq_getElem?_getD, List.getElem?_eq_getElem hk, Option.getD_some]
set_option maxHeartbeats 1000000 in
theorem firstError_any (A : Option Addr) (n c : Nat) (xs : List Int) (w : World) (hr : RdI w A n xs) (hn : n ≤ 9223372036854775806) :
    Calls Try.prog 84 #[.slice A n c] w fun e w' => e = .returned (.int .i64 (firstNZ xs)) ∧ w = w' := by
  have HR := Lib.hid hr; clear hr
  go_enter Try.func84, Try.ntmps84
  go_wp2
  go_loop [7] (fun i => ∃ k : Nat, k ≤ n ∧ i = .int .i64 k ∧ Hid (firstNZ xs = firstNZ (xs.drop k))) (fun i => n - (intOf i).toNat)
  case atStart => exact ⟨0, Nat.zero_le _, rfl, rfl⟩
  case round =>
    obtain ⟨k, hk, rfl, HF⟩ := hrel
    by_cases hlt : k < n
    · obtain ⟨ad, ha, _, hc⟩ := HR.out.2 (by omega)
      have hck := hc k hlt
      clear hc
      subst ha
      obtain ⟨x, hx⟩ : ∃ x, xs.getD k 0 = x := ⟨_, rfl⟩
      have hs := firstNZ_step xs k (by have := HR.out.1; omega)
      rw [hx] at hck hs
      have HS := Lib.hid hs; clear hs hx
      have hkI : (k : Int) < (n : Int) := by omega
      by_cases h0 : x = 0
      · subst h0
        go_wp2
        go_round
        case rel => exact ⟨k + 1, by omega, by go_num, by show _ = _; rw [HF.out, HS.out]; rfl⟩
        case measure => simp [intOf]; omega
      · have h1 : (x == 0) = false := by rw [beq_eq_false_iff_ne]; exact h0
        have h2 : (x != 0) = true := by rw [bne_iff_ne]; exact h0
        go_wp2
        go_ret
        exact ⟨by rw [HF.out, HS.out, if_neg h0]; rfl, rfl⟩
    · obtain rfl : n = k := by omega
      go_wp2
      go_ret
      exact ⟨by rw [HF.out, List.drop_eq_nil_of_le (by have := HR.out.1; omega)]; rfl, rfl⟩

set_option maxHeartbeats 1000000 in
theorem checkEach_any (A : Option Addr) (n c : Nat) (xs : List Int) (lo hi : Int) (a b : Addr) (w : World) (hr : RdI w A n xs) (hn : n ≤ 9223372036854775806) (ha : w.cell? a = some (.int .i64 lo)) (hb : w.cell? b = some (.int .i64 hi)) :
    Calls Try.prog 107 #[.slice A n c, .func (.func 125) #[] #[.pointer (some a), .pointer (some b)]] w fun e w' => e = .returned (.int .i64 (rngE lo hi xs)) ∧ w = w' := by
  have HR := Lib.hid hr; clear hr
  have C := Lib.hid (fun n => from1_any n lo hi a b w ha hb)
  clear ha hb
  go_enter Try.func107, Try.ntmps107
  go_wp2
  go_loop [10] (fun i => ∃ k : Nat, k ≤ n ∧ i = .int .i64 k ∧ Hid (rngE lo hi xs = rngE lo hi (xs.drop k))) (fun i => n - (intOf i).toNat)
  case atStart => exact ⟨0, Nat.zero_le _, rfl, rfl⟩
  case round =>
    obtain ⟨k, hk, rfl, HF⟩ := hrel
    by_cases hlt : k < n
    · obtain ⟨ad, ha, _, hc⟩ := HR.out.2 (by omega)
      have hck := hc k hlt
      clear hc
      subst ha
      obtain ⟨x, hx⟩ : ∃ x, xs.getD k 0 = x := ⟨_, rfl⟩
      have hs := rngE_step lo hi xs k (by have := HR.out.1; omega)
      rw [hx] at hck hs
      have CX := Lib.hid (C.out x)
      obtain ⟨E, hE⟩ : ∃ E, rngE lo hi [x] = E := ⟨_, rfl⟩
      rw [hE] at hs CX
      have HS := Lib.hid hs; clear hs hx hE
      have hkI : (k : Int) < (n : Int) := by omega
      by_cases h0 : E = 0
      · subst h0
        go_wp2_with (go_at_call 125; refine CX.out.mono ?_; rintro e w' ⟨rfl, rfl⟩)
        go_round
        case rel => exact ⟨k + 1, by omega, by go_num, by show _ = _; rw [HF.out, HS.out]; rfl⟩
        case measure => simp [intOf]; omega
      · have h1 : (E == 0) = false := by rw [beq_eq_false_iff_ne]; exact h0
        have h2 : (E != 0) = true := by rw [bne_iff_ne]; exact h0
        go_wp2_with (go_at_call 125; refine CX.out.mono ?_; rintro e w' ⟨rfl, rfl⟩)
        go_ret
        exact ⟨by rw [HF.out, HS.out, if_neg h0]; rfl, rfl⟩
    · obtain rfl : n = k := by omega
      go_wp2
      go_ret
      exact ⟨by rw [HF.out, List.drop_eq_nil_of_le (by have := HR.out.1; omega)]; rfl, rfl⟩

end Go.Proofs.Ytccoflhoggpgoaa


namespace Go.Proofs.Ytccoflhoggpgoaa
open Go.RowKit

theorem firstNZ2 (a b : Int) : firstNZ [a, b] = if a = 0 then b else a := by
  simp only [firstNZ]
  by_cases h : b = 0 <;> simp [h]
theorem firstNZ3 (a b c : Int) : firstNZ [a, b, c] = if a = 0 then (if b = 0 then c else b) else a := by
  simp only [firstNZ]
  by_cases h : c = 0 <;> simp [h]

theorem below2 (w : World) (o p : Obj) : Below w.heap.size w ((w.alloc o).alloc p) := ((Below.refl _ _).alloc (Nat.le_refl _) _).alloc (by simp) _
theorem below3 (w : World) (o p q : Obj) : Below w.heap.size w (((w.alloc o).alloc p).alloc q) := (below2 w o p).alloc (by simp; omega) _

theorem absF_bd (n m : Int) (h : -m ≤ n ∧ n ≤ m) : 0 ≤ absF n ∧ absF n ≤ m := by unfold absF; split <;> omega
theorem rngE_01 (lo hi : Int) (xs : List Int) : rngE lo hi xs = 0 ∨ rngE lo hi xs = 2 := by unfold rngE; split <;> simp
theorem rngE_zero {lo hi n : Int} (h : rngE lo hi [n] = 0) : lo ≤ n ∧ n ≤ hi := by
  rw [rngE_one] at h
  by_cases h1 : lo ≤ n ∧ n ≤ hi
  · exact h1
  · rw [if_neg h1] at h; cases h
theorem rngE_of {lo hi n : Int} (h : lo ≤ n ∧ n ≤ hi) : rngE lo hi [n] = 0 := by rw [rngE_one, if_pos h]
theorem rngE_two (lo hi a b : Int) : rngE lo hi [a, b] = if lo ≤ a ∧ a ≤ hi ∧ lo ≤ b ∧ b ≤ hi then 0 else 2 := by
  unfold rngE fromB
  by_cases h : lo ≤ a ∧ a ≤ hi ∧ lo ≤ b ∧ b ≤ hi
  · rw [if_pos h, if_pos (by simp [h.1, h.2.1, h.2.2.1, h.2.2.2])]
  · rw [if_neg h, if_neg (by simp; omega)]
theorem mul_bd {a b A B : Int} (ha : -A ≤ a ∧ a ≤ A) (hb : -B ≤ b ∧ b ≤ B) (hA : 0 ≤ A) (hB : 0 ≤ B) : -(A * B) ≤ a * b ∧ a * b ≤ A * B := by
  have h : (a.natAbs : Int) * b.natAbs ≤ A * B := Int.mul_le_mul (by omega) (by omega) (by omega) hA
  have e : ((a * b).natAbs : Int) = (a.natAbs : Int) * b.natAbs := by rw [Int.natAbs_mul]; rfl
  rw [← e] at h
  obtain ⟨x, hx⟩ : ∃ x, a * b = x := ⟨_, rfl⟩
  obtain ⟨y, hy⟩ : ∃ y, A * B = y := ⟨_, rfl⟩
  rw [hx, hy] at h ⊢
  omega


theorem firstError2 {E1 E2 F : Int} (hF : firstNZ [E1, E2] = F) (W : World) (g : Nat) (h0 : W.cell? ⟨g, 0, none⟩ = some (.int .i64 E1)) (h1 : W.cell? ⟨g, 1, none⟩ = some (.int .i64 E2)) :
    Calls Try.prog 84 #[.slice (some ⟨g, 0, none⟩) 2 2] W fun e w' => e = .returned (.int .i64 F) ∧ W = w' := by
  subst hF
  exact firstError_any _ 2 2 [E1, E2] W (lit2 _ _ _ _ h0 h1) (by omega)
theorem firstError3 {E1 E2 E3 F : Int} (hF : firstNZ [E1, E2, E3] = F) (W : World) (g : Nat) (h0 : W.cell? ⟨g, 0, none⟩ = some (.int .i64 E1)) (h1 : W.cell? ⟨g, 1, none⟩ = some (.int .i64 E2)) (h2 : W.cell? ⟨g, 2, none⟩ = some (.int .i64 E3)) :
    Calls Try.prog 84 #[.slice (some ⟨g, 0, none⟩) 3 3] W fun e w' => e = .returned (.int .i64 F) ∧ W = w' := by
  subst hF
  exact firstError_any _ 3 3 [E1, E2, E3] W (lit3 _ _ _ _ _ h0 h1 h2) (by omega)
theorem firstError4 {E1 E2 E3 E4 F : Int} (hF : firstNZ [E1, E2, E3, E4] = F) (W : World) (g : Nat) (h0 : W.cell? ⟨g, 0, none⟩ = some (.int .i64 E1)) (h1 : W.cell? ⟨g, 1, none⟩ = some (.int .i64 E2)) (h2 : W.cell? ⟨g, 2, none⟩ = some (.int .i64 E3)) (h3 : W.cell? ⟨g, 3, none⟩ = some (.int .i64 E4)) :
    Calls Try.prog 84 #[.slice (some ⟨g, 0, none⟩) 4 4] W fun e w' => e = .returned (.int .i64 F) ∧ W = w' := by
  subst hF
  exact firstError_any _ 4 4 [E1, E2, E3, E4] W (lit4 _ _ _ _ _ _ h0 h1 h2 h3) (by omega)
theorem firstNZ_zero {xs : List Int} (h : firstNZ xs = 0) : ∀ x ∈ xs, x = 0 := by
  induction xs with
  | nil => simp
  | cons a l ih =>
    rw [firstNZ] at h
    by_cases h0 : a = 0
    · rw [if_pos h0] at h
      intro x hx
      rcases List.mem_cons.1 hx with rfl | hx
      · exact h0
      · exact ih h x hx
    · rw [if_neg h0] at h; exact absurd h h0

/-- What Below says of the cells. -/
theorem bcell {B : Nat} {W w1 : World} (hb : Below B W w1) : (∀ b o, b < B → w1.cell? ⟨b, o, none⟩ = W.cell? ⟨b, o, none⟩) ∧ (∀ b o, b < B → w1.frozen? ⟨b, o, none⟩ = W.frozen? ⟨b, o, none⟩) :=
  ⟨fun b o h => hb.cell (p := ⟨b, o, none⟩) h, fun b o h => hb.frozen (p := ⟨b, o, none⟩) h⟩

/-- A block of three integers known whole. -/
theorem bk3 {W : World} {g : Nat} {t : TypeId} {x y z : Int} (h : Bk W g t #[.int .i64 x, .int .i64 y, .int .i64 z]) : W.cell? ⟨g, 0, none⟩ = some (.int .i64 x) ∧ W.cell? ⟨g, 1, none⟩ = some (.int .i64 y) ∧ W.cell? ⟨g, 2, none⟩ = some (.int .i64 z) :=
  ⟨by rw [h.cell]; rfl, by rw [h.cell]; rfl, by rw [h.cell]; rfl⟩

theorem bk6 {W : World} {g : Nat} {t : TypeId} {a b c d e f : Value} (h : Bk W g t #[a, b, c, d, e, f]) : W.cell? ⟨g, 0, none⟩ = some a ∧ W.cell? ⟨g, 1, none⟩ = some b ∧ W.cell? ⟨g, 2, none⟩ = some c ∧ W.cell? ⟨g, 3, none⟩ = some d ∧ W.cell? ⟨g, 4, none⟩ = some e ∧ W.cell? ⟨g, 5, none⟩ = some f :=
  ⟨by rw [h.cell]; rfl, by rw [h.cell]; rfl, by rw [h.cell]; rfl, by rw [h.cell]; rfl, by rw [h.cell]; rfl, by rw [h.cell]; rfl⟩

theorem below1 (w : World) (o : Obj) : Below w.heap.size w (w.alloc o) := (Below.refl _ _).alloc (Nat.le_refl _) _

end Go.Proofs.Ytccoflhoggpgoaa


namespace Go.Proofs.Ytccoflhoggpgoaa
open Go.RowKit

theorem blw_drewN {B : Nat} {a w : World} (h : Below B a w) (n : Nat) : Below B a (w.drewN n) := ⟨h.os, h.tape, h.output, h.size, h.block⟩
theorem mulB {a b : Int} (A B : Int) (ha : -A ≤ a ∧ a ≤ A) (hb : -B ≤ b ∧ b ≤ B) (hA : 0 ≤ A) (hB : 0 ≤ B) (C : Int) (h : A * B ≤ C) : -C ≤ a * b ∧ a * b ≤ C := by
  have := mul_bd ha hb hA hB
  omega
theorem wrapOf {a : Int} (A : Int) (h : -A ≤ a ∧ a ≤ A) (hA : A ≤ 9000000000000000000) : IntKind.i64.wrap a = a := IntWalk.i64_in _ (by omega)
theorem gcd_step (x y : Int) (hy : y ≠ 0) : Int.gcd y (x.tmod y) = Int.gcd x y := by
  have h : x.tmod y = x - y * (x.tdiv y) := by have := Int.tmod_add_mul_tdiv x y; omega
  rw [h, Int.gcd_comm x y]
  have := Int.gcd_sub_mul_left_right y x (x.tdiv y)
  first | exact this | simpa using this
theorem natAbs_tmod_lt (x y : Int) (hy : y ≠ 0) : (x.tmod y).natAbs < y.natAbs := by
  rw [Int.natAbs_tmod]
  exact Nat.mod_lt _ (by omega)

/-- The code's divisor of a number and a divisor above 0. -/
theorem commonDivisor_any (a b : Int) (ha0 : -9223372036854775808 ≤ a) (ha1 : a ≤ 9223372036854775807) (hb : 0 < b) (hb1 : b ≤ 9223372036854775807) (w : World) :
    Calls Try.prog 126 #[.int .i64 a, .int .i64 b] w fun e w' => (∃ r : Int, e = .returned (.int .i64 r) ∧ r.natAbs = Int.gcd a b ∧ (0 ≤ a → 0 ≤ r)) ∧ ∃ n, w' = w.drewN n := by
  go_enter Try.func126, Try.ntmps126
  go_wp2
  go_loopw [0, 1] (fun s t wr => ∃ x y : Int, s = .int .i64 x ∧ t = .int .i64 y ∧ Hid (Int.gcd y x = Int.gcd a b) ∧ -9223372036854775808 ≤ x ∧ x ≤ 9223372036854775807 ∧ -9223372036854775808 ≤ y ∧ y ≤ 9223372036854775807 ∧ Hid (0 ≤ a → 0 ≤ x ∧ 0 ≤ y) ∧ Hid (∃ n, wr = w.drewN n)) (fun s _ _ => (intOf s).natAbs)
  case atStart => exact ⟨a, b, rfl, rfl, Int.gcd_comm _ _, ha0, ha1, by omega, hb1, fun h => ⟨h, by omega⟩, 0, rfl⟩
  case round =>
    obtain ⟨x, y, rfl, rfl, hg, hx0, hx1, hy0, hy1, hz, hw⟩ := hrel
    by_cases h0 : x = 0
    · subst h0
      go_wp2
      go_ret
      refine ⟨⟨y, rfl, ?_, fun h => (hz.out h).2⟩, hw.out⟩
      have e := hg.out
      simpa only [Int.gcd_zero_right] using e
    · have h1 : (x == 0) = false := by simpa using h0
      have h2 : (x != 0) = true := by simpa using h0
      have hm := natAbs_tmod_lt y x h0
      have hg2 := gcd_step y x h0
      have HG : Hid (Int.gcd x (y.tmod x) = Int.gcd a b) := hg2.trans hg.out
      clear hg2
      have HM : Hid ((y.tmod x).natAbs < x.natAbs) := hm
      have hb1 : -9223372036854775808 ≤ y.tmod x ∧ y.tmod x ≤ 9223372036854775807 := by omega
      have hw1 : IntKind.i64.wrap (y.tmod x) = y.tmod x := IntWalk.i64_in _ (by omega)
      have HS : Hid (0 ≤ a → 0 ≤ y.tmod x) := by
        intro h
        rw [Int.tmod_eq_emod_of_nonneg (hz.out h).2]
        exact Int.emod_nonneg _ h0
      clear hm
      go_wp2
      go_roundw
      case rel =>
        refine ⟨y.tmod x, x, by first | rfl | (rw [hw1]) , rfl, HG, by omega, by omega, by omega, by omega, fun h => ⟨HS.out h, (hz.out h).1⟩, hw⟩
      case measure => exact HM.out

/-- Whether a fraction is in lowest terms. -/
def lowB (n d : Int) : Bool := decide (0 < d) && decide ((Int.gcd n d : Int) = 1)
theorem isLowest_any (n d : Int) (hn0 : -9223372036854775808 ≤ n) (hn1 : n ≤ 9223372036854775807) (hd1 : d ≤ 9223372036854775807) (w : World) :
    Calls Try.prog 127 #[.agg #[.int .i64 n, .int .i64 d]] w fun e w' => e = .returned (.bool (lowB n d)) ∧ Below w.heap.size w w' := by
  by_cases h : 0 < d
  · have hd : decide (0 < d) = true := by simpa using h
    have C := Lib.hid (fun w => commonDivisor_any n d hn0 hn1 h hd1 w)
    obtain ⟨g, hg⟩ : ∃ g, Int.gcd n d = g := ⟨_, rfl⟩
    have HV : Hid (lowB n d = decide (g = 1)) := by
      show _ = _
      unfold lowB
      rw [hg, hd, Bool.true_and]
      exact decide_eq_decide.2 (by omega)
    rw [hg] at C
    obtain ⟨V, hV⟩ : ∃ V, lowB n d = V := ⟨_, rfl⟩
    rw [hV] at HV ⊢
    clear hg hV
    go_enter Try.func127, Try.ntmps127
    go_wp2_with fail
    refine (C.out _).mono ?_
    rintro e w' ⟨⟨r, rfl, hr, _⟩, k, rfl⟩
    by_cases h1 : r = 1
    · subst h1
      go_wp2
      go_ret
      exact ⟨by rw [HV.out, ← hr]; rfl, blw_drewN ((Below.refl _ _).alloc (Nat.le_refl _) _) _⟩
    · have h1' : (r == 1) = false := by simpa using h1
      by_cases h2 : r = -1
      · subst h2
        go_wp2
        go_ret
        exact ⟨by rw [HV.out, ← hr]; rfl, blw_drewN ((Below.refl _ _).alloc (Nat.le_refl _) _) _⟩
      · have h2' : (r == -1) = false := by simpa using h2
        go_wp2
        go_ret
        have hF : decide (r.natAbs = 1) = false := decide_eq_false (by omega)
        exact ⟨by rw [HV.out, ← hr, hF]; rfl, blw_drewN ((Below.refl _ _).alloc (Nat.le_refl _) _) _⟩
  · go_enter Try.func127, Try.ntmps127
    go_wp2
    go_ret
    exact ⟨by simp [lowB]; omega, (Below.refl _ _).alloc (Nat.le_refl _) _⟩

/-- A fraction in lowest terms. -/
def fN (a b : Int) : Int := a / (Int.gcd a b : Int)
def fD (a b : Int) : Int := b / (Int.gcd a b : Int)
theorem gcd_facts {a b : Int} (ha0 : 0 ≤ a) (hb0 : 0 < b) : 1 ≤ Int.gcd a b ∧ (Int.gcd a b : Int) ≤ b ∧ 0 ≤ fN a b ∧ fN a b ≤ a ∧ 0 < fD a b ∧ fD a b ≤ b ∧ fN a b * (Int.gcd a b : Int) = a ∧ fD a b * (Int.gcd a b : Int) = b := by
  have h1 := Int.gcd_pos_of_ne_zero_right a (show b ≠ 0 by omega)
  have h2 : (Int.gcd a b : Int) ≤ b := Int.le_of_dvd hb0 (Int.gcd_dvd_right ..)
  have h3 : fN a b * (Int.gcd a b : Int) = a := Int.ediv_mul_cancel (Int.gcd_dvd_left ..)
  have h4 : fD a b * (Int.gcd a b : Int) = b := Int.ediv_mul_cancel (Int.gcd_dvd_right ..)
  have h5 : 0 ≤ fN a b := Int.ediv_nonneg ha0 (by omega)
  have h6 : fN a b ≤ a := Int.ediv_le_self _ ha0
  have h7 : 0 ≤ fD a b := Int.ediv_nonneg (by omega) (by omega)
  have h8 : fD a b ≤ b := Int.ediv_le_self _ (by omega)
  have h9 : fD a b ≠ 0 := by intro h; rw [h] at h4; omega
  exact ⟨h1, h2, h5, h6, by omega, h8, h3, h4⟩

set_option maxRecDepth 100000 in
theorem fractionOf_any (a b : Int) (w : World) (ha0 : 0 ≤ a) (ha1 : a ≤ 1000000000000000000) (hb0 : 0 < b) (hb1 : b ≤ 1000000000000000000) :
    Calls Try.prog 87 #[.int .i64 a, .int .i64 b] w fun e w' => e = .returned (.agg #[.int .i64 (fN a b), .int .i64 (fD a b)]) ∧ Below w.heap.size w w' := by
  have C := Lib.hid (fun w => commonDivisor_any a b (by omega) (by omega) hb0 (by omega) w)
  obtain ⟨h1, h2, _⟩ := gcd_facts ha0 hb0
  unfold fN fD
  obtain ⟨gn, hgn⟩ : ∃ g, Int.gcd a b = g := ⟨_, rfl⟩
  rw [hgn] at h1 h2 C ⊢
  clear hgn
  have hq1 := Int.ediv_nonneg ha0 (show 0 ≤ (gn : Int) by omega)
  have hq2 := Int.ediv_le_self (gn : Int) ha0
  have hq3 := Int.ediv_nonneg (Int.le_of_lt hb0) (show 0 ≤ (gn : Int) by omega)
  have hq4 := Int.ediv_le_self (gn : Int) (Int.le_of_lt hb0)
  obtain ⟨g, hg⟩ : ∃ g : Int, (gn : Int) = g := ⟨_, rfl⟩
  have HGN := Lib.hid hg
  rw [hg] at hq1 hq2 hq3 hq4 h2 ⊢
  have hgp : 1 ≤ g := by omega
  have hgne : (g == 0) = false := beq_eq_false_iff_ne.2 (by omega)
  clear hg h1
  go_enter Try.func87, Try.ntmps87
  go_wp2_with fail
  refine (C.out _).mono ?_
  rintro e w' ⟨⟨r, rfl, hr, hr0⟩, k, rfl⟩
  obtain rfl : g = r := by have := HGN.out; have := hr0 ha0; omega
  clear hr hr0
  go_wp2
  go_region
  go_wp2
  refine bodyPost_ret (v := .agg #[.int .i64 (a / g), .int .i64 (b / g)]) (by simp [results, Try.results87, go_sem]) rfl ⟨rfl, ?_⟩
  exact (((blw_drewN ((Below.refl _ _).alloc (Nat.le_refl _) _) _).setCell (by simp) _).setCell (by simp) _)

/-! ### the base's -/
theorem bGcd_any (a b : Int) (ha0 : -9223372036854775808 ≤ a) (ha1 : a ≤ 9223372036854775807) (hb : 0 < b) (hb1 : b ≤ 9223372036854775807) (w : World) :
    Calls Try.prog 92 #[.int .i64 a, .int .i64 b] w fun e w' => e = .returned (.int .i64 (Int.gcd a b)) ∧ ∃ n, w' = w.drewN n := by
  go_enter Try.func92, Try.ntmps92
  go_wp2
  go_loopw [0, 1] (fun s t wr => ∃ x y : Int, s = .int .i64 x ∧ t = .int .i64 y ∧ Hid (Int.gcd x y = Int.gcd a b) ∧ -9223372036854775808 ≤ x ∧ x ≤ 9223372036854775807 ∧ -9223372036854775808 < y ∧ y ≤ 9223372036854775807 ∧ Hid (y = 0 → -9223372036854775808 < x) ∧ Hid (∃ n, wr = w.drewN n)) (fun _ t _ => (intOf t).natAbs)
  case atStart => exact ⟨a, b, rfl, rfl, rfl, ha0, ha1, by omega, hb1, fun h => absurd h (by omega), 0, rfl⟩
  case round =>
    obtain ⟨x, y, rfl, rfl, hg, hx0, hx1, hy0, hy1, hz, hw⟩ := hrel
    by_cases h0 : y = 0
    · subst h0
      have hx2 := hz.out rfl
      have CS : Hid (∀ w, Calls Try.prog 63 #[.int .i64 x] w fun e w' => e = .returned (.int .i64 (x.natAbs : Int)) ∧ w = w') := by
        intro w
        have hw1 : IntKind.i64.wrap (-x) = -x := IntWalk.i64_in _ (by omega)
        clear hg hz hw
        go_enter Try.func63, Try.ntmps63
        go_wp2
        all_goals
          go_ret
          refine ⟨?_, rfl⟩
          first
          | (show Ending.returned (Value.int .i64 (-x)) = _; congr 2; omega)
          | (show Ending.returned (Value.int .i64 x) = _; congr 2; omega)
      go_wp2_with (go_at_call 63; refine (CS.out _).mono ?_; rintro e w' ⟨rfl, rfl⟩)
      go_ret
      refine ⟨?_, hw.out⟩
      have e := hg.out
      simp only [Int.gcd_zero_right] at e
      rw [← e]
      rfl
    · have h1 : (y == 0) = false := by simpa using h0
      have h2 : (y != 0) = true := by simpa using h0
      have hm := natAbs_tmod_lt x y h0
      have hg2 := gcd_step x y h0
      have HG : Hid (Int.gcd y (x.tmod y) = Int.gcd a b) := hg2.trans hg.out
      clear hg2
      have HM : Hid ((x.tmod y).natAbs < y.natAbs) := hm
      clear hm
      go_wp2
      go_quiet (fail)
      go_wp2
      go_roundw
      case rel =>
        obtain ⟨n, hn⟩ := hw.out
        have hb1 := HM.out
        refine ⟨y, x.tmod y, rfl, rfl, HG, by omega, by omega, by omega, by omega, fun _ => by omega, n + nq, ?_⟩
        rw [hn, World.drewN_drewN]
      case measure => exact HM.out

theorem bIsLowest_any (n d : Int) (hn0 : -9223372036854775808 ≤ n) (hn1 : n ≤ 9223372036854775807) (hd1 : d ≤ 9223372036854775807) (w : World) :
    Calls Try.prog 24 #[.agg #[.int .i64 n, .int .i64 d]] w fun e w' => e = .returned (.bool (lowB n d)) ∧ Below w.heap.size w w' := by
  by_cases h : 0 < d
  · have hd : decide (0 < d) = true := by simpa using h
    obtain ⟨g, hg⟩ : ∃ g : Int, g = (Int.gcd n d : Int) := ⟨_, rfl⟩
    have HG := Lib.hid hg
    have c := bGcd_any n d hn0 hn1 h hd1
    rw [← hg] at c
    clear hg
    have C : Hid (∀ w, Calls Try.prog 92 #[.int .i64 n, .int .i64 d] w fun e w' => e = .returned (.int .i64 g) ∧ ∃ n, w' = w.drewN n) := c
    clear c
    go_enter Try.func24, Try.ntmps24
    go_wp2_with (go_at_call 92; refine (C.out _).mono ?_; rintro e w' ⟨rfl, k, rfl⟩)
    go_ret
    refine ⟨?_, ?_⟩
    · have := HG.out
      simp [lowB, h, ← this]
      try rfl
    · exact blw_drewN ((Below.refl _ _).alloc (Nat.le_refl _) _) _
  · go_enter Try.func24, Try.ntmps24
    go_wp2
    go_ret
    exact ⟨by simp [lowB]; omega, (Below.refl _ _).alloc (Nat.le_refl _) _⟩

set_option maxRecDepth 100000 in
theorem bLowest_any (a b : Int) (w : World) (ha0 : 0 ≤ a) (ha1 : a ≤ 1000000000000000000) (hb0 : 0 < b) (hb1 : b ≤ 1000000000000000000) :
    Calls Try.prog 26 #[.int .i64 a, .int .i64 b] w fun e w' => e = .returned (.agg #[.int .i64 (fN a b), .int .i64 (fD a b)]) ∧ Below w.heap.size w w' := by
  have C0 := Lib.hid (fun w => bGcd_any a b (by omega) (by omega) hb0 (by omega) w)
  obtain ⟨h1, h2, _⟩ := gcd_facts ha0 hb0
  unfold fN fD
  obtain ⟨g, hg⟩ : ∃ g : Int, (Int.gcd a b : Int) = g := ⟨_, rfl⟩
  rw [hg] at h2 C0 ⊢
  have hg1 : 1 ≤ g := by omega
  have C : Hid (∀ W, Calls Try.prog 92 #[.int .i64 a, .int .i64 b] W fun e w' => e = .returned (.int .i64 g) ∧ ∃ n, w' = W.drewN n) := C0
  clear hg C0 h1
  have hq1 := Int.ediv_nonneg ha0 (show 0 ≤ g by omega)
  have hq2 := Int.ediv_le_self g ha0
  have hq3 := Int.ediv_nonneg (Int.le_of_lt hb0) (show 0 ≤ g by omega)
  have hq4 := Int.ediv_le_self g (Int.le_of_lt hb0)
  have hgne : (g == 0) = false := beq_eq_false_iff_ne.2 (by omega)
  go_enter Try.func26, Try.ntmps26
  go_wp2_with (go_at_call 92; refine (C.out _).mono ?_; rintro e w' ⟨rfl, k, rfl⟩)
  go_region
  go_wp2
  refine bodyPost_ret (v := .agg #[.int .i64 (a / g), .int .i64 (b / g)]) (by simp [results, Try.results26, go_sem]) rfl ⟨rfl, ?_⟩
  exact (((blw_drewN ((Below.refl _ _).alloc (Nat.le_refl _) _) _).setCell (by simp) _).setCell (by simp) _)

theorem bWhole_any (n : Int) (w : World) :
    Calls Try.prog 23 #[.int .i64 n] w fun e w' => e = .returned (.agg #[.int .i64 n, .int .i64 1]) ∧ Below w.heap.size w w' := by
  go_enter Try.func23, Try.ntmps23
  go_wp2
  refine bodyPost_ret (v := .agg #[.int .i64 n, .int .i64 1]) (by simp [results, Try.results23, go_sem]) rfl ⟨rfl, by go_grown⟩

theorem bIsSmall_any (n d : Int) (w : World) :
    Calls Try.prog 25 #[.agg #[.int .i64 n, .int .i64 d]] w fun e w' => e = .returned (.bool (fromB (-1000000000) 1000000000 [n] && fromB 1 1000000000 [d])) ∧ Below w.heap.size w w' := by
  have C : Hid (∀ W, Calls Try.prog 28 #[.int .i64 n, .int .i64 (-1000000000), .int .i64 1000000000] W fun e w' => e = .returned (.bool (fromB (-1000000000) 1000000000 [n])) ∧ W = w') := fun W => within_any _ _ _ W
  obtain ⟨b1, hb1⟩ : ∃ b, fromB (-1000000000) 1000000000 [n] = b := ⟨_, rfl⟩
  rw [hb1] at C ⊢
  clear hb1
  cases b1
  · go_enter Try.func25, Try.ntmps25
    go_wp2_with fail
    refine (C.out _).mono ?_
    rintro e w' ⟨rfl, rfl⟩
    go_wp2
    go_ret
    exact ⟨rfl, (Below.refl _ _).alloc (Nat.le_refl _) _⟩
  · go_enter Try.func25, Try.ntmps25
    go_wp2_with fail
    refine (C.out _).mono ?_
    rintro e w' ⟨rfl, rfl⟩
    go_wp2_with fail
    refine (within_any _ _ _ _).mono ?_
    rintro e w' ⟨rfl, rfl⟩
    go_wp2
    go_ret
    exact ⟨rfl, (Below.refl _ _).alloc (Nat.le_refl _) _⟩

def cmpF (a b c d : Int) : Int := if a * d < c * b then -1 else if c * b < a * d then 1 else 0
set_option maxRecDepth 100000 in
set_option maxHeartbeats 1000000 in
theorem bCmp_any (a b c d : Int) (w : World) (ha : -1000000000 ≤ a ∧ a ≤ 1000000000) (hb : -1000000000 ≤ b ∧ b ≤ 1000000000) (hc : -1000000000 ≤ c ∧ c ≤ 1000000000) (hd : -1000000000 ≤ d ∧ d ≤ 1000000000) :
    Calls Try.prog 27 #[.agg #[.int .i64 a, .int .i64 b], .agg #[.int .i64 c, .int .i64 d]] w fun e w' => e = .returned (.int .i64 (cmpF a b c d)) ∧ Below w.heap.size w w' := by
  have b1 := mulB (a := a) (b := d) 1000000000 1000000000 ha hd (by omega) (by omega) 1000000000000000000 (by omega)
  have b2 := mulB (a := c) (b := b) 1000000000 1000000000 hc hb (by omega) (by omega) 1000000000000000000 (by omega)
  have w1 : IntKind.i64.wrap (a * d) = a * d := IntWalk.i64_in _ (by omega)
  have w2 : IntKind.i64.wrap (c * b) = c * b := IntWalk.i64_in _ (by omega)
  have HV : Hid (cmpF a b c d = if a * d < c * b then -1 else if c * b < a * d then 1 else 0) := rfl
  obtain ⟨x, hx⟩ : ∃ x, a * d = x := ⟨_, rfl⟩
  obtain ⟨y, hy⟩ : ∃ y, c * b = y := ⟨_, rfl⟩
  rw [hx] at w1 HV
  rw [hy] at w2 HV
  obtain ⟨V, hV⟩ : ∃ V, cmpF a b c d = V := ⟨_, rfl⟩
  rw [hV] at HV ⊢
  clear hV b1 b2
  by_cases h1 : x < y
  · have hF := HV.out
    rw [if_pos h1] at hF
    subst hF
    clear HV
    go_enter Try.func27, Try.ntmps27
    go_wp2
    go_quiet (fail)
    go_wp2
    go_ret
    exact ⟨rfl, by (repeat (first | exact Below.refl _ _ | refine Below.drew ?_ | refine belowDrewN ?_ _ | refine Below.alloc ?_ (by first | (simp; done) | (simp; omega)) _))⟩
  · by_cases h2 : y < x
    · have hF := HV.out
      rw [if_neg h1, if_pos h2] at hF
      subst hF
      clear HV
      go_enter Try.func27, Try.ntmps27
      go_wp2
      go_quiet (fail)
      go_wp2
      go_ret
      exact ⟨rfl, by (repeat (first | exact Below.refl _ _ | refine Below.drew ?_ | refine belowDrewN ?_ _ | refine Below.alloc ?_ (by first | (simp; done) | (simp; omega)) _))⟩
    · have hF := HV.out
      rw [if_neg h1, if_neg h2] at hF
      subst hF
      clear HV
      go_enter Try.func27, Try.ntmps27
      go_wp2
      go_quiet (fail)
      go_wp2
      go_ret
      exact ⟨rfl, by (repeat (first | exact Below.refl _ _ | refine Below.drew ?_ | refine belowDrewN ?_ _ | refine Below.alloc ?_ (by first | (simp; done) | (simp; omega)) _))⟩

end Go.Proofs.Ytccoflhoggpgoaa


namespace Go.Proofs.Ytccoflhoggpgoaa
open Go.RowKit

/-- One block that is known whole, and what lay. -/
structure OneB (w : World) (g : Nat) (t : TypeId) (cs : Array Value) (W : World) : Prop where
  k : Bk W g t cs
  b : Below w.heap.size w W

theorem OneB.alloc {w W : World} {g : Nat} {t : TypeId} {cs : Array Value} (h : OneB w g t cs W) (o : Obj) : OneB w g t cs (W.alloc o) := ⟨h.k.alloc o, h.b.alloc h.b.size o⟩

theorem OneB.drew {w W : World} {g : Nat} {t : TypeId} {cs : Array Value} (h : OneB w g t cs W) : OneB w g t cs W.drew := ⟨h.k.drew, h.b.drew⟩

theorem OneB.later {w W w' : World} {g : Nat} {t : TypeId} {cs : Array Value} (hb : Below W.heap.size W w') (h : OneB w g t cs W) : OneB w g t cs w' := ⟨h.k.later hb, h.b.trans (hb.mono h.b.size)⟩

theorem OneB.start (w : World) (t : TypeId) (cs : Array Value) : OneB w w.heap.size t cs (w.alloc (.cells cs t)) := ⟨Bk.new _ _ _, below1 _ _⟩

theorem bk1 {W : World} {g : Nat} {t : TypeId} {a : Value} (h : Bk W g t #[a]) : W.cell? ⟨g, 0, none⟩ = some a ∧ W.frozen? ⟨g, 0, none⟩ = false := ⟨by rw [h.cell]; rfl, h.frozen 0⟩

theorem bk2 {W : World} {g : Nat} {t : TypeId} {x y : Int} (h : Bk W g t #[.int .i64 x, .int .i64 y]) : W.cell? ⟨g, 0, none⟩ = some (.int .i64 x) ∧ W.cell? ⟨g, 1, none⟩ = some (.int .i64 y) ∧ W.frozen? ⟨g, 0, none⟩ = false ∧ W.frozen? ⟨g, 1, none⟩ = false :=
  ⟨by rw [h.cell]; rfl, by rw [h.cell]; rfl, h.frozen 0, h.frozen 1⟩

theorem bkf2 {W : World} {g : Nat} {t : TypeId} {x y : Value} (h : Bk W g t #[x, y]) : W.cell? ⟨g, 0, none⟩ = some x ∧ W.cell? ⟨g, 1, none⟩ = some y :=
  ⟨by rw [h.cell]; rfl, by rw [h.cell]; rfl⟩

theorem bk4 {W : World} {g : Nat} {t : TypeId} {a b c d : Value} (h : Bk W g t #[a, b, c, d]) : W.cell? ⟨g, 0, none⟩ = some a ∧ W.cell? ⟨g, 1, none⟩ = some b ∧ W.cell? ⟨g, 2, none⟩ = some c ∧ W.cell? ⟨g, 3, none⟩ = some d ∧ W.frozen? ⟨g, 0, none⟩ = false ∧ W.frozen? ⟨g, 1, none⟩ = false ∧ W.frozen? ⟨g, 2, none⟩ = false ∧ W.frozen? ⟨g, 3, none⟩ = false :=
  ⟨by rw [h.cell]; rfl, by rw [h.cell]; rfl, by rw [h.cell]; rfl, by rw [h.cell]; rfl, h.frozen 0, h.frozen 1, h.frozen 2, h.frozen 3⟩

theorem bk5 {W : World} {g : Nat} {t : TypeId} {a b c d e : Value} (h : Bk W g t #[a, b, c, d, e]) : W.cell? ⟨g, 0, none⟩ = some a ∧ W.cell? ⟨g, 1, none⟩ = some b ∧ W.cell? ⟨g, 2, none⟩ = some c ∧ W.cell? ⟨g, 3, none⟩ = some d ∧ W.cell? ⟨g, 4, none⟩ = some e :=
  ⟨by rw [h.cell]; rfl, by rw [h.cell]; rfl, by rw [h.cell]; rfl, by rw [h.cell]; rfl, by rw [h.cell]; rfl⟩

theorem step_append_at {P : Program} (w : World) {ops : Array Oper} {o : Oper} {a : Act} {K : Act → World → Prop} {Q : Exit → Act → World → Prop} {E : Prop} (hgd : o.guard = none) (s x : Operand) (t : TypeId)
    (ho : o.op = .call { callee := .builtin .append, args := #[s, x], argTypes := #[t, t] })
    (base : Nat) (e : TypeId) (i : TypeInfo) (z : Value) (size bytes : Nat) (ht : P.underlying t = some (.slice e)) (hi : P.info? e = some i) (hz : i.zero = some z)
    (hsize : i.size = size) (hby : i.bytes = bytes) (hzs : z.cells.size = size) (hsz : 0 < size)
    (v : Value) (n : Nat) (xs : List Value) (hs : a.eval s = v) (hown : w.ownsRow base e size v n xs)
    (ad : Addr) (m c : Nat) (news : List Value) (hx : a.eval x = .slice (some ad) m c) (hl : news.length = m * size) (hnews : ∀ j u, news[j]? = some u → w.cell? (ad.add j) = some u) (h1 : ∀ u ∈ news, u.oneCell' = true)
    (h63 : n + m ≤ maxLen) (hbytes : (n + m) * bytes ≤ 140737488355328) (hbase : base ≤ w.heap.size)
    (h : ∀ v' w', w'.ownsRow base e size v' (n + m) (xs ++ news) → w.grownBy w' v.ownBlock → (v' = .slice none 0 0 ↔ v = .slice none 0 0 ∧ m = 0) → (v'.ownBlock = v.ownBlock ∨ v'.ownBlock = some w.heap.size) → K (a.put o.dst v') w') :
    if Region.wanted o (yielded ops a.tmps) = true then Oper.wp P o a w K Q else E := by
  have hw : Region.wanted o (yielded ops a.tmps) = true := by simp [Region.wanted, hgd]
  rw [if_pos hw]
  obtain ⟨v', w', hr, h2, h3, h4, h5⟩ := run_append_own_at (P := P) w base t o.type e i z size bytes ht hi hz hsize hby hzs hsz v n xs hown ad m c news hl hnews h1 h63 hbytes hbase
  unfold Oper.wp execOp
  simp only [ho, resolve, invoke, builtin, Sem.run_bind, Sem.run_pure, Result.andThen_ok, List.map_toArray, List.map_cons, List.map_nil, hs, hx, hr]
  exact h v' w' h2 h3 h4 h5

theorem ownBelow {w w' : World} {base : Nat} {e : TypeId} {size : Nat} {v : Value} {n : Nat} {xs : List Value} (h : w.ownsRow base e size v n xs) (hb : Below w.heap.size w w') : w'.ownsRow base e size v n xs := by
  refine ⟨h.1, ?_⟩
  rcases h.2 with h0 | ⟨g, cap, cur, h1, h2, h3, h4⟩
  · exact .inl h0
  · exact .inr ⟨g, cap, cur, h1, h2, (hb.block g (Array.getElem?_eq_some_iff.1 h3).1).trans h3, h4⟩

theorem add_add' (a : Addr) (m n : Nat) : (a.add m).add n = a.add (m + n) := by
  unfold Addr.add
  by_cases hm : m = 0
  · subst hm; simp
  · by_cases hn : n = 0
    · subst hn; simp
    · rw [if_neg hm, if_neg hn, if_neg (by omega)]
      simp [Nat.add_assoc]

/-- The address of a part of a slice. -/
def cutA (a : Option Addr) (lo c : Nat) : Option Addr := if c = lo then a else a.map (·.add (lo * 1))

theorem intElem : Try.prog.elem 43 = 3 := by kernel_rfl

theorem intsUnder' : Try.prog.underlying 43 = some (.slice (Try.prog.elem 43)) := by kernel_rfl

theorem sizeOfInt (W : World) : (sizeOf 3).run Try.prog W = .ok 1 W := by kernel_rfl

theorem cut_run (a : Option Addr) (n c lo hi m d : Nat) (l h : Int) (hl : l = lo) (hh : h = hi) (h1 : lo ≤ hi) (h2 : hi ≤ c) (hm : hi - lo = m) (hd : c - lo = d) (W : World) :
    (Instr.slice 43 (.slice a n c) (some (.int .i64 l)) (some (.int .i64 h)) none).run Try.prog W = .ok (.slice (cutA a lo c) m d) W := by
  have := run_slice_lh (P := Try.prog) (w := W) 43 a n c intsUnder' .i64 .i64 l h (by omega) (by omega) (by omega)
  rw [this, intElem, sizeOfInt, ← hm, ← hd, hl, hh]
  rfl

theorem cutTo_run (a : Option Addr) (n c hi : Nat) (h : Int) (hh : h = hi) (h2 : hi ≤ c) (W : World) :
    (Instr.slice 43 (.slice a n c) none (some (.int .i64 h)) none).run Try.prog W = .ok (.slice (cutA a 0 c) hi c) W := by
  have := run_slice_h (P := Try.prog) (w := W) 43 a n c intsUnder' .i64 h (by omega) (by omega)
  rw [this, intElem, sizeOfInt, hh]
  rfl

theorem cutFrom_run (a : Option Addr) (n c lo m d : Nat) (l : Int) (hl : l = lo) (h1 : lo ≤ n) (hm : n - lo = m) (hd : c - lo = d) (W : World) :
    (Instr.slice 43 (.slice a n c) (some (.int .i64 l)) none none).run Try.prog W = .ok (.slice (cutA a lo c) m d) W := by
  have := run_slice_l (P := Try.prog) (w := W) 43 a n c intsUnder' .i64 l (by omega) (by omega)
  rw [this, intElem, sizeOfInt, ← hm, ← hd, hl]
  rfl

theorem RdI.cut {w : World} {a : Option Addr} {n : Nat} {xs : List Int} (h : RdI w a n xs) (lo c m : Nat) (h1 : lo + m ≤ n) (h2 : n ≤ c) : RdI w (cutA a lo c) m ((xs.drop lo).take m) := by
  have hl := h.1
  refine ⟨by rw [List.length_take, List.length_drop]; omega, fun hm => ?_⟩
  obtain ⟨ad, rfl, hb, hc⟩ := h.2 (by omega)
  refine ⟨ad.add (lo * 1), ?_, by rw [addBlock]; exact hb, fun j hj => ?_⟩
  · unfold cutA; rw [if_neg (by omega)]; rfl
  · rw [add_add', hc (lo * 1 + j) (by omega)]
    congr 2
    simp only [List.getD_eq_getElem?_getD, List.getElem?_take, List.getElem?_drop]
    rw [if_pos hj, Nat.mul_one]

theorem rd_take {w : World} {a : Option Addr} {n : Nat} {xs : List Int} (h : RdI w a n xs) (c k : Nat) (h1 : k ≤ n) (h2 : n ≤ c) : RdI w (cutA a 0 c) k (xs.take k) := by
  have := h.cut 0 c k (by omega) h2
  rwa [List.drop_zero] at this

/-- A list of the call's own that reads as xs, and an error; what its address is. -/
def RdResN (w : World) (E : Int) (n : Nat) (xs : List Int) (e : Ending) (w' : World) : Prop :=
  (∃ A' c', e = .returned (.tuple #[.slice A' n c', .int .i64 E]) ∧ RdI w' A' n xs ∧ n ≤ c' ∧ (A' = none → n = 0 ∧ c' = 0)) ∧ Below w.heap.size w w'

theorem OwnRes.rdN {w w' : World} {E : Int} {n : Nat} {xs : List Int} {e : Ending} (h : OwnRes w E xs e w') (hn : xs.length = n) : RdResN w E n xs e w' := by
  obtain ⟨⟨v, rfl, ho⟩, hb⟩ := h
  obtain ⟨A, c, rfl, hnc, hr, hN⟩ := rd_ownN ho
  rw [hn] at hr hnc hN ⊢
  exact ⟨⟨A, c, rfl, hr, hnc, hN⟩, hb⟩

theorem cutA_none {A : Option Addr} {n c k : Nat} (hA : A = none → n = 0 ∧ c = 0) (hk : k ≤ n) : cutA A 0 c = none → k = 0 ∧ c = 0 := by
  intro h
  unfold cutA at h
  cases A with
  | none => have := hA rfl; omega
  | some a => split at h <;> simp at h


/-- A block of two integers, and what lies below. -/
structure FrB (w : World) (g : Nat) (W : World) : Prop where
  res : ∃ a b : Int, Bk W g 23 #[.int .i64 a, .int .i64 b]
  bel : Below w.heap.size w W
theorem FrB.drew {w W : World} {g : Nat} (h : FrB w g W) : FrB w g W.drew := ⟨h.res, h.bel.drew⟩
theorem FrB.later {w W w' : World} {g : Nat} (hb : Below W.heap.size W w') (h : FrB w g W) : FrB w g w' :=
  ⟨by obtain ⟨a, b, k⟩ := h.res; exact ⟨a, b, k.later hb⟩, h.bel.trans (hb.mono h.bel.size)⟩
theorem FrB.set {w W : World} {g : Nat} (h : FrB w g W) (hg : w.heap.size ≤ g) (u v : Int) : FrB w g ((W.setCell ⟨g, 0, none⟩ (.int .i64 u)).setCell ⟨g, 1, none⟩ (.int .i64 v)) := by
  obtain ⟨a, b, k⟩ := h.res
  exact ⟨⟨u, v, (k.set_ 0 (.int .i64 u)).set_ 1 (.int .i64 v)⟩, (h.bel.setCell (p := ⟨g, 0, none⟩) hg _).setCell (p := ⟨g, 1, none⟩) hg _⟩
theorem FrB.alloc {w W : World} {g : Nat} (h : FrB w g W) (o : Obj) : FrB w g (W.alloc o) :=
  ⟨by obtain ⟨a, b, k⟩ := h.res; exact ⟨a, b, k.alloc o⟩, h.bel.alloc h.bel.size o⟩
theorem FrB.start (w : World) : FrB w w.heap.size (w.alloc (.cells #[.int .i64 0, .int .i64 0] 23)) := ⟨⟨0, 0, Bk.new _ _ _⟩, (Below.refl _ _).alloc (Nat.le_refl _) _⟩

end Go.Proofs.Ytccoflhoggpgoaa


namespace Go.Proofs.Ytccoflhoggpgoaa
open Go.RowKit

/-! ### blocks and their energies -/
def sqS (l : List Int) : Int := (l.map fun x => x * x).sum
theorem sqS_nil : sqS [] = 0 := rfl
theorem sqS_snoc (l : List Int) (x : Int) : sqS (l ++ [x]) = sqS l + x * x := by simp [sqS, List.sum_append]
theorem take_snoc {l : List Int} {k : Nat} (h : k < l.length) : l.take (k + 1) = l.take k ++ [l.getD k 0] := by
  rw [List.take_succ_eq_append_getElem h]
  simp [List.getD_eq_getElem?_getD, List.getElem?_eq_getElem h]
def small (xs : List Int) : Prop := ∀ x ∈ xs, -32767 ≤ x ∧ x ≤ 32767
theorem sq_bd {x : Int} (h : -32767 ≤ x ∧ x ≤ 32767) : 0 ≤ x * x ∧ x * x ≤ 1073676289 := by
  have h1 := mulB (a := x) (b := x) 32767 32767 h h (by omega) (by omega) 1073676289 (by omega)
  refine ⟨?_, h1.2⟩
  rcases Int.le_total 0 x with h0 | h0
  · exact Int.mul_nonneg h0 h0
  · exact Int.mul_nonneg_of_nonpos_of_nonpos h0 h0
theorem sqS_bd : ∀ l : List Int, small l → 0 ≤ sqS l ∧ sqS l ≤ 1073676289 * l.length
  | [], _ => by simp [sqS]
  | x :: l, h => by
    have h1 := sqS_bd l (fun y hy => h y (List.mem_cons_of_mem _ hy))
    have h2 := sq_bd (h x (List.mem_cons_self))
    have e : sqS (x :: l) = x * x + sqS l := by simp [sqS]
    rw [e, List.length_cons]
    omega
theorem getD_small {xs : List Int} (h : small xs) {k : Nat} (hk : k < xs.length) : -32767 ≤ xs.getD k 0 ∧ xs.getD k 0 ≤ 32767 := by
  rw [List.getD_eq_getElem?_getD, List.getElem?_eq_getElem hk, Option.getD_some]
  exact h _ (List.getElem_mem _)

set_option maxHeartbeats 1000000 in
theorem energy_any (A : Option Addr) (n c : Nat) (l : List Int) (w : World) (hr : RdI w A n l) (hn : n ≤ 50) (hl : small l) :
    Calls Try.prog 129 #[.slice A n c] w fun e w' => e = .returned (.int .i64 (sqS l)) ∧ w = w' := by
  have HR := Lib.hid hr
  have HL := Lib.hid hl
  clear hr hl
  go_enter Try.func129, Try.ntmps129
  go_wp2
  go_loop [3, 8] (fun s i => ∃ k : Nat, k ≤ n ∧ i = .int .i64 k ∧ s = .int .i64 (sqS (l.take k))) (fun _ i => n - (intOf i).toNat)
  case atStart => exact ⟨0, Nat.zero_le _, rfl, rfl⟩
  case round =>
    obtain ⟨k, hk, rfl, rfl⟩ := hrel
    by_cases hlt : k < n
    · have hkI : (k : Int) < (n : Int) := by omega
      obtain ⟨ad, ha, _, hc⟩ := HR.out.2 (by omega)
      subst ha
      have hck := hc k hlt
      have hln := HR.out.1
      have hx1 := getD_small HL.out (k := k) (by omega)
      have HS := Lib.hid (sqS_snoc (l.take k) (l.getD k 0))
      rw [← take_snoc (by omega)] at HS
      have hb := sqS_bd (l.take k) (fun x hx => HL.out x (List.mem_of_mem_take hx))
      rw [List.length_take] at hb
      obtain ⟨x, hx⟩ : ∃ x, l.getD k 0 = x := ⟨_, rfl⟩
      obtain ⟨s, hs⟩ : ∃ s, sqS (l.take k) = s := ⟨_, rfl⟩
      rw [hx] at hck hx1 HS
      rw [hs] at HS hb ⊢
      have hq := sq_bd hx1
      obtain ⟨q, hq'⟩ : ∃ q, x * x = q := ⟨_, rfl⟩
      have w1 : IntKind.i64.wrap (x * x) = q := by rw [← hq']; exact IntWalk.i64_in _ (by omega)
      rw [hq'] at hq HS
      have w2 : IntKind.i64.wrap (s + q) = s + q := IntWalk.i64_in _ (by omega)
      clear hc hx hs hq' hln
      go_wp2
      go_round
      case rel => exact ⟨k + 1, by omega, by go_num, by rw [HS.out]⟩
      case measure => simp [intOf]; omega
    · obtain rfl : n = k := by omega
      have he : l.take n = l := List.take_of_length_le (by have := HR.out.1; omega)
      rw [he]
      go_wp2
      go_ret
      exact ⟨rfl, rfl⟩

/-- How many blocks there are. -/
def kN (n L H : Nat) : Nat := if L ≤ n then (n - L) / H + 1 else 0
theorem kN_lt {n L H k : Nat} (hH : 0 < H) : k < kN n L H ↔ k * H + L ≤ n := by
  unfold kN
  split
  · rename_i h
    rw [Nat.lt_succ_iff, Nat.le_div_iff_mul_le hH]
    omega
  · omega
theorem kN_le {n L H : Nat} (hL : 0 < L) (hH : 0 < H) : kN n L H ≤ n := by
  rcases Nat.eq_zero_or_pos (kN n L H) with h | h
  · omega
  · have h1 := (kN_lt (n := n) (L := L) (k := kN n L H - 1) hH).1 (by omega)
    have h2 : kN n L H - 1 ≤ (kN n L H - 1) * H := Nat.le_mul_of_pos_right _ hH
    omega
def enA (xs : List Int) (L H k : Nat) : Int := sqS ((xs.drop (k * H)).take L)
def esL (xs : List Int) (L H : Nat) : List Int := (List.range (kN xs.length L H)).map (enA xs L H)
theorem esL_len (xs : List Int) (L H : Nat) : (esL xs L H).length = kN xs.length L H := by simp [esL]
theorem esL_take (xs : List Int) (L H k : Nat) (h : k < kN xs.length L H) : (esL xs L H).take (k + 1) = (esL xs L H).take k ++ [enA xs L H k] := by
  rw [List.take_succ_eq_append_getElem (by rw [esL_len]; exact h)]
  simp [esL]
theorem enA_bd {xs : List Int} (h : small xs) {L H k : Nat} (hL : L ≤ 50) : 0 ≤ enA xs L H k ∧ enA xs L H k ≤ 53683814450 := by
  have h1 := sqS_bd ((xs.drop (k * H)).take L) (fun x hx => h x (List.mem_of_mem_drop (List.mem_of_mem_take hx)))
  rw [List.length_take] at h1
  unfold enA
  omega
theorem esL_bd {xs : List Int} (h : small xs) {L H : Nat} (hL : L ≤ 50) : ∀ x ∈ esL xs L H, 0 ≤ x ∧ x ≤ 53683814450 := by
  intro x hx
  unfold esL at hx
  obtain ⟨k, _, rfl⟩ := List.mem_map.1 hx
  exact enA_bd h hL

end Go.Proofs.Ytccoflhoggpgoaa


namespace Go.Proofs.Ytccoflhoggpgoaa
open Go.RowKit

set_option maxRecDepth 100000 in
set_option maxHeartbeats 4000000 in
theorem energies_any (L H : Nat) (G P : Int) (B : Option Addr) (n c : Nat) (xs : List Int) (w : World) (hr : RdI w B n xs) (hn : n ≤ 200) (hnc : n ≤ c) (hL : 0 < L ∧ L ≤ 50) (hH : 0 < H ∧ H ≤ 50) (hs : small xs) :
    Calls Try.prog 95 #[.agg #[.int .i64 L, .int .i64 H, .int .i64 G, .int .i64 P], .slice B n c] w (OwnS w (esL xs L H)) := by
  obtain ⟨i0, hi0, hza, hzb, hzc⟩ := info_parts intInfo'
  have HR := Lib.hid hr
  have hln := hr.1
  have HK : Hid (∀ k, k < (esL xs L H).length ↔ k * H + L ≤ n) := fun k => by rw [esL_len, kN_lt hH.1, hln]
  have HKL : Hid ((esL xs L H).length ≤ n) := by show _ ≤ _; rw [esL_len, ← hln]; exact kN_le hL.1 hH.1
  have HST : Hid (∀ k, k < (esL xs L H).length → (esL xs L H).take (k + 1) = (esL xs L H).take k ++ [enA xs L H k]) := fun k hk => esL_take xs L H k (by rwa [esL_len] at hk)
  have CE : Hid (∀ k, k < (esL xs L H).length → ∀ d W, Below w.heap.size w W → Calls Try.prog 129 #[.slice (cutA B (k * H) c) L d] W fun e w' => e = .returned (.int .i64 (enA xs L H k)) ∧ W = w') := fun k hk d W hb =>
    energy_any _ L d _ W ((hr.below hb).cut (k * H) c L (by have := (HK.out k).1 hk; omega) hnc) hL.2 (fun x hx => hs x (List.mem_of_mem_drop (List.mem_of_mem_take hx)))
  have HEB : Hid (∀ k, 0 ≤ enA xs L H k ∧ enA xs L H k ≤ 53683814450) := fun k => enA_bd hs hL.2
  obtain ⟨es, hes⟩ : ∃ es, esL xs L H = es := ⟨_, rfl⟩
  rw [hes] at HK HKL HST CE ⊢
  clear hes hs hr
  have R0 := Lib.hid (OneB.start w 42 #[.int .i64 L, .int .i64 H, .int .i64 G, .int .i64 P])
  go_enter Try.func95, Try.ntmps95
  go_wp2
  obtain ⟨WB, hWB⟩ : ∃ WB, w.alloc (.cells #[.int .i64 L, .int .i64 H, .int .i64 G, .int .i64 P] 42) = WB := ⟨_, rfl⟩
  rw [hWB] at R0 ⊢
  clear hWB
  go_loopw [5, 6] (fun p i wr => ∃ k s : Nat, k ≤ es.length ∧ Hid (s = k * H) ∧ i = .int .i64 s ∧ s ≤ 10000 ∧ Hid (wr.ownsRow WB.heap.size 3 1 p k ((es.take k).map (Value.int .i64))) ∧ Hid (Below WB.heap.size WB wr)) (fun _ i _ => n + 1 - (intOf i).toNat)
  case atStart => exact ⟨0, 0, Nat.zero_le _, by show _ = _; omega, rfl, by omega, Lib.hid (World.ownsRow_nil _ _ _ _), Lib.hid (Below.refl _ _)⟩
  case round =>
    obtain ⟨k, s, hk, HS, rfl, hs4, HI, HB⟩ := hrel
    have HM := Lib.hid (R0.out.k.later HB.out)
    have HW := Lib.hid (R0.out.b.trans (HB.out.mono R0.out.b.size))
    obtain ⟨A2, cap2, hp, _, _⟩ := rd_of_own HI.out
    subst hp
    obtain ⟨m0, m1, m2, m3, _⟩ := bk4 HM.out
    have hkl := HKL.out
    have w1 : IntKind.i64.wrap ((s : Int) + L) = ((s + L : Nat) : Int) := by rw [show (s : Int) + L = ((s + L : Nat) : Int) by omega]; exact IntWalk.i64_in _ (by omega)
    have w2 : IntKind.i64.wrap ((s : Int) + H) = ((s + H : Nat) : Int) := by rw [show (s : Int) + H = ((s + H : Nat) : Int) by omega]; exact IntWalk.i64_in _ (by omega)
    by_cases hlt : k < es.length
    · have hc := (HK.out k).1 hlt
      rw [← HS.out] at hc
      have hcI : ((s + L : Nat) : Int) ≤ (n : Int) := by omega
      have HSN := Lib.hid (HST.out k hlt)
      have CK := Lib.hid (CE.out k hlt)
      rw [← HS.out] at CK
      have hbk := HEB.out k
      obtain ⟨z, hz⟩ : ∃ z, enA xs L H k = z := ⟨_, rfl⟩
      rw [hz] at HSN CK hbk
      clear hz
      have hcut := fun W => cut_run B n c s (s + L) L (c - s) s ((s + L : Nat) : Int) rfl rfl (by omega) (by omega) (by omega) rfl W
      obtain ⟨sL, hsL⟩ : ∃ t : Nat, s + L = t := ⟨_, rfl⟩
      rw [hsL] at w1 hc hcI hcut
      obtain ⟨sH, hsH⟩ : ∃ t : Nat, s + H = t := ⟨_, rfl⟩
      rw [hsH] at w2
      have HSH := Lib.hid hsH
      have hsH4 : sH ≤ 10000 := by omega
      have hsHs : s < sH := by omega
      have hsn : s ≤ n := by omega
      clear hsL hsH
      go_wp2_with fail
      refine (CK.out _ _ HW.out).mono ?_
      rintro e w' ⟨rfl, rfl⟩
      go_wp2_with (at_builtin; refine wpList_append_own _ rfl (.tmp 18) (.tmp 27) 43 rfl WB.heap.size 3 i0 _ 1 8 Try.underlying43 hi0 hza hzb hzc rfl (by decide) _ _ _ rfl (HI.out.alloc _) ⟨wr.heap.size, 0, none⟩ 1 1 [.int .i64 (z)] rfl rfl (cell_one_new _ _ _) (by simp [Value.oneCell']) (by simp only [maxLen]; omega) (by omega) (by have := HB.out.size; simp; omega) ?_)
      intro v w4 hown' hgrow _
      have HB4 : Hid (Below WB.heap.size WB w4) := ((HB.out).alloc (HB.out).size (.cells #[.int .i64 (z)] 3)).grown hgrow (by have := HB.out.size; simp; omega) (fun z e => ((HI.out.alloc (.cells #[.int .i64 (z)] 3)).lt z e).1)
      clear hgrow
      have HO4 : Hid (w4.ownsRow WB.heap.size 3 1 v (k + 1) ((es.take (k + 1)).map (Value.int .i64))) := by
        show World.ownsRow _ _ _ _ _ _ _
        rw [HSN.out, List.map_append, List.map_take]
        exact hown'
      obtain ⟨n0, n1, n2, n3, _⟩ := bk4 (R0.out.k.later HB4.out)
      clear hown'
      go_wp2
      go_roundw
      case rel => exact ⟨k + 1, sH, by omega, by show _ = _; rw [← HSH.out, HS.out, Nat.succ_mul], by first | rfl | go_num, by omega, HO4, HB4⟩
      case measure => simp only [intOf]; omega
    · have hc : ¬ k * H + L ≤ n := fun h => hlt ((HK.out k).2 h)
      rw [← HS.out] at hc
      have hcI : ¬ ((s + L : Nat) : Int) ≤ (n : Int) := by omega
      obtain rfl : k = es.length := by omega
      go_wp2
      go_ret
      refine ⟨⟨_, rfl, ?_⟩, HW.out⟩
      have h := HI.out
      rw [List.take_of_length_le (Nat.le_refl _)] at h
      exact ownMono h R0.out.b.size

end Go.Proofs.Ytccoflhoggpgoaa


namespace Go.Proofs.Ytccoflhoggpgoaa
open Go.RowKit

/-- The energies that pass, how many they are, and their sum. -/
def gp (T : Int) (es : List Int) : List Int := es.filter fun e => decide (T ≤ e)
def cnN (T : Int) (es : List Int) : Int := ((gp T es).length : Int)
def cnS (T : Int) (es : List Int) : Int := (gp T es).sum
/-- Whether a block counts. -/
def gkB (T P : Int) (es : List Int) (i : Nat) : Bool := decide (T ≤ es.getD i 0) && decide (P * cnS T es ≤ es.getD i 0 * 100 * cnN T es)
def ctN (T P : Int) (es : List Int) (k : Nat) : List Nat := (List.range k).filter (gkB T P es)
def ctK (T P : Int) (es : List Int) (k : Nat) : List Int := (ctN T P es k).map fun (i : Nat) => (i : Int)
def ctL (T P : Int) (es : List Int) : List Int := ctK T P es es.length
theorem cnN_snoc (T : Int) (l : List Int) (x : Int) : cnN T (l ++ [x]) = if T ≤ x then cnN T l + 1 else cnN T l := by
  unfold cnN gp
  rw [List.filter_append]
  by_cases h : T ≤ x <;> simp [h]
theorem cnS_snoc (T : Int) (l : List Int) (x : Int) : cnS T (l ++ [x]) = if T ≤ x then cnS T l + x else cnS T l := by
  unfold cnS gp
  rw [List.filter_append]
  by_cases h : T ≤ x <;> simp [h, List.sum_append]
theorem ctK_step (T P : Int) (es : List Int) (k : Nat) : ctK T P es (k + 1) = if gkB T P es k = true then ctK T P es k ++ [(k : Int)] else ctK T P es k := by
  unfold ctK ctN
  rw [List.range_succ, List.filter_append]
  by_cases h : gkB T P es k = true <;> simp [h]
theorem ctK_len (T P : Int) (es : List Int) (k : Nat) : (ctK T P es k).length ≤ k := by
  unfold ctK ctN
  have := List.length_filter_le (gkB T P es) (List.range k)
  simpa using this
theorem sum_bd (B : Int) (hB : 0 ≤ B) : ∀ l : List Int, (∀ x ∈ l, 0 ≤ x ∧ x ≤ B) → 0 ≤ l.sum ∧ l.sum ≤ B * l.length
  | [], _ => by simp
  | x :: l, h => by
    have h1 := sum_bd B hB l (fun y hy => h y (List.mem_cons_of_mem _ hy))
    have h2 := h x (List.mem_cons_self)
    rw [List.sum_cons, List.length_cons]
    have e : B * ((l.length + 1 : Nat) : Int) = B * l.length + B := by rw [Int.natCast_add, Int.mul_add]; simp
    rw [e]
    omega
def enOk (es : List Int) : Prop := es.length ≤ 200 ∧ ∀ x ∈ es, 0 ≤ x ∧ x ≤ 53683814450
theorem cn_bd {es : List Int} (h : enOk es) (T : Int) : (0 ≤ cnN T es ∧ cnN T es ≤ 200) ∧ 0 ≤ cnS T es ∧ cnS T es ≤ 10736762890000 := by
  have h1 : (gp T es).length ≤ es.length := List.length_filter_le _ _
  have h2 := sum_bd 53683814450 (by omega) (gp T es) (fun x hx => h.2 x (List.mem_filter.1 hx).1)
  have h3 := h.1
  have h4 : (53683814450 : Int) * (gp T es).length ≤ 53683814450 * 200 := Int.mul_le_mul_of_nonneg_left (by omega) (by omega)
  unfold cnN cnS
  omega
theorem enOk.take {es : List Int} (h : enOk es) (k : Nat) : enOk (es.take k) := ⟨by rw [List.length_take]; have := h.1; omega, fun x hx => h.2 x (List.mem_of_mem_take hx)⟩
theorem enOk.at {es : List Int} (h : enOk es) {k : Nat} (hk : k < es.length) : 0 ≤ es.getD k 0 ∧ es.getD k 0 ≤ 53683814450 := by
  rw [List.getD_eq_getElem?_getD, List.getElem?_eq_getElem hk, Option.getD_some]
  exact h.2 _ (List.getElem_mem _)

set_option maxHeartbeats 1000000 in
theorem passes_any (e : Int) (g : Nat) (L H G P : Int) (w : World) (hk : Bk w g 42 #[.int .i64 L, .int .i64 H, .int .i64 G, .int .i64 P]) (hL : 0 ≤ L ∧ L ≤ 50) (hG : 0 ≤ G ∧ G ≤ 1073676289) :
    Calls Try.prog 128 #[.int .i64 e, .pointer (some ⟨g, 0, none⟩)] w fun r w' => r = .returned (.bool (decide (G * L ≤ e))) ∧ w = w' := by
  obtain ⟨m0, m1, m2, m3, _⟩ := bk4 hk
  have hb := mulB (a := G) (b := L) 1073676289 50 (by omega) (by omega) (by omega) (by omega) 53683814450 (by omega)
  obtain ⟨T, hT⟩ : ∃ T, G * L = T := ⟨_, rfl⟩
  have w1 : IntKind.i64.wrap (G * L) = T := by rw [← hT]; exact IntWalk.i64_in _ (by omega)
  rw [hT]
  clear hk hT
  go_enter Try.func128, Try.ntmps128
  go_wp2
  go_ret
  exact ⟨rfl, rfl⟩

set_option maxRecDepth 100000 in
set_option maxHeartbeats 4000000 in
theorem counting_any (L H G P : Int) (A : Option Addr) (n c : Nat) (es : List Int) (w : World) (hr : RdI w A n es) (hn : n ≤ 200) (hes : enOk es) (hL : 0 ≤ L ∧ L ≤ 50) (hG : 0 ≤ G ∧ G ≤ 1073676289) (hP : 0 ≤ P ∧ P ≤ 100) :
    Calls Try.prog 94 #[.agg #[.int .i64 L, .int .i64 H, .int .i64 G, .int .i64 P], .slice A n c] w (OwnS w (ctL (G * L) P es)) := by
  obtain ⟨i0, hi0, hza, hzb, hzc⟩ := info_parts intInfo'
  have HLN : Hid (es.length = n) := hr.1
  have HES := Lib.hid hes
  have HFN : Hid (cnN (G * L) (es.take n) = cnN (G * L) es ∧ cnS (G * L) (es.take n) = cnS (G * L) es) := by rw [List.take_of_length_le (by rw [hr.1]; exact Nat.le_refl _)]; exact ⟨rfl, rfl⟩
  have HCL : Hid (ctL (G * L) P es = ctK (G * L) P es n) := by show _ = _; unfold ctL; rw [hr.1]
  have CP : Hid (∀ e W, Bk W w.heap.size 42 #[.int .i64 L, .int .i64 H, .int .i64 G, .int .i64 P] → Calls Try.prog 128 #[.int .i64 e, .pointer (some ⟨w.heap.size, 0, none⟩)] W fun r w' => r = .returned (.bool (decide (G * L ≤ e))) ∧ W = w') := fun e W hk => passes_any e w.heap.size L H G P W hk hL hG
  have R0 := Lib.hid (OneB.start w 42 #[.int .i64 L, .int .i64 H, .int .i64 G, .int .i64 P])
  have HR := Lib.hid (hr.below R0.out.b)
  have HGK : Hid (∀ k, gkB (G * L) P es k = (decide (G * L ≤ es.getD k 0) && decide (P * cnS (G * L) es ≤ es.getD k 0 * 100 * cnN (G * L) es))) := fun k => rfl
  obtain ⟨T, hT⟩ : ∃ T, G * L = T := ⟨_, rfl⟩
  rw [hT] at HFN HCL CP HGK ⊢
  clear hT hr hes
  obtain ⟨V, hV⟩ : ∃ V, ctL T P es = V := ⟨_, rfl⟩
  rw [hV] at HCL ⊢
  clear hV
  go_enter Try.func94, Try.ntmps94
  go_wp2
  obtain ⟨WB, hWB⟩ : ∃ WB, w.alloc (.cells #[.int .i64 L, .int .i64 H, .int .i64 G, .int .i64 P] 42) = WB := ⟨_, rfl⟩
  rw [hWB] at R0 HR ⊢
  clear hWB
  go_loop [6, 7, 16] (fun a b i => ∃ k : Nat, k ≤ n ∧ i = .int .i64 k ∧ a = .int .i64 (cnN T (es.take k)) ∧ b = .int .i64 (cnS T (es.take k))) (fun _ _ i => n - (intOf i).toNat)
  case atStart => exact ⟨0, Nat.zero_le _, rfl, rfl, rfl⟩
  case round =>
    obtain ⟨k, hk, rfl, rfl, rfl⟩ := hrel
    by_cases hlt : k < n
    · have hkI : (k : Int) < (n : Int) := by omega
      obtain ⟨ad, ha, _, hc⟩ := HR.out.2 (by omega)
      subst ha
      have hck := hc k hlt
      obtain ⟨⟨hb1, hb2⟩, hb3, hb4⟩ := cn_bd (HES.out.take k) T
      obtain ⟨hx1, hx2⟩ := HES.out.at (k := k) (by have := HLN.out; omega)
      have H1 := Lib.hid (cnN_snoc T (es.take k) (es.getD k 0))
      have H2 := Lib.hid (cnS_snoc T (es.take k) (es.getD k 0))
      rw [← take_snoc (by have := HLN.out; omega)] at H1 H2
      obtain ⟨x, hx⟩ : ∃ x, es.getD k 0 = x := ⟨_, rfl⟩
      obtain ⟨a, ha⟩ : ∃ x, cnN T (es.take k) = x := ⟨_, rfl⟩
      obtain ⟨b, hb⟩ : ∃ x, cnS T (es.take k) = x := ⟨_, rfl⟩
      rw [hx] at hck hx1 hx2 H1 H2
      rw [ha] at hb1 hb2 H1 ⊢
      rw [hb] at hb3 hb4 H2 ⊢
      have CX := Lib.hid (CP.out x WB R0.out.k)
      have w1 : IntKind.i64.wrap (a + 1) = a + 1 := IntWalk.i64_in _ (by omega)
      have w2 : IntKind.i64.wrap (b + x) = b + x := IntWalk.i64_in _ (by omega)
      clear hc hx ha hb
      by_cases hp : T ≤ x
      · rw [decide_eq_true hp] at CX
        rw [if_pos hp] at H1 H2
        clear hp
        go_wp2_with (go_at_call 128; refine CX.out.mono ?_; rintro e w' ⟨rfl, rfl⟩)
        go_round
        case rel => exact ⟨k + 1, by omega, by go_num, by rw [H1.out], by rw [H2.out]⟩
        case measure => simp [intOf]; omega
      · rw [decide_eq_false hp] at CX
        rw [if_neg hp] at H1 H2
        clear hp
        go_wp2_with (go_at_call 128; refine CX.out.mono ?_; rintro e w' ⟨rfl, rfl⟩)
        go_round
        case rel => exact ⟨k + 1, by omega, by go_num, by rw [H1.out], by rw [H2.out]⟩
        case measure => simp [intOf]; omega
    · obtain rfl : n = k := by omega
      have hkI : ¬ (n : Int) < (n : Int) := by omega
      rw [HFN.out.1, HFN.out.2]
      obtain ⟨⟨hb1, hb2⟩, hb3, hb4⟩ := cn_bd HES.out T
      obtain ⟨a, ha⟩ : ∃ x, cnN T es = x := ⟨_, rfl⟩
      obtain ⟨b, hb⟩ : ∃ x, cnS T es = x := ⟨_, rfl⟩
      rw [ha] at hb1 hb2 HGK ⊢
      rw [hb] at hb3 hb4 HGK ⊢
      have hm1 := mulB (a := P) (b := b) 100 10736762890000 (by omega) (by omega) (by omega) (by omega) 1073676289000000 (by omega)
      clear ha hb
      obtain ⟨pb, hpb⟩ : ∃ x, P * b = x := ⟨_, rfl⟩
      have w1 : IntKind.i64.wrap (P * b) = pb := by rw [← hpb]; exact IntWalk.i64_in _ (by omega)
      rw [hpb] at hm1 HGK
      clear hpb
      go_wp2
      go_loopw [10, 31] (fun p i wr => ∃ k q : Nat, k ≤ n ∧ i = .int .i64 k ∧ q ≤ k ∧ Hid ((ctK T P es k).length = q) ∧ Hid (wr.ownsRow WB.heap.size 3 1 p q ((ctK T P es k).map (Value.int .i64))) ∧ Hid (Below WB.heap.size WB wr)) (fun _ i _ => n - (intOf i).toNat)
      case atStart => exact ⟨0, 0, Nat.zero_le _, rfl, Nat.le_refl _, rfl, Lib.hid (World.ownsRow_nil _ _ _ _), Lib.hid (Below.refl _ _)⟩
      case round =>
        obtain ⟨k, q, hk, rfl, hqk, HQ, HI, HB⟩ := hrel
        obtain ⟨A2, cap2, hp2, _, _⟩ := rd_of_own HI.out
        subst hp2
        have HW := Lib.hid (R0.out.b.trans (HB.out.mono R0.out.b.size))
        by_cases hlt : k < n
        · have hkI : (k : Int) < (n : Int) := by omega
          obtain ⟨ad, ha, _, hc⟩ := (HR.out.below HB.out).2 (by omega)
          subst ha
          have hck := hc k hlt
          obtain ⟨hx1, hx2⟩ := HES.out.at (k := k) (by have := HLN.out; omega)
          have HG := Lib.hid (HGK.out k)
          have HST := Lib.hid (ctK_step T P es k)
          obtain ⟨x, hx⟩ : ∃ x, es.getD k 0 = x := ⟨_, rfl⟩
          rw [hx] at hck hx1 hx2 HG
          have CX := Lib.hid (CP.out x wr (R0.out.k.later HB.out))
          obtain ⟨m0, m1, m2, m3, _⟩ := bk4 (R0.out.k.later HB.out)
          have w2 : IntKind.i64.wrap (x * 100) = x * 100 := IntWalk.i64_in _ (by omega)
          have hm2 := mulB (a := x * 100) (b := a) 5368381445000 200 (by omega) (by omega) (by omega) (by omega) 1073676289000000 (by omega)
          obtain ⟨xa, hxa⟩ : ∃ z, x * 100 * a = z := ⟨_, rfl⟩
          have w3 : IntKind.i64.wrap (x * 100 * a) = xa := by rw [← hxa]; exact IntWalk.i64_in _ (by omega)
          rw [hxa] at hm2 HG
          clear hc hx hxa
          obtain ⟨gb, hgb⟩ : ∃ z, gkB T P es k = z := ⟨_, rfl⟩
          rw [hgb] at HG HST
          clear hgb
          by_cases hp : T ≤ x
          · rw [decide_eq_true hp] at CX HG
            by_cases hq : pb ≤ xa
            · have hqb : decide (pb ≤ xa) = true := decide_eq_true hq
              rw [hqb] at HG
              have hst := HST.out
              rw [show gb = true from HG.out, if_pos rfl] at hst
              have HSN := Lib.hid hst
              clear hst HST HG hp
              go_wp2_with fail
              refine CX.out.mono ?_
              rintro e w' ⟨rfl, rfl⟩
              go_wp2_with (at_builtin; refine wpList_append_own _ rfl (.tmp 50) (.tmp 52) 43 rfl WB.heap.size 3 i0 _ 1 8 Try.underlying43 hi0 hza hzb hzc rfl (by decide) _ _ _ rfl (HI.out.alloc _) ⟨wr.heap.size, 0, none⟩ 1 1 [.int .i64 ((k : Int))] rfl rfl (cell_one_new _ _ _) (by simp [Value.oneCell']) (by simp only [maxLen]; omega) (by omega) (by have := HB.out.size; simp; omega) ?_)
              intro v w4 hown' hgrow _
              have HB4 : Hid (Below WB.heap.size WB w4) := ((HB.out).alloc (HB.out).size (.cells #[.int .i64 ((k : Int))] 3)).grown hgrow (by have := HB.out.size; simp; omega) (fun z e => ((HI.out.alloc (.cells #[.int .i64 ((k : Int))] 3)).lt z e).1)
              clear hgrow
              have HO4 : Hid (w4.ownsRow WB.heap.size 3 1 v (q + 1) ((ctK T P es (k + 1)).map (Value.int .i64))) := by
                show World.ownsRow _ _ _ _ _ _ _
                rw [HSN.out, List.map_append]
                exact hown'
              clear hown'
              go_wp2
              go_roundw
              case rel => exact ⟨k + 1, q + 1, by omega, by go_num, by omega, by show _ = _; rw [HSN.out, List.length_append, HQ.out]; rfl, HO4, HB4⟩
              case measure => simp [intOf]; omega
            · have hqb : decide (pb ≤ xa) = false := decide_eq_false hq
              rw [hqb] at HG
              have hst := HST.out
              rw [show gb = false from HG.out, if_neg (by simp)] at hst
              have HSN := Lib.hid hst
              clear hst HST HG hp
              go_wp2_with (go_at_call 128; refine CX.out.mono ?_; rintro e w' ⟨rfl, rfl⟩)
              go_roundw
              case rel => exact ⟨k + 1, q, by omega, by go_num, by omega, by show _ = _; rw [HSN.out]; exact HQ.out, by show World.ownsRow _ _ _ _ _ _ _; rw [HSN.out]; exact HI.out, HB⟩
              case measure => simp [intOf]; omega
          · rw [decide_eq_false hp] at CX HG
            have hst := HST.out
            rw [show gb = false from HG.out, if_neg (by simp)] at hst
            have HSN := Lib.hid hst
            clear hst HST HG hp
            go_wp2_with (go_at_call 128; refine CX.out.mono ?_; rintro e w' ⟨rfl, rfl⟩)
            go_roundw
            case rel => exact ⟨k + 1, q, by omega, by go_num, by omega, by show _ = _; rw [HSN.out]; exact HQ.out, by show World.ownsRow _ _ _ _ _ _ _; rw [HSN.out]; exact HI.out, HB⟩
            case measure => simp [intOf]; omega
        · obtain rfl : n = k := by omega
          have hkI : ¬ (n : Int) < (n : Int) := by omega
          go_wp2
          go_ret
          refine ⟨⟨_, rfl, ?_⟩, HW.out⟩
          have h := HI.out
          rw [← HCL.out] at h
          have hl : V.length = q := by rw [HCL.out]; exact HQ.out
          rw [hl]
          exact ownMono h R0.out.b.size

end Go.Proofs.Ytccoflhoggpgoaa


namespace Go.Proofs.Ytccoflhoggpgoaa
open Go.RowKit

/-- The error of a signal. -/
def sgE (xs : List Int) : Int := firstNZ [if 200 < xs.length then 8 else 0, rngE (-32767) 32767 xs]
theorem fromB_all {lo hi : Int} {xs : List Int} (h : fromB lo hi xs = true) : ∀ x ∈ xs, lo ≤ x ∧ x ≤ hi := by
  intro x hx
  unfold fromB at h
  have := List.all_eq_true.1 h x hx
  simpa using this
theorem sgE_zero {xs : List Int} (h : sgE xs = 0) : xs.length ≤ 200 ∧ small xs := by
  have h1 := firstNZ_zero h (if 200 < xs.length then 8 else 0) (by simp)
  have h2 := firstNZ_zero h (rngE (-32767) 32767 xs) (by simp)
  refine ⟨?_, fromB_all ?_⟩
  · by_cases h5 : 200 < xs.length
    · rw [if_pos h5] at h1; cases h1
    · omega
  · unfold rngE at h2
    by_cases h5 : fromB (-32767) 32767 xs = true
    · exact h5
    · rw [if_neg h5] at h2; cases h2
theorem checkSignal_any (A : Option Addr) (n c : Nat) (xs : List Int) (w : World) (hr : RdI w A n xs) (hn : n ≤ 9223372036854775806) :
    Calls Try.prog 93 #[.slice A n c] w fun e w' => e = .returned (.int .i64 (sgE xs)) ∧ Below w.heap.size w w' := by
  have HE : Hid (sgE xs = firstNZ [if 200 < n then 8 else 0, rngE (-32767) 32767 xs]) := by show _ = _; unfold sgE; rw [hr.1]
  have C2 : Hid (∀ o p, Calls Try.prog 107 #[.slice A n c, .func (.func 125) #[] #[.pointer (some ⟨w.heap.size, 0, none⟩), .pointer (some ⟨w.heap.size + 1, 0, none⟩)]] ((w.alloc (.cells #[.int .i64 (-32767)] o)).alloc (.cells #[.int .i64 32767] p)) fun e w' => e = .returned (.int .i64 (rngE (-32767) 32767 xs)) ∧ ((w.alloc (.cells #[.int .i64 (-32767)] o)).alloc (.cells #[.int .i64 32767] p)) = w') := by
    intro o p
    exact checkEach_any A n c xs (-32767) 32767 _ _ _ (hr.below (below2 _ _ _)) hn (by simp [go_sem]) (by simp [go_sem])
  obtain ⟨E, hE⟩ : ∃ E, rngE (-32767) 32767 xs = E := ⟨_, rfl⟩
  obtain ⟨V, hV⟩ : ∃ E, sgE xs = E := ⟨_, rfl⟩
  rw [hE] at C2 HE
  rw [hV] at HE ⊢
  clear hE hr hV
  by_cases h1 : 200 < n
  · have h1I : (200 : Int) < (n : Int) := by omega
    obtain rfl : V = 8 := by rw [HE.out, if_pos h1, firstNZ2, if_neg (by omega)]
    go_enter Try.func93, Try.ntmps93
    go_wp2_with (first | (go_at_call 99; refine (when_any true 8 _).mono ?_; rintro e w' ⟨rfl, rfl⟩) | (go_at_call 86; refine (from_any _ _ _).mono ?_; rintro e w' ⟨rfl, rfl⟩) | (go_at_call 107; refine (C2.out _ _).mono ?_; rintro e w' ⟨rfl, rfl⟩) | (go_at_call 84; refine (firstError_any _ 2 2 [8, E] _ (lit2 _ _ _ _ ?_ ?_) (by omega)).mono ?_; (focus (simp [go_sem])); (focus (simp [go_sem])); rintro e w' ⟨rfl, rfl⟩))
    go_ret
    exact ⟨rfl, below3 _ _ _ _⟩
  · have h1I : ¬ (200 : Int) < (n : Int) := by omega
    obtain rfl : V = E := by rw [HE.out, if_neg h1, firstNZ2, if_pos rfl]
    go_enter Try.func93, Try.ntmps93
    go_wp2_with (first | (go_at_call 99; refine (when_any false 8 _).mono ?_; rintro e w' ⟨rfl, rfl⟩) | (go_at_call 86; refine (from_any _ _ _).mono ?_; rintro e w' ⟨rfl, rfl⟩) | (go_at_call 107; refine (C2.out _ _).mono ?_; rintro e w' ⟨rfl, rfl⟩) | (go_at_call 84; refine (firstError_any _ 2 2 [0, V] _ (lit2 _ _ _ _ ?_ ?_) (by omega)).mono ?_; (focus (simp [go_sem])); (focus (simp [go_sem])); rintro e w' ⟨rfl, rfl⟩))
    go_ret
    exact ⟨by rw [firstNZ2, if_pos rfl]; rfl, below3 _ _ _ _⟩

/-- The error of a meter. -/
def mtE (L H G P : Int) : Int := firstNZ [rngE 1 50 [L], rngE 1 L [H], rngE 0 1073676289 [G], rngE 0 100 [P]]
theorem mtE_zero {L H G P : Int} (h : mtE L H G P = 0) : (1 ≤ L ∧ L ≤ 50) ∧ (1 ≤ H ∧ H ≤ L) ∧ (0 ≤ G ∧ G ≤ 1073676289) ∧ 0 ≤ P ∧ P ≤ 100 :=
  ⟨rngE_zero (firstNZ_zero h (rngE 1 50 [L]) (by simp)), rngE_zero (firstNZ_zero h (rngE 1 L [H]) (by simp)), rngE_zero (firstNZ_zero h (rngE 0 1073676289 [G]) (by simp)), rngE_zero (firstNZ_zero h (rngE 0 100 [P]) (by simp))⟩
theorem four {W : World} {g : Nat} {t : TypeId} {a b c d : Value} (h : Bk W g t #[a, b, c, d]) : W.cell? ⟨g, 0, none⟩ = some a ∧ W.cell? ⟨g, 1, none⟩ = some b ∧ W.cell? ⟨g, 2, none⟩ = some c ∧ W.cell? ⟨g, 3, none⟩ = some d := by
  obtain ⟨a, b, c, d, _⟩ := bk4 h
  exact ⟨a, b, c, d⟩
set_option maxRecDepth 100000 in
set_option maxHeartbeats 4000000 in
theorem CheckMeter_any (L H G P : Int) (w : World) :
    Calls Try.prog 34 #[.agg #[.int .i64 L, .int .i64 H, .int .i64 G, .int .i64 P]] w fun e w' => e = .returned (.int .i64 (mtE L H G P)) ∧ Below w.heap.size w w' := by
  have HE : Hid (firstNZ [rngE 1 50 [L], rngE 1 L [H], rngE 0 1073676289 [G], rngE 0 100 [P]] = mtE L H G P) := rfl
  have R0 := OneB.start w 42 #[.int .i64 L, .int .i64 H, .int .i64 G, .int .i64 P]
  go_enter Try.func34, Try.ntmps34
  go_wp2
  go_region_held3 (fun w' : World => (w'.cell? ⟨w.heap.size, 0, none⟩ = some (.int .i64 L) ∧ w'.cell? ⟨w.heap.size, 1, none⟩ = some (.int .i64 H) ∧ w'.cell? ⟨w.heap.size, 2, none⟩ = some (.int .i64 G) ∧ w'.cell? ⟨w.heap.size, 3, none⟩ = some (.int .i64 P)) ∧ OneB w w.heap.size 42 #[.int .i64 L, .int .i64 H, .int .i64 G, .int .i64 P] w') ((refine (fun hI => ⟨four hI.k, hI⟩) ?_; repeat (first | assumption | (go_split_ands; assumption) | refine OneB.alloc ?_ _ | refine OneB.drew ?_))) (first
    | (go_at_call 86; ((with_reducible refine (from_any _ _ _).mono ?_)); rintro e w' ⟨rfl, rfl⟩)
    | (go_at_call 125; ((with_reducible refine (from1_any L 1 50 _ _ _ ?_ ?_).mono ?_)); (focus (simp [go_sem])); (focus (simp [go_sem])); rintro e w' ⟨rfl, rfl⟩)
    | (go_at_call 125; ((with_reducible refine (from1_any H 1 L _ _ _ ?_ ?_).mono ?_)); (focus (simp [go_sem])); (focus (simp [go_sem])); rintro e w' ⟨rfl, rfl⟩)
    | (go_at_call 125; ((with_reducible refine (from1_any G 0 1073676289 _ _ _ ?_ ?_).mono ?_)); (focus (simp [go_sem])); (focus (simp [go_sem])); rintro e w' ⟨rfl, rfl⟩)
    | (go_at_call 125; ((with_reducible refine (from1_any P 0 100 _ _ _ ?_ ?_).mono ?_)); (focus (simp [go_sem])); (focus (simp [go_sem])); rintro e w' ⟨rfl, rfl⟩)
    | (go_at_call 84; refine (firstError4 (E1 := rngE 1 50 [L]) (E2 := rngE 1 L [H]) (E3 := rngE 0 1073676289 [G]) (E4 := rngE 0 100 [P]) (F := mtE L H G P) HE.out _ _ ?_ ?_ ?_ ?_).mono ?_; (focus (simp [go_sem])); (focus (simp [go_sem])); (focus (simp [go_sem])); (focus (simp [go_sem])); rintro e w' ⟨rfl, rfl⟩))
  all_goals
    go_wp2
    go_ret
    refine ⟨rfl, ?_⟩
    go_grown

end Go.Proofs.Ytccoflhoggpgoaa


namespace Go.Proofs.Ytccoflhoggpgoaa
open Go.RowKit

/-- The error of a meter and a signal, and the blocks that count. -/
def gbE (L H G P : Int) (xs : List Int) : Int := firstNZ [mtE L H G P, sgE xs]
def gbL (L H G P : Int) (xs : List Int) : List Int := if gbE L H G P xs = 0 then ctL (G * L) P (esL xs L.toNat H.toNat) else []
theorem gbE_zero {L H G P : Int} {xs : List Int} (h : gbE L H G P xs = 0) : ((1 ≤ L ∧ L ≤ 50) ∧ (1 ≤ H ∧ H ≤ L) ∧ (0 ≤ G ∧ G ≤ 1073676289) ∧ 0 ≤ P ∧ P ≤ 100) ∧ xs.length ≤ 200 ∧ small xs :=
  ⟨mtE_zero (firstNZ_zero h (mtE L H G P) (by simp)), sgE_zero (firstNZ_zero h (sgE xs) (by simp))⟩
theorem esL_ok {xs : List Int} (h : xs.length ≤ 200 ∧ small xs) {L H : Nat} (hL : 1 ≤ L ∧ L ≤ 50) (hH : 1 ≤ H) : enOk (esL xs L H) :=
  ⟨by rw [esL_len]; have := kN_le (n := xs.length) (L := L) (H := H) (by omega) (by omega); omega, esL_bd h.2 hL.2⟩
theorem ctL_len (T P : Int) (es : List Int) : (ctL T P es).length ≤ es.length := ctK_len T P es es.length

set_option maxRecDepth 100000 in
set_option maxHeartbeats 4000000 in
theorem GatedBlocks_any (L H G P : Int) (B : Option Addr) (n c : Nat) (xs : List Int) (w : World) (hr : RdI w B n xs) (hn : n ≤ 1000000) (hnc : n ≤ c) :
    Calls Try.prog 30 #[.agg #[.int .i64 L, .int .i64 H, .int .i64 G, .int .i64 P], .slice B n c] w (OwnRes w (gbE L H G P xs) (gbL L H G P xs)) := by
  have HE : Hid (firstNZ [mtE L H G P, sgE xs] = gbE L H G P xs) := rfl
  have CM := Lib.hid (fun w => CheckMeter_any L H G P w)
  have CG : Hid (∀ W, Below w.heap.size w W → Calls Try.prog 93 #[.slice B n c] W fun e w' => e = .returned (.int .i64 (sgE xs)) ∧ Below W.heap.size W w') := fun W hb => checkSignal_any B n c xs W (hr.below hb) (by omega)
  have HR := Lib.hid hr
  have HOK : Hid (gbE L H G P xs = 0 → ∃ l h : Nat, L = l ∧ H = h ∧ ((1 ≤ l ∧ l ≤ 50) ∧ (1 ≤ h ∧ h ≤ 50) ∧ (0 ≤ G ∧ G ≤ 1073676289) ∧ 0 ≤ P ∧ P ≤ 100) ∧ (xs.length ≤ 200 ∧ small xs) ∧ gbL L H G P xs = ctL (G * l) P (esL xs l h)) := by
    intro he
    obtain ⟨h1, h2⟩ := gbE_zero he
    refine ⟨L.toNat, H.toNat, by omega, by omega, by omega, h2, ?_⟩
    unfold gbL
    rw [if_pos he, show ((L.toNat : Nat) : Int) = L by omega]
  have HNO : Hid (¬ gbE L H G P xs = 0 → gbL L H G P xs = []) := fun h => by unfold gbL; rw [if_neg h]
  obtain ⟨E, hE⟩ : ∃ E, gbE L H G P xs = E := ⟨_, rfl⟩
  rw [hE] at HE HOK HNO ⊢
  obtain ⟨V, hV⟩ : ∃ V, gbL L H G P xs = V := ⟨_, rfl⟩
  rw [hV] at HOK HNO ⊢
  obtain ⟨E1, hE1⟩ : ∃ E, mtE L H G P = E := ⟨_, rfl⟩
  obtain ⟨E2, hE2⟩ : ∃ E, sgE xs = E := ⟨_, rfl⟩
  rw [hE1] at HE CM
  rw [hE2] at HE CG
  clear hE hV hE1 hE2 hr
  have R0 := Lib.hid (OneB.start w 42 #[.int .i64 L, .int .i64 H, .int .i64 G, .int .i64 P])
  go_enter Try.func30, Try.ntmps30
  obtain ⟨c0, c1, c2, c3⟩ := four R0.out.k
  go_wp2_with fail
  refine (CM.out _).mono ?_
  rintro e w1 ⟨rfl, hb1⟩
  have R1 := Lib.hid (OneB.later hb1 R0.out)
  clear hb1 R0 c0 c1 c2 c3
  go_wp2_with fail
  refine (CG.out _ R1.out.b).mono ?_
  rintro e w2 ⟨rfl, hb2⟩
  have R2 := Lib.hid ((OneB.later hb2 R1.out).alloc (.cells #[.int .i64 E1, .int .i64 E2] 25))
  clear hb2 R1
  go_wp2_with fail
  refine (firstError2 (E1 := E1) (E2 := E2) (F := E) HE.out _ _ ?_ ?_).mono ?_
  · simp [go_sem]
  · simp [go_sem]
  rintro e w' ⟨rfl, rfl⟩
  obtain ⟨W3, hW3⟩ : ∃ W3, w2.alloc (.cells #[.int .i64 E1, .int .i64 E2] 25) = W3 := ⟨_, rfl⟩
  rw [hW3] at R2 ⊢
  clear hW3 HE CM CG
  by_cases h0 : E = 0
  · subst h0
    obtain ⟨l, h, rfl, rfl, hm, hx, hV⟩ := HOK.out rfl
    have HV := Lib.hid hV
    have hln := HR.out.1
    have CE : Hid (∀ W, Below w.heap.size w W → Calls Try.prog 95 #[.agg #[.int .i64 l, .int .i64 h, .int .i64 G, .int .i64 P], .slice B n c] W (OwnS W (esL xs l h))) := fun W hb => energies_any l h G P B n c xs W (HR.out.below hb) (by omega) hnc (by omega) (by omega) hx.2
    have HEO := Lib.hid (esL_ok hx (L := l) (H := h) hm.1 hm.2.1.1)
    have CC : Hid (∀ A' m' c' W, RdI W A' m' (esL xs l h) → Calls Try.prog 94 #[.agg #[.int .i64 l, .int .i64 h, .int .i64 G, .int .i64 P], .slice A' m' c'] W (OwnS W (ctL (G * l) P (esL xs l h)))) := fun A' m' c' W hr' => counting_any l h G P A' m' c' (esL xs l h) W hr' (by have := HEO.out.1; have := hr'.1; omega) HEO.out (by omega) hm.2.2.1 hm.2.2.2
    obtain ⟨es, hes⟩ : ∃ es, esL xs l h = es := ⟨_, rfl⟩
    rw [hes] at CE CC HV
    rw [← HV.out] at CC
    clear hes HEO hx hV HOK HNO hln HV
    have hI0 := R2.out
    clear R2
    go_wp2
    go_region_held3 (fun w' : World => (w'.cell? ⟨w.heap.size, 0, none⟩ = some (.int .i64 l) ∧ w'.cell? ⟨w.heap.size, 1, none⟩ = some (.int .i64 h) ∧ w'.cell? ⟨w.heap.size, 2, none⟩ = some (.int .i64 G) ∧ w'.cell? ⟨w.heap.size, 3, none⟩ = some (.int .i64 P)) ∧ OneB w w.heap.size 42 #[.int .i64 l, .int .i64 h, .int .i64 G, .int .i64 P] w') ((refine (fun hI => ⟨four hI.k, hI⟩) ?_; repeat (first | assumption | (go_split_ands; assumption) | refine OneB.alloc ?_ _ | refine OneB.drew ?_))) (first
      | (go_at_call 95; refine (CE.out _ ?_).mono ?_; (focus (go_split_ands; refine OneB.b (g := w.heap.size) (t := 42) (cs := #[.int .i64 l, .int .i64 h, .int .i64 G, .int .i64 P]) ?_; assumption)); rintro e w3 ⟨⟨v3, rfl, ho3⟩, hb3⟩; obtain ⟨A3, c3, rfl, hc3, hr3⟩ := rd_of_own ho3; have hI3 := OneB.later hb3 (by first | assumption | (go_split_ands; assumption)); clear hb3 ho3)
      | (go_at_call 94; refine (CC.out _ _ _ _ hr3).mono ?_; rintro e w4 ⟨⟨v4, rfl, ho4⟩, hb4⟩; have hI4 := OneB.later hb4 (by first | assumption | (go_split_ands; assumption)); have hs3 := hI3.b.size; clear hb4))
    go_wp2
    go_ret2
    exact ⟨⟨_, rfl, ownMono ho4 hs3⟩, hI4.b⟩
  · have h1 : (E == 0) = false := by rw [beq_eq_false_iff_ne]; exact h0
    have h2 : (E != 0) = true := by rw [bne_iff_ne]; exact h0
    have hV := HNO.out h0
    subst hV
    clear HOK HNO h0
    go_wp2
    go_ret2
    exact OwnRes.none_ R2.out.b

end Go.Proofs.Ytccoflhoggpgoaa


namespace Go.Proofs.Ytccoflhoggpgoaa
open Go.RowKit

/-- The sum of the energies of some blocks. -/
def lsS (es : List Int) (ids : List Nat) : Int := (ids.map fun i => es.getD i 0).sum
theorem lsS_snoc (es : List Int) (l : List Nat) (i : Nat) : lsS es (l ++ [i]) = lsS es l + es.getD i 0 := by simp [lsS, List.sum_append]
theorem ctN_lt {T P : Int} {es : List Int} {k : Nat} : ∀ i ∈ ctN T P es k, i < k := by
  intro i hi
  have := (List.mem_filter.1 hi).1
  simpa using this
theorem ctN_len (T P : Int) (es : List Int) (k : Nat) : (ctN T P es k).length ≤ k := by
  have := List.length_filter_le (gkB T P es) (List.range k)
  simpa [ctN] using this
theorem lsS_bd {es : List Int} (h : enOk es) : ∀ ids : List Nat, (∀ i ∈ ids, i < es.length) → 0 ≤ lsS es ids ∧ lsS es ids ≤ 53683814450 * ids.length
  | [], _ => by simp [lsS]
  | i :: l, hl => by
    have h1 := lsS_bd h l (fun y hy => hl y (List.mem_cons_of_mem _ hy))
    have h2 := h.at (hl i (List.mem_cons_self))
    have e : lsS es (i :: l) = es.getD i 0 + lsS es l := by simp [lsS]
    rw [e, List.length_cons]
    omega
/-- The loudness: the fraction and the error. -/
def loF (l : Int) (es : List Int) (ids : List Nat) : (Int × Int) × Int :=
  if ids.length = 0 then ((0, 0), 12) else ((fN (lsS es ids) (ids.length * l), fD (lsS es ids) (ids.length * l)), 0)
def loR (L H G P : Int) (xs : List Int) : (Int × Int) × Int :=
  if gbE L H G P xs = 0 then loF L (esL xs L.toNat H.toNat) (ctN (G * L) P (esL xs L.toNat H.toNat) (esL xs L.toNat H.toNat).length)
  else ((0, 0), gbE L H G P xs)
theorem nat_take_snoc {l : List Nat} {k : Nat} (h : k < l.length) : l.take (k + 1) = l.take k ++ [l.getD k 0] := by
  rw [List.take_succ_eq_append_getElem h]
  simp [List.getD_eq_getElem?_getD, List.getElem?_eq_getElem h]
theorem map_getD_cast (l : List Nat) (k : Nat) (h : k < l.length) : (l.map fun (i : Nat) => (i : Int)).getD k 0 = ((l.getD k 0 : Nat) : Int) := by
  simp [List.getD_eq_getElem?_getD, List.getElem?_eq_getElem h]
set_option maxRecDepth 100000 in
set_option maxHeartbeats 4000000 in
theorem LoudnessOf_any (L H G P : Int) (B : Option Addr) (n c : Nat) (xs : List Int) (w : World) (hr : RdI w B n xs) (hn : n ≤ 1000000) (hnc : n ≤ c) :
    Calls Try.prog 32 #[.agg #[.int .i64 L, .int .i64 H, .int .i64 G, .int .i64 P], .slice B n c] w fun e w' => e = .returned (.tuple #[.agg #[.int .i64 (loR L H G P xs).1.1, .int .i64 (loR L H G P xs).1.2], .int .i64 (loR L H G P xs).2]) ∧ Below w.heap.size w w' := by
  have HE : Hid (firstNZ [mtE L H G P, sgE xs] = gbE L H G P xs) := rfl
  have CM := Lib.hid (fun w => CheckMeter_any L H G P w)
  have CG : Hid (∀ W, Below w.heap.size w W → Calls Try.prog 93 #[.slice B n c] W fun e w' => e = .returned (.int .i64 (sgE xs)) ∧ Below W.heap.size W w') := fun W hb => checkSignal_any B n c xs W (hr.below hb) (by omega)
  have HR := Lib.hid hr
  have HOK : Hid (gbE L H G P xs = 0 → ∃ l h : Nat, L = l ∧ H = h ∧ ((1 ≤ l ∧ l ≤ 50) ∧ (1 ≤ h ∧ h ≤ 50) ∧ (0 ≤ G ∧ G ≤ 1073676289) ∧ 0 ≤ P ∧ P ≤ 100) ∧ (xs.length ≤ 200 ∧ small xs) ∧ loR L H G P xs = loF l (esL xs l h) (ctN (G * l) P (esL xs l h) (esL xs l h).length)) := by
    intro he
    obtain ⟨h1, h2⟩ := gbE_zero he
    refine ⟨L.toNat, H.toNat, by omega, by omega, by omega, h2, ?_⟩
    unfold loR
    rw [if_pos he, show ((L.toNat : Nat) : Int) = L by omega]
  have HNO : Hid (¬ gbE L H G P xs = 0 → loR L H G P xs = ((0, 0), gbE L H G P xs)) := fun h => by unfold loR; rw [if_neg h]
  obtain ⟨E, hE⟩ : ∃ E, gbE L H G P xs = E := ⟨_, rfl⟩
  rw [hE] at HE HOK HNO
  obtain ⟨⟨⟨N, D⟩, X⟩, hV⟩ : ∃ V, loR L H G P xs = V := ⟨_, rfl⟩
  rw [hV] at HOK HNO ⊢
  dsimp only
  obtain ⟨E1, hE1⟩ : ∃ E, mtE L H G P = E := ⟨_, rfl⟩
  obtain ⟨E2, hE2⟩ : ∃ E, sgE xs = E := ⟨_, rfl⟩
  rw [hE1] at HE CM
  rw [hE2] at HE CG
  clear hE hV hE1 hE2 hr
  have R0 := Lib.hid ((OneB.start w 42 #[.int .i64 L, .int .i64 H, .int .i64 G, .int .i64 P]).alloc (.cells #[.int .i64 0, .int .i64 0] 23))
  have K0 : Hid (Bk ((w.alloc (.cells #[.int .i64 L, .int .i64 H, .int .i64 G, .int .i64 P] 42)).alloc (.cells #[.int .i64 0, .int .i64 0] 23)) (w.heap.size + 1) 23 #[.int .i64 0, .int .i64 0]) := by
    have h := Bk.new (w.alloc (.cells #[.int .i64 L, .int .i64 H, .int .i64 G, .int .i64 P] 42)) 23 #[.int .i64 0, .int .i64 0]
    rwa [World.size_alloc] at h
  go_enter Try.func32, Try.ntmps32
  obtain ⟨c0, c1, c2, c3⟩ := four R0.out.k
  go_wp2_with fail
  refine (CM.out _).mono ?_
  rintro e w1 ⟨rfl, hb1⟩
  have R1 := Lib.hid (OneB.later hb1 R0.out)
  have K1 := Lib.hid (K0.out.later hb1)
  clear hb1 R0 K0 c0 c1 c2 c3
  go_wp2_with fail
  refine (CG.out _ R1.out.b).mono ?_
  rintro e w2 ⟨rfl, hb2⟩
  have R2 := Lib.hid ((OneB.later hb2 R1.out).alloc (.cells #[.int .i64 E1, .int .i64 E2] 25))
  have K2 := Lib.hid ((K1.out.later hb2).alloc (.cells #[.int .i64 E1, .int .i64 E2] 25))
  clear hb2 R1 K1
  go_wp2_with fail
  refine (firstError2 (E1 := E1) (E2 := E2) (F := E) HE.out _ _ ?_ ?_).mono ?_
  · simp [go_sem]
  · simp [go_sem]
  rintro e w' ⟨rfl, rfl⟩
  obtain ⟨W3, hW3⟩ : ∃ W3, w2.alloc (.cells #[.int .i64 E1, .int .i64 E2] 25) = W3 := ⟨_, rfl⟩
  rw [hW3] at R2 K2 ⊢
  clear hW3 HE CM CG
  by_cases h0 : E = 0
  · subst h0
    obtain ⟨l, h, rfl, rfl, hm, hx, hV⟩ := HOK.out rfl
    have HV := Lib.hid hV
    have hln := HR.out.1
    have CE := Lib.hid (energies_any l h G P B n c xs W3 (HR.out.below R2.out.b) (by omega) hnc (by omega) (by omega) hx.2)
    have HEO := Lib.hid (esL_ok hx (L := l) (H := h) hm.1 hm.2.1.1)
    have CC : Hid (∀ A' m' c' W, RdI W A' m' (esL xs l h) → Calls Try.prog 94 #[.agg #[.int .i64 l, .int .i64 h, .int .i64 G, .int .i64 P], .slice A' m' c'] W (OwnS W (ctL (G * l) P (esL xs l h)))) := fun A' m' c' W hr' => counting_any l h G P A' m' c' (esL xs l h) W hr' (by have := HEO.out.1; have := hr'.1; omega) HEO.out (by omega) hm.2.2.1 hm.2.2.2
    have HID : Hid (ctL (G * l) P (esL xs l h) = (ctN (G * l) P (esL xs l h) (esL xs l h).length).map fun (i : Nat) => (i : Int)) := rfl
    have HIL : Hid (∀ i ∈ ctN (G * l) P (esL xs l h) (esL xs l h).length, i < (esL xs l h).length) := ctN_lt
    have HLL : Hid ((ctN (G * l) P (esL xs l h) (esL xs l h).length).length ≤ 200) := Nat.le_trans (ctN_len _ _ _ _) HEO.out.1
    obtain ⟨ids, hids⟩ : ∃ x, ctN (G * l) P (esL xs l h) (esL xs l h).length = x := ⟨_, rfl⟩
    rw [hids] at HV HID HIL HLL
    obtain ⟨es, hes⟩ : ∃ es, esL xs l h = es := ⟨_, rfl⟩
    rw [hes] at CE CC HV HEO HID HIL
    rw [HID.out] at CC
    have HXS := Lib.hid (lsS_bd HEO.out ids HIL.out)
    clear hes hx hV HOK HNO hln hids HID
    obtain ⟨c0, c1, c2, c3⟩ := four R2.out.k
    go_wp2_with fail
    refine CE.out.mono ?_
    rintro e w3 ⟨⟨v3, rfl, ho3⟩, hb3⟩
    obtain ⟨A3, p3, rfl, hc3, hr3⟩ := rd_of_own ho3
    have R3 := Lib.hid (OneB.later hb3 R2.out)
    have K3 := Lib.hid (K2.out.later hb3)
    have HR3 := Lib.hid hr3
    clear hb3 R2 K2 c0 c1 c2 c3 ho3 hr3
    obtain ⟨c0, c1, c2, c3⟩ := four R3.out.k
    go_wp2_with fail
    refine (CC.out _ _ _ _ HR3.out).mono ?_
    rintro e w4 ⟨⟨v4, rfl, ho4⟩, hb4⟩
    obtain ⟨A4, p4, rfl, hc4, hr4⟩ := rd_of_own ho4
    rw [List.length_map] at hr4 hc4 ⊢
    have R4 := Lib.hid (OneB.later hb4 R3.out)
    have K4 := Lib.hid (K3.out.later hb4)
    have HR4 := Lib.hid hr4
    have HR5 := Lib.hid (HR3.out.below hb4)
    clear hb4 R3 K3 c0 c1 c2 c3 ho4 hr4 HR3
    obtain ⟨c0, c1, c2, c3⟩ := four R4.out.k
    obtain ⟨e0, e1, k0, k1⟩ := bk2 K4.out
    obtain ⟨m, hm'⟩ : ∃ m, ids.length = m := ⟨_, rfl⟩
    have HML := Lib.hid hm'
    have hlp := HLL.out
    rw [hm'] at HR4 hlp ⊢
    clear hm' HLL
    by_cases hz : m = 0
    · subst hz
      have hV := HV.out
      unfold loF at hV
      rw [if_pos HML.out] at hV
      injection hV with hV1 hV2
      injection hV1 with hV3 hV4
      subst hV2 hV3 hV4
      go_wp2
      refine bodyPost_ret (v := .tuple #[.agg #[.int .i64 0, .int .i64 0], .int .i64 12]) (by simp [results, Try.results32, go_sem, e0, e1, k0, k1]) rfl ⟨rfl, ?_⟩
      have hbw := R4.out.b
      have hbz := hbw.size
      have hkz := K4.out.lt
      go_grown
    · have hV := HV.out
      unfold loF at hV
      rw [if_neg (by have := HML.out; omega)] at hV
      injection hV with hV1 hV2
      injection hV1 with hV3 hV4
      subst hV2
      have HN := Lib.hid hV3
      have HD := Lib.hid hV4
      rw [HML.out] at HN HD HXS
      have hzI : ((m : Int) == 0) = false := by rw [beq_eq_false_iff_ne]; omega
      clear hV3 hV4 HV
      go_wp2
      go_loop [9, 35] (fun s i => ∃ k : Nat, k ≤ m ∧ i = .int .i64 k ∧ s = .int .i64 (lsS es (ids.take k))) (fun _ i => m - (intOf i).toNat)
      case atStart => exact ⟨0, Nat.zero_le _, rfl, rfl⟩
      case round =>
        obtain ⟨k, hk, rfl, rfl⟩ := hrel
        by_cases hlt : k < m
        · have hkI : (k : Int) < (m : Int) := by omega
          obtain ⟨ad, ha, _, hc⟩ := HR4.out.2 (by omega)
          subst ha
          have hck := hc k hlt
          rw [map_getD_cast ids k (by have := HML.out; omega)] at hck
          have hik : ids.getD k 0 < es.length := by
            rw [List.getD_eq_getElem?_getD, List.getElem?_eq_getElem (by have := HML.out; omega), Option.getD_some]
            exact HIL.out _ (List.getElem_mem _)
          have hb := lsS_bd HEO.out (ids.take k) (fun i hi => HIL.out i (List.mem_of_mem_take hi))
          rw [List.length_take] at hb
          have HST := Lib.hid (lsS_snoc es (ids.take k) (ids.getD k 0))
          rw [← nat_take_snoc (by have := HML.out; omega)] at HST
          have hx := HEO.out.at hik
          obtain ⟨j, hj⟩ : ∃ j, ids.getD k 0 = j := ⟨_, rfl⟩
          rw [hj] at hck hik HST hx
          obtain ⟨ad5, ha5, _, hc5⟩ := HR5.out.2 (by omega)
          subst ha5
          have hc6 := hc5 j hik
          obtain ⟨x, hx'⟩ : ∃ x, es.getD j 0 = x := ⟨_, rfl⟩
          obtain ⟨s, hs⟩ : ∃ s, lsS es (ids.take k) = s := ⟨_, rfl⟩
          rw [hx'] at hc6 HST hx
          rw [hs] at HST hb ⊢
          have hjI : (j : Int) < (es.length : Int) := by omega
          have hj0 : (0 : Int) ≤ (j : Int) := by omega
          have w1 : IntKind.i64.wrap (s + x) = s + x := IntWalk.i64_in _ (by omega)
          clear hc hc5 hj hx' hs
          go_wp2
          go_round
          case rel => exact ⟨k + 1, by omega, by go_num, by rw [HST.out]⟩
          case measure => simp [intOf]; omega
        · obtain rfl : m = k := by omega
          have hkI : ¬ (m : Int) < (m : Int) := by omega
          rw [List.take_of_length_le (by rw [HML.out]; exact Nat.le_refl _)]
          have hxs := HXS.out
          have hml : (m : Int) * l ≤ 200 * 50 := Int.mul_le_mul (by omega) (by omega) (by omega) (by omega)
          have hml0 : 0 < (m : Int) * l := Int.mul_pos (by omega) (by omega)
          have CF := Lib.hid (fun w => fractionOf_any (lsS es ids) ((m : Int) * l) w (by omega) (by omega) (by omega) (by omega))
          obtain ⟨_, _, _, hn1, _, _⟩ := gcd_facts (a := lsS es ids) (b := (m : Int) * l) (by omega) hml0
          obtain ⟨s, hs⟩ : ∃ s, lsS es ids = s := ⟨_, rfl⟩
          obtain ⟨ml, hml'⟩ : ∃ s, (m : Int) * l = s := ⟨_, rfl⟩
          rw [hs, hml'] at HN HD CF hn1
          rw [← HN.out, ← HD.out] at CF
          rw [← HN.out] at hn1
          rw [hs] at hxs ⊢
          have w1 : IntKind.i64.wrap ((m : Int) * l) = ml := by rw [← hml']; exact IntWalk.i64_in _ (by omega)
          have hN : ¬ 1000000000000000 < N := by omega
          clear hs hml' HXS HN HD hn1
          go_wp2_with fail
          refine (CF.out _).mono ?_
          rintro e w5 ⟨rfl, hb5⟩
          have R5 := OneB.later hb5 R4.out
          have K5 := K4.out.later hb5
          have hkz5 := K5.lt
          have hbz5 := R5.b.size
          have hbw5 := R5.b
          obtain ⟨f0, f1, g0, g1⟩ := bk2 K5
          have hne : ¬ w.heap.size + 1 = w5.heap.size := by omega
          clear hb5
          go_wp2
          have KF : Bk (((w5.setCell ⟨w.heap.size + 1, 0, none⟩ (.int .i64 N)).setCell ⟨w.heap.size + 1, 1, none⟩ (.int .i64 D)).alloc (.cells #[.int .i64 N, .int .i64 D] 23)) (w.heap.size + 1) 23 #[.int .i64 N, .int .i64 D] := ((K5.set_ 0 (.int .i64 N)).set_ 1 (.int .i64 D)).alloc _
          obtain ⟨z0, z1, y0, y1⟩ := bk2 KF
          refine bodyPost_ret (v := .tuple #[.agg #[.int .i64 N, .int .i64 D], .int .i64 0]) (by simp [results, Try.results32, go_sem, z0, z1, y0, y1]) rfl ⟨rfl, ?_⟩
          go_grown
  · have h1 : (E == 0) = false := by rw [beq_eq_false_iff_ne]; exact h0
    have h2 : (E != 0) = true := by rw [bne_iff_ne]; exact h0
    have hV := HNO.out h0
    injection hV with hV1 hV2
    injection hV1 with hV3 hV4
    subst hV2 hV3 hV4
    clear HOK HNO h0
    obtain ⟨e0, e1, k0, k1⟩ := bk2 K2.out
    go_wp2
    refine bodyPost_ret (v := .tuple #[.agg #[.int .i64 0, .int .i64 0], .int .i64 X]) (by simp [results, Try.results32, go_sem, e0, e1, k0, k1]) rfl ⟨rfl, ?_⟩
    have hbw := R2.out.b
    have hbz := hbw.size
    have hkz := K2.out.lt
    go_grown

end Go.Proofs.Ytccoflhoggpgoaa

