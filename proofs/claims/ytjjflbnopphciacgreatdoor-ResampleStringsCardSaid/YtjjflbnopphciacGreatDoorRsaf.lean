import Derived.Test.YtjjflbnopphciacGreatDoorRsae
import Derived.Test.YtjjflbnopphciacGreatDoorRsaa
import Derived.Test.YtjjflbnopphciacGreatDoorRsab
namespace Go.Proofs.YtjjflbnopphciacGreatDoor
open Go.RowKit

open Go.Shelf
attribute [local go_sem] Oper.semAt_some

def goodAt (opv : Nat → Int × Int) (last : Int) (k : Nat) : Prop := (opv k).2 = 0 ∧ (opv k).1 ≤ last
instance (opv : Nat → Int × Int) (last : Int) (k : Nat) : Decidable (goodAt opv last k) := by unfold goodAt; infer_instance
def stopAt (opv : Nat → Int × Int) (last : Int) : Nat → Nat → Nat
  | k, 0 => k
  | k, f + 1 => if goodAt opv last k then stopAt opv last (k + 1) f else k
theorem stopAt_eq {opv : Nat → Int × Int} {last : Int} {K : Nat} : ∀ {f k : Nat}, (∀ i, k ≤ i → i < K → goodAt opv last i) → k ≤ K → K ≤ k + f → (K < k + f → ¬ goodAt opv last K) → stopAt opv last k f = K
  | 0, k, _, h1, h2, _ => by unfold stopAt; omega
  | f + 1, k, hg, h1, h2, h3 => by
    unfold stopAt
    by_cases hk : k = K
    · subst hk
      rw [if_neg (h3 (by omega))]
    · rw [if_pos (hg k (Nat.le_refl _) (by omega))]
      exact stopAt_eq (fun i a b => hg i (by omega) b) (by omega) (by omega) (fun h => h3 (by omega))
/-- The positions of all outputs, and the error. -/
def posOut (opv : Nat → Int × Int) (last : Int) : List Int × Int :=
  if stopAt opv last 0 2001 = 2001 then ([], 8) else ((List.range (stopAt opv last 0 2001)).map (fun k => (opv k).1), 0)

/-- The boxes of PositionsOf but for the positions' own. -/
structure QI (w : World) (last : Int) (b7 : Nat) (v4 : Value) (e5 : Int) (W : World) : Prop where
  k4 : Bk W (w.heap.size + 1) 27 #[v4]
  k5 : Bk W (w.heap.size + 2) 37 #[.int .i64 e5]
  k7 : Bk W b7 3 #[.int .i64 last]
  bel : Below w.heap.size w W
theorem QI.later {w W w' : World} {last : Int} {b7 : Nat} {v4 : Value} {e5 : Int} (h : QI w last b7 v4 e5 W) (hb : Below W.heap.size W w') : QI w last b7 v4 e5 w' :=
  ⟨h.k4.later hb, h.k5.later hb, h.k7.later hb, h.bel.trans (hb.mono h.bel.size)⟩
theorem QI.own {w : World} {last : Int} {b7 : Nat} {v4 : Value} {e5 : Int} (n : Nat) (hn : w.heap.size ≤ n) : OwnFrom n (fun (_ : Unit) W => QI w last b7 v4 e5 W) := fun s X Y row hs hg hr => by
  have k : ∀ {g : Nat} {t : TypeId} {cs : Array Value}, Bk X g t cs → Bk Y g t cs := fun {g t cs} h => Bk.grown h hg (fun e' => by
    obtain ⟨_, o, ho, hc⟩ := hr g e'.symm
    rw [show X.heap[g]? = _ from h] at ho; cases ho; cases hc)
  exact ⟨k hs.k4, k hs.k5, k hs.k7, hs.bel.grown hg hs.bel.size (fun k e => by have := (hr k e).1; omega)⟩
/-- The positions that came, in their own box. -/
def RowI (n0 b8 : Nat) (l : List Int) (W : World) : Prop := ∃ v, Boxed W b8 27 v ∧ W.ownsRow n0 3 1 v l.length (l.map (Value.int .i64))

theorem RowI.own {n0 b8 : Nat} {l : List Int} {X Y : World} {row : Option Nat} (h : RowI n0 b8 l X) (hg : X.grownBy Y row) (hr : ∀ r, row = some r → ∃ o : Obj, X.heap[r]? = some o ∧ o.isCells = false) : RowI n0 b8 l Y := by
  obtain ⟨v, h1, h2⟩ := h
  obtain ⟨v', a, b, _⟩ := holdsRow_own n0 b8 27 3 1 (fun (_ : Unit) => l.length) (fun _ => l.map (Value.int .i64)) (fun _ _ => True) () X Y row ⟨v, h1, h2, trivial⟩ hg hr
  exact ⟨v', a, b⟩
theorem range_snoc {pre : List Nat} {x q : Nat} (h : pre ++ [x] = List.range q) : x = pre.length ∧ pre = List.range pre.length ∧ q = pre.length + 1 := by
  have h1 : q = pre.length + 1 := by have := congrArg List.length h; simp at this; omega
  subst h1
  rw [List.range_succ] at h
  have h2 := List.append_inj h (by simp)
  exact ⟨by simpa using h2.2, h2.1, rfl⟩
theorem QI.set {w W : World} {last : Int} {b7 : Nat} {v4 : Value} {e5 : Int} (h : QI w last b7 v4 e5 W) (h7 : w.heap.size + 2 < b7) (v : Value) (e : Int) : QI w last b7 v e ((W.setCell ⟨w.heap.size + 1, 0, none⟩ v).setCell ⟨w.heap.size + 2, 0, none⟩ (.int .i64 e)) :=
  ⟨(h.k4.set_ 0 v).far _ (by simp) _, (h.k5.far _ (by simp) _).set_ 0 _, (h.k7.far _ (by simp; omega) _).far _ (by simp; omega) _, (h.bel.setCell (p := ⟨w.heap.size + 1, 0, none⟩) (by simp) _).setCell (p := ⟨w.heap.size + 2, 0, none⟩) (by simp) _⟩
/-- How the function comes back. -/
theorem QI.row {w W : World} {last : Int} {b7 : Nat} {v4 : Value} {e5 : Int} (h : QI w last b7 v4 e5 W) {v : Value} {n : Nat} {xs : List Value} (hr : W.ownsRow w.heap.size 3 1 v n xs) (u : Value) (e : Int) : ((W.setCell ⟨w.heap.size + 1, 0, none⟩ u).setCell ⟨w.heap.size + 2, 0, none⟩ (.int .i64 e)).ownsRow w.heap.size 3 1 v n xs := by
  have h4 : Boxed W (w.heap.size + 1) 27 v4 := h.k4
  have h5 : Boxed W (w.heap.size + 2) 37 (.int .i64 e5) := h.k5
  have hr1 := hr.kept (grownBy_setCell' W (w.heap.size + 1) u) (.inr (h4.not_row (by decide) hr).symm)
  have h51 : Boxed (W.setCell ⟨w.heap.size + 1, 0, none⟩ u) (w.heap.size + 2) 37 (.int .i64 e5) := h5.other (by omega) u
  exact hr1.kept (grownBy_setCell' _ (w.heap.size + 2) _) (.inr (h51.not_row (by decide) hr1).symm)

theorem QI.kb {w W W' : World} {last : Int} {b7 n0 : Nat} {v4 : Value} {e5 : Int} (h : QI w last b7 v4 e5 W) (k : KB (b7 + 1) n0 W W') (h7 : w.heap.size + 2 < b7) (hn : b7 < n0) (hb : Below w.heap.size W W') : QI w last b7 v4 e5 W' :=
  ⟨k.bk h.k4 (by omega) (by omega), k.bk h.k5 (by omega) (by omega), k.bk h.k7 hn (by omega), h.bel.trans hb⟩
/-- How a round of PositionsOf leaves the loop. -/
def QX (w : World) (n0 : Nat) (opv : Nat → Int × Int) (last : Int) (b7 : Nat) (cc : Code) (W : World) : Prop :=
  (cc = .ret ∧ stopAt opv last 0 2001 = 2001 ∧ QI w last b7 (.slice none 0 0) 8 W) ∨ (cc = .exit 0 ∧ ∃ k, stopAt opv last 0 2001 = k ∧ k ≤ 2000 ∧ QI w last b7 (.slice none 0 0) 0 W ∧ RowI n0 (b7 + 1) ((List.range k).map fun k => (opv k).1) W)

set_option maxRecDepth 100000 in
set_option maxHeartbeats 4000000 in
theorem PositionsOf_ok (k0 k1 k2 k3 k4 : Int) (A : Option Addr) (m c : Nat) (cnt : Nat) (opv : Nat → Int × Int) (w : World) (hcnt : cnt ≤ 400)
    (hcr : ∀ W, Below w.heap.size w W → Calls Tryz.prog 34 #[.agg #[.int .i64 k0, .int .i64 k1, .int .i64 k2, .int .i64 k3, .int .i64 k4, .slice A m c]] W fun e w' => e = .returned (.int .i64 0) ∧ Below W.heap.size W w')
    (hop : ∀ (k : Nat) W, k ≤ 2000 → (∀ g, g < w.heap.size → W.heap[g]? = w.heap[g]?) → w.heap.size ≤ W.heap.size → Calls Tryz.prog 100 #[.agg #[.int .i64 k0, .int .i64 k1, .int .i64 k2, .int .i64 k3, .int .i64 k4, .slice A m c], .int .i64 k] W fun e w' => e = .returned (.tuple #[.int .i64 (opv k).1, .int .i64 (opv k).2]) ∧ Below W.heap.size W w') :
    Calls Tryz.prog 52 #[.agg #[.int .i64 k0, .int .i64 k1, .int .i64 k2, .int .i64 k3, .int .i64 k4, .slice A m c], .int .i64 cnt] w (OwnRes w (posOut opv (64 * ((cnt : Int) - 1))).2 (posOut opv (64 * ((cnt : Int) - 1))).1) := by
  have HCR := Lib.hid hcr
  have HOP := Lib.hid hop
  have CL := Lib.hid (fun w => lastPosition_any cnt w (by omega))
  have C3 := Lib.hid (fun x y w h1 h2 => from1_any (cnt : Int) 0 400 x y w h1 h2)
  rw [rngE_of (show (0 : Int) ≤ (cnt : Int) ∧ (cnt : Int) ≤ 400 by omega)] at C3
  obtain ⟨last, hlast⟩ : ∃ x, 64 * ((cnt : Int) - 1) = x := ⟨_, rfl⟩
  rw [hlast] at CL ⊢
  clear hcr hop hlast
  refine (callsIn_wide (n := 6)).1 ?_
  refine callsIn_of_wp_marks Tryz.func52 rfl trivial ?_ rfl
  simp only [Tryz.ntmps52, List.size_toArray, List.length_cons, List.length_nil, Nat.reduceAdd, Nat.reduceSub, Array.replicate_succ, Array.replicate_zero, List.push_toArray, List.append_toArray, List.nil_append, List.cons_append]
  gi_wp2_with fail
  refine ⟨trivial, ?_⟩
  refine (callsIn_wide.2 (HCR.out _ (by go_grown))).mono ?_
  rintro e w1 ⟨rfl, hb1⟩
  have R0 := Lib.hid (OneB.later hb1 (((OneB.start w 26 #[.int .i64 k0, .int .i64 k1, .int .i64 k2, .int .i64 k3, .int .i64 k4, .slice A m c]).alloc (.cells #[.slice none 0 0] 27)).alloc (.cells #[.int .i64 0] 37)))
  have K4 : Hid (Bk w1 (w.heap.size + 1) 27 #[.slice none 0 0]) := Bk.later (by have h := (Bk.new (w.alloc (.cells #[.int .i64 k0, .int .i64 k1, .int .i64 k2, .int .i64 k3, .int .i64 k4, .slice A m c] 26)) 27 #[.slice none 0 0]).alloc (.cells #[.int .i64 0] 37); simpa using h) hb1
  have K5 : Hid (Bk w1 (w.heap.size + 2) 37 #[.int .i64 0]) := Bk.later (by have h := Bk.new ((w.alloc (.cells #[.int .i64 k0, .int .i64 k1, .int .i64 k2, .int .i64 k3, .int .i64 k4, .slice A m c] 26)).alloc (.cells #[.slice none 0 0] 27)) 37 #[.int .i64 0]; simpa using h) hb1
  have hz1 : w.heap.size + 3 ≤ w1.heap.size := by have := K5.out.lt; omega
  clear hb1
  obtain ⟨c0, c1, c2, c3, c4, c5⟩ := R0.out.six
  have hne : ¬ w.heap.size = w1.heap.size := by omega
  have hlt : w.heap.size < w1.heap.size := by omega
  gi_wp2_with (first
    | (refine ⟨trivial, ?_⟩; gi_at_call 49; refine (callsIn_wide.2 (from_any _ _ _)).mono ?_; rintro e w' ⟨rfl, rfl⟩)
    | (refine ⟨trivial, ?_⟩; gi_at_call 81; refine (callsIn_wide.2 (C3.out _ _ _ ?_ ?_)).mono ?_; (focus (simp [go_sem])); (focus (simp [go_sem])); rintro e w' ⟨rfl, rfl⟩))
  refine ⟨trivial, ?_⟩
  refine (callsIn_wide.2 (firstError2 (E1 := 0) (E2 := 0) (F := 0) rfl _ _ ?_ ?_)).mono ?_
  · simp [go_sem]
  · simp [go_sem]
  rintro e w' ⟨rfl, rfl⟩
  have R3 := Lib.hid (((R0.out.alloc (.cells #[.int .i64 0] 3)).alloc (.cells #[.int .i64 400] 3)).alloc (.cells #[.int .i64 0, .int .i64 0] 37))
  have K43 := Lib.hid (((K4.out.alloc (.cells #[.int .i64 0] 3)).alloc (.cells #[.int .i64 400] 3)).alloc (.cells #[.int .i64 0, .int .i64 0] 37))
  have K53 := Lib.hid (((K5.out.alloc (.cells #[.int .i64 0] 3)).alloc (.cells #[.int .i64 400] 3)).alloc (.cells #[.int .i64 0, .int .i64 0] 37))
  obtain ⟨W3, hW3⟩ : ∃ W3, (((w1.alloc (.cells #[.int .i64 0] 3)).alloc (.cells #[.int .i64 400] 3)).alloc (.cells #[.int .i64 0, .int .i64 0] 37)) = W3 := ⟨_, rfl⟩
  rw [hW3] at R3 K43 K53 ⊢
  clear hW3 R0 K4 K5 c0 c1 c2 c3 c4 c5 hne hlt hz1
  obtain ⟨c0, c1, c2, c3, c4, c5⟩ := R3.out.six
  have hz3 : w.heap.size + 3 ≤ W3.heap.size := by have := K53.out.lt; omega
  have hlt : w.heap.size < W3.heap.size := by omega
  have hlt2 : w.heap.size < W3.heap.size + 1 := by omega
  have hne : ¬ w.heap.size = W3.heap.size := by omega
  have hne2 : ¬ w.heap.size = W3.heap.size + 1 := by omega
  gi_wp2_with (refine ⟨trivial, ?_⟩; gi_at_call 50; refine (callsIn_wide.2 (CL.out _)).mono ?_; rintro e w' ⟨rfl, rfl⟩)
  refine ⟨trivial, ?_⟩
  refine (callsIn_wide.2 (outputsOf_any _ _ ⟨_, _, _, _, _, _, rfl, rfl, rfl, rfl, rfl, rfl, rfl⟩)).mono ?_
  rintro e w2 ⟨rfl, hw2⟩
  have hz2 : W3.heap.size + 3 ≤ w2.heap.size := by rw [hw2]; simp
  have hz2b : w2.heap.size ≤ W3.heap.size + 3 := by rw [hw2]; simp
  have HKR : Hid (Bk w2 (W3.heap.size + 1 + 1) 26 #[.int .i64 k0, .int .i64 k1, .int .i64 k2, .int .i64 k3, .int .i64 k4, .slice A m c]) := by
    show Bk _ _ _ _; rw [hw2]
    have h := Bk.new ((W3.alloc (.cells #[.int .i64 last] 3)).alloc (.cells #[.slice none 0 0] 27)) 26 #[.int .i64 k0, .int .i64 k1, .int .i64 k2, .int .i64 k3, .int .i64 k4, .slice A m c]
    simpa using h
  have HQ2 : Hid (QI w last W3.heap.size (.slice none 0 0) 0 w2) := by
    refine ⟨?_, ?_, ?_, ?_⟩ <;> rw [hw2]
    · exact ((K43.out.alloc _).alloc _).alloc _
    · exact ((K53.out.alloc _).alloc _).alloc _
    · exact ((Bk.new W3 _ _).alloc _).alloc _
    · have := R3.out.b
      have := this.size
      go_grown
  have HR2 : Hid (RowI w2.heap.size (W3.heap.size + 1) [] w2) := by
    refine ⟨.slice none 0 0, ?_, World.ownsRow_nil _ _ _ _⟩
    rw [hw2]
    have h := (Boxed.new (W3.alloc (.cells #[.int .i64 last] 3)) 27 (.slice none 0 0)).alloc (.cells #[.int .i64 k0, .int .i64 k1, .int .i64 k2, .int .i64 k3, .int .i64 k4, .slice A m c] 26)
    simpa using h
  clear hw2 R3 K43 K53 c0 c1 c2 c3 c4 c5
  have hlo : ∀ W, KB (W3.heap.size + 1) w2.heap.size w2 W → (∀ g, g < w.heap.size → W.heap[g]? = w.heap[g]?) ∧ w.heap.size ≤ W.heap.size := fun W h =>
    ⟨fun g hg => (h.block g (by omega) (by omega)).trans (HQ2.out.bel.block g hg), by have := h.size; omega⟩
  have HLO := Lib.hid hlo
  clear hlo
  gi_wp2_with fail
  refine wpIn_rangeFunc_lim (α := Nat) rfl (by omega) (gf := 99) (lb := #[.pointer (some ⟨W3.heap.size + 1 + 1, 0, none⟩)]) rfl trivial (enters_of Tryz.func99 (by kernel_rfl) rfl)
    (outs_lim _ (by omega) (W3.heap.size + 1 + 1) (W3.heap.size + 1) w2.heap.size 2000 opv k0 k1 k2 k3 k4 A m c w2 (by omega) (by omega) rfl (by omega) HKR.out (fun k W hk h => HOP.out k W hk (HLO.out W h).1 (HLO.out W h).2)) (Below.refl _ _) (fun _ => rfl)
    (fun h k => h.trans k) (fun W l o o' hl _ _ => KB.putObj W l o' hl)
    (fun pre W => QI w last W3.heap.size (.slice none 0 0) 0 W ∧ RowI w2.heap.size (W3.heap.size + 1) (pre.map fun k => (opv k).1) W ∧ (∀ i ∈ pre, goodAt opv last i) ∧ pre.length ≤ 2000 ∧ w2.heap.size ≤ W.heap.size)
    (fun cc _ W => QX w w2.heap.size opv last W3.heap.size cc W)
    (fun s X Y row hs hg hr => ⟨QI.own w2.heap.size (by omega) () X Y row hs.1 hg hr, hs.2.1.own hg (fun r e => (hr r e).2), hs.2.2.1, hs.2.2.2.1, Nat.le_trans hs.2.2.2.2 hg.size⟩)
    (fun cc s X Y row hs hg hr => by
      rcases hs with ⟨h1, h2, h3⟩ | ⟨h1, k, h2, h3, h4, h5⟩
      · exact .inl ⟨h1, h2, QI.own w2.heap.size (by omega) () X Y row h3 hg hr⟩
      · exact .inr ⟨h1, k, h2, h3, QI.own w2.heap.size (by omega) () X Y row h4 hg hr, h5.own hg (fun r e => (hr r e).2)⟩)
    (fun pre W h => h.2.2.2.1)
    ⟨HQ2.out, HR2.out, by simp, by simp, Nat.le_refl _⟩
    (fun x => { tmps := #[.agg #[.int .i64 k0, .int .i64 k1, .int .i64 k2, .int .i64 k3, .int .i64 k4, .slice A m c], .int .i64 cnt, .pointer (some ⟨w.heap.size, 0, none⟩), undef, .pointer (some ⟨w.heap.size + 1, 0, none⟩), .pointer (some ⟨w.heap.size + 1 + 1, 0, none⟩), .int .i64 0, .pointer (some ⟨W3.heap.size, 0, none⟩), .pointer (some ⟨W3.heap.size + 1, 0, none⟩), .int .i64 (opv x).1, .agg #[.int .i64 k0, .int .i64 k1, .int .i64 k2, .int .i64 k3, .int .i64 k4, .slice A m c], .int .i64 0, .func (.func 81) #[] #[.pointer (some ⟨w1.heap.size, 0, none⟩), .pointer (some ⟨w1.heap.size + 1, 0, none⟩)], .int .i64 cnt, .int .i64 0, .slice (some ⟨w1.heap.size + 1 + 1, 0, none⟩) 2 2, .int .i64 0, .int .i64 0, .bool false, undef, .int .i64 cnt, .int .i64 last, .agg #[.int .i64 k0, .int .i64 k1, .int .i64 k2, .int .i64 k3, .int .i64 k4, .slice A m c], .func (.func 99) #[] #[.pointer (some ⟨W3.heap.size + 1 + 1, 0, none⟩)], .int .i64 (opv x).1, undef, undef, undef, undef, undef, undef, undef, undef, undef, undef, undef], defers := [] }) ?assign ?body ?done ?stop
  case assign =>
    intro l x W K hK
    gi_wp2
    exact hK
  case body =>
    rintro l pre x W ⟨hQ, hR, hG, hlen, hsz⟩ ⟨q, hpre, hq, herr⟩
    obtain ⟨hx, hpr, hqq⟩ := range_snoc hpre
    have hxe := herr x (by omega)
    obtain ⟨k, hk⟩ : ∃ k, pre.length = k := ⟨_, rfl⟩
    rw [hk] at hx hpr hqq hlen
    subst hx
    have hrowEq : (pre.map fun k => (opv k).1) = (List.range x).map fun k => (opv k).1 := by rw [hpr]
    have hGr : ∀ i, i < x → goodAt opv last i := fun i hi => hG i (by rw [hpr]; simpa using hi)
    rw [hrowEq] at hR
    have HGr := Lib.hid hGr
    have HQ := Lib.hid hQ
    obtain ⟨v, hv, hrow⟩ := hR
    have hrl : ((List.range x).map fun k => (opv k).1).length = x := by simp
    rw [hrl] at hrow
    obtain ⟨A', c', rfl, _, _⟩ := rd_of_own hrow
    have HV := Lib.hid hv
    have HROW := Lib.hid hrow
    have HME := Lib.hid hrowEq
    have HPR := Lib.hid hpr
    have HXE := Lib.hid hxe
    obtain ⟨c7, _⟩ := bk1 hQ.k7
    obtain ⟨c4, z4⟩ := bk1 hQ.k4
    obtain ⟨c5, z5⟩ := bk1 hQ.k5
    have c8 := hv.cell
    obtain ⟨p, hp⟩ : ∃ p, (opv x).1 = p := ⟨_, rfl⟩
    rw [hp]
    have HP := Lib.hid hp
    clear hp hxe hpr hrowEq hGr hQ hv hrow hpre herr hG hrl hk hqq hq
    by_cases h1 : last < p
    · gi_wp2
      refine ⟨KeepsFrom.refl _ _, .inr ⟨rfl, x, ?_, hlen, HQ.out, ?_⟩⟩
      · exact stopAt_eq (fun i _ h => HGr.out i h) (Nat.zero_le _) (by omega) (fun _ h => by have := h.2; rw [HP.out] at this; omega)
      · exact ⟨_, HV.out, by simpa using HROW.out⟩
    · have hg : Hid (goodAt opv last x) := ⟨HXE.out, by rw [HP.out]; omega⟩
      by_cases h2 : x = 2000
      · subst h2
        gi_wp2
        refine ⟨((KeepsOthers.setCell _ _ _).trans (KeepsOthers.setCell _ _ _)).from _, .inl ⟨rfl, ?_, HQ.out.set (by omega) _ _⟩⟩
        exact stopAt_eq (fun i _ h => by
          rcases (by omega : i < 2000 ∨ i = 2000) with h | rfl
          · exact HGr.out i h
          · exact hg.out) (by omega) (by omega) (fun h => by omega)
      · have h2I : ((x : Int) == 2000) = false := by rw [beq_eq_false_iff_ne]; omega
        obtain ⟨i0, hi, hz0, hz1, hz2'⟩ := info_parts intInfo'
        have hBs := HQ.out.bel.size
        gi_wp2_with (gi_at_builtin; refine wpListIn_append_own _ rfl _ _ 27 rfl w2.heap.size 3 i0 (.int .i64 0) 1 8 Tryz.underlying27 hi hz0 hz1 hz2' rfl (by decide) _ _ _ rfl (HROW.out.alloc _) ⟨W.heap.size, 0, none⟩ 1 1 [.int .i64 p] rfl rfl (cell_one_new _ _ _) (by simp [Value.oneCell']) (by unfold maxLen; omega) (by omega) (by simp; omega) ?_; intro v' w4 hown' hgrow _; obtain ⟨g', cap', rfl⟩ := ownsRow_succ hown'; obtain ⟨hv1, hv2, _, hk2, hb2⟩ := HV.out.appended (by decide) (ownMono HROW.out (show w.heap.size ≤ w2.heap.size by omega)) hBs (by omega) (ownMono hown' (show w.heap.size ≤ w2.heap.size by omega)) hgrow; have hr2 := hown'.kept (grownBy_setCell' w4 (W3.heap.size + 1) (.slice (some ⟨g', 0, none⟩) (x + 1) cap')) (.inr (hv1.not_row (by decide) hown').symm); have hc1 := hv1.cell; have hf1 := hv1.frozen)
        have hgrow' : (W.alloc (.cells #[.int .i64 p] 3)).grownBy w4 (Value.slice A' x c').ownBlock := hgrow
        have hKB : KB (W3.heap.size + 1) w2.heap.size W (w4.setCell ⟨W3.heap.size + 1, 0, none⟩ (.slice (some ⟨g', 0, none⟩) (x + 1) cap')) := by
          refine ⟨fun g h1 h2 => ?_, hk2.size⟩
          rw [heap_setCell_other _ _ _ _ (by simpa using h2), hgrow'.block g (by simp; omega) ?_, Below.heap_alloc _ _ _ (by omega)]
          rcases HROW.out.2 with ⟨e, _⟩ | ⟨g2, cap2, cur2, e, hb, _⟩
          · rw [e]; simp [Value.ownBlock]
          · rw [e]; simp [Value.ownBlock]; omega
        have hQ' := HQ.out.kb hKB (by omega) (by omega) hb2
        refine ⟨hk2.from _, hKB, hQ', ⟨_, hv2, ?_⟩, ?_, ?_, Nat.le_trans hsz hk2.size⟩
        · rw [List.map_append, HME.out]
          have e : (List.map (fun k => (opv k).1) (List.range x) ++ List.map (fun k => (opv k).1) [x]).length = x + 1 := by simp
          rw [e]
          simpa [HP.out] using hr2
        · intro i hi
          rcases List.mem_append.1 hi with h | h
          · rw [HPR.out] at h; exact HGr.out i (by simpa using h)
          · simp at h; subst h; exact hg.out
        · rw [HPR.out]; simp; omega
  case done =>
    rintro D xs W hD ⟨q, rfl, hq, herr, hne⟩ ⟨hQ, ⟨v, hv, hrow⟩, hG, hlen, hsz⟩ hK
    have HSA : Hid (stopAt opv last 0 2001 = q) := stopAt_eq (fun i _ h => hG i (by simpa using h)) (Nat.zero_le _) (by omega) (fun _ h => hne h.1)
    clear hG herr hne hlen
    have hrl0 : ((List.range q).map fun k => (opv k).1).length = q := by simp
    rw [hrl0] at hrow
    have HRL := Lib.hid hrl0
    clear hrl0
    obtain ⟨A', c', rfl, _, _⟩ := rd_of_own hrow
    obtain ⟨c4, z4⟩ := bk1 hQ.k4
    obtain ⟨c5, z5⟩ := bk1 hQ.k5
    have c8 := hv.cell
    have HQ := Lib.hid hQ
    have HROW := Lib.hid hrow
    have HK := Lib.hid hK
    obtain ⟨rl, hrl⟩ : ∃ r, (posOut opv last) = r := ⟨_, rfl⟩
    have HPO : Hid (posOut opv last = ((List.range q).map fun k => (opv k).1, 0)) := by show _ = _; unfold posOut; rw [HSA.out, if_neg (by omega)]
    clear hQ hrow hv hK hrl
    gi_wp2
    have hPf := HQ.out.set (by omega) (.slice A' q c') 0
    have hK' := ((KeepsOthers.setCell W ⟨w.heap.size + 1, 0, none⟩ (.slice A' q c')).trans (KeepsOthers.setCell _ ⟨w.heap.size + 2, 0, none⟩ (.int .i64 0))).same D _ HK.out rfl
    refine ⟨by simp, .inl ⟨_, _, rfl, run_takeDeferred hK', ?_⟩⟩
    have hPg := QI.own w2.heap.size (by omega) () _ _ (some D) hPf (grownBy_putObj' _ D (.deferred none)) (fun r e => by cases e; exact ⟨hD, _, hK', rfl⟩)
    have hRg := ownsRow_putObj (HQ.out.row (ownMono HROW.out (show w.heap.size ≤ w2.heap.size by omega)) (.slice A' q c') 0) (.deferred none) hK' rfl
    clear c4 z4 c5 z5
    obtain ⟨c4, _⟩ := bk1 hPg.k4
    obtain ⟨c5, _⟩ := bk1 hPg.k5
    refine ⟨.tuple #[.slice A' q c', .int .i64 0], ?_, ?_⟩
    · simp [results, Tryz.f52, go_sem, c4, c5]
    · refine ⟨⟨.slice A' q c', by rw [HPO.out], ?_⟩, hPg.bel⟩
      rw [HPO.out]
      dsimp only
      rw [HRL.out]
      exact hRg
  case stop =>
    rintro D cc pre W hD _ hX hK
    rcases hX with ⟨rfl, hsa, hQ⟩ | ⟨rfl, k, hsa, hk, hQ, v, hv, hrow⟩
    · have HPO : Hid (posOut opv last = ([], 8)) := by show _ = _; unfold posOut; rw [hsa, if_pos rfl]
      have HQ := Lib.hid hQ
      have HK := Lib.hid hK
      clear hsa hQ hK
      gi_wp2
      refine ⟨by simp, .inl ⟨_, _, rfl, run_takeDeferred HK.out, ?_⟩⟩
      have hPg := QI.own w2.heap.size (by omega) () _ _ (some D) HQ.out (grownBy_putObj' _ D (.deferred none)) (fun r e => by cases e; exact ⟨hD, _, HK.out, rfl⟩)
      obtain ⟨c4, _⟩ := bk1 hPg.k4
      obtain ⟨c5, _⟩ := bk1 hPg.k5
      refine ⟨.tuple #[.slice none 0 0, .int .i64 8], ?_, ?_⟩
      · simp [results, Tryz.f52, go_sem, c4, c5]
      · refine ⟨⟨.slice none 0 0, by rw [HPO.out], ?_⟩, hPg.bel⟩
        rw [HPO.out]
        exact World.ownsRow_nil _ _ _ _
    · have HSA : Hid (stopAt opv last 0 2001 = k) := hsa
      clear hsa
      have hrl0 : ((List.range k).map fun k => (opv k).1).length = k := by simp
      rw [hrl0] at hrow
      have HRL := Lib.hid hrl0
      clear hrl0
      obtain ⟨A', c', rfl, _, _⟩ := rd_of_own hrow
      obtain ⟨c4, z4⟩ := bk1 hQ.k4
      obtain ⟨c5, z5⟩ := bk1 hQ.k5
      have c8 := hv.cell
      have HQ := Lib.hid hQ
      have HROW := Lib.hid hrow
      have HK := Lib.hid hK
      obtain ⟨rl, hrl⟩ : ∃ r, (posOut opv last) = r := ⟨_, rfl⟩
      have HPO : Hid (posOut opv last = ((List.range k).map fun k => (opv k).1, 0)) := by show _ = _; unfold posOut; rw [HSA.out, if_neg (by omega)]
      clear hQ hrow hv hK hrl
      gi_wp2
      have hPf := HQ.out.set (by omega) (.slice A' k c') 0
      have hK' := ((KeepsOthers.setCell W ⟨w.heap.size + 1, 0, none⟩ (.slice A' k c')).trans (KeepsOthers.setCell _ ⟨w.heap.size + 2, 0, none⟩ (.int .i64 0))).same D _ HK.out rfl
      refine ⟨by simp, .inl ⟨_, _, rfl, run_takeDeferred hK', ?_⟩⟩
      have hPg := QI.own w2.heap.size (by omega) () _ _ (some D) hPf (grownBy_putObj' _ D (.deferred none)) (fun r e => by cases e; exact ⟨hD, _, hK', rfl⟩)
      have hRg := ownsRow_putObj (HQ.out.row (ownMono HROW.out (show w.heap.size ≤ w2.heap.size by omega)) (.slice A' k c') 0) (.deferred none) hK' rfl
      clear c4 z4 c5 z5
      obtain ⟨c4, _⟩ := bk1 hPg.k4
      obtain ⟨c5, _⟩ := bk1 hPg.k5
      refine ⟨.tuple #[.slice A' k c', .int .i64 0], ?_, ?_⟩
      · simp [results, Tryz.f52, go_sem, c4, c5]
      · refine ⟨⟨.slice A' k c', by rw [HPO.out], ?_⟩, hPg.bel⟩
        rw [HPO.out]
        dsimp only
        rw [HRL.out]
        exact hRg

end Go.Proofs.YtjjflbnopphciacGreatDoor


namespace Go.Proofs.YtjjflbnopphciacGreatDoor
open Go.RowKit

theorem ownBelow {w w' : World} {base : Nat} {e : TypeId} {size : Nat} {v : Value} {n : Nat} {xs : List Value} (h : w.ownsRow base e size v n xs) (hb : Below w.heap.size w w') : w'.ownsRow base e size v n xs := by
  refine ⟨h.1, ?_⟩
  rcases h.2 with h0 | ⟨g, cap, cur, h1, h2, h3, h4⟩
  · exact .inl h0
  · exact .inr ⟨g, cap, cur, h1, h2, (hb.block g (Array.getElem?_eq_some_iff.1 h3).1).trans h3, h4⟩
/-- All outputs, and the error. -/
def resOut (f : Int → Int) (p : List Int × Int) : List Int × Int := if p.2 = 0 then (p.1.map f, 0) else ([], p.2)
theorem OwnRes.mk' {w w' : World} {f : Int → Int} {p : List Int × Int} {xs : List Int} {E : Int} {v : Value} {e : Ending} (h : resOut f p = (xs, E)) (he : e = .returned (.tuple #[v, .int .i64 E]))
    (ho : w'.ownsRow w.heap.size 3 1 v xs.length (xs.map (Value.int .i64))) (hb : Below w.heap.size w w') : OwnRes w (resOut f p).2 (resOut f p).1 e w' := by
  rw [h]
  exact ⟨⟨v, he, ho⟩, hb⟩
def outF (d : Int) (xs : List Int) (q : Int) : Int := if d = 1 then outV (vnum1 xs q) 64 else outV (vnum3 xs q) 1572864
theorem take_snoc {l : List Int} {k : Nat} (h : k < l.length) : l.take (k + 1) = l.take k ++ [l.getD k 0] := by
  rw [List.take_succ_eq_append_getElem h]
  simp [List.getD_eq_getElem?_getD, List.getElem?_eq_getElem h]
theorem posOut_mem {opv : Nat → Int × Int} {last q : Int} (h : q ∈ (posOut opv last).1) : q ≤ last ∧ ∃ k, q = (opv k).1 := by
  unfold posOut at h
  split at h
  · simp at h
  · rename_i hne
    simp only [List.mem_map, List.mem_range] at h
    obtain ⟨k, hk, rfl⟩ := h
    have key : ∀ (f k0 K : Nat), K < stopAt opv last k0 f → k0 ≤ K → goodAt opv last K := by
      intro f
      induction f with
      | zero => intro k0 K h1 h2; unfold stopAt at h1; omega
      | succ f ih =>
        intro k0 K h1 h2
        unfold stopAt at h1
        by_cases hg : goodAt opv last k0
        · rw [if_pos hg] at h1
          rcases (by omega : k0 = K ∨ k0 + 1 ≤ K) with rfl | h3
          · exact hg
          · exact ih (k0 + 1) K h1 h3
        · rw [if_neg hg] at h1; omega
    exact ⟨(key 2001 0 k hk (Nat.zero_le _)).2, k, rfl⟩

set_option maxRecDepth 100000 in
set_option maxHeartbeats 4000000 in
theorem Resampled1_ok (k0 k2 k3 k4 : Int) (A : Option Addr) (m c : Nat) (B : Option Addr) (n cb : Nat) (xs : List Int) (opv : Nat → Int × Int) (w : World) (hx : RdI w B n xs) (hsig : sigE xs = 0) (hpos : ∀ k, 0 ≤ (opv k).1)
    (hcr : ∀ W, Below w.heap.size w W → Calls Tryz.prog 34 #[.agg #[.int .i64 k0, .int .i64 1, .int .i64 k2, .int .i64 k3, .int .i64 k4, .slice A m c]] W fun e w' => e = .returned (.int .i64 0) ∧ Below W.heap.size W w')
    (hop : ∀ (k : Nat) W, k ≤ 2000 → (∀ g, g < w.heap.size → W.heap[g]? = w.heap[g]?) → w.heap.size ≤ W.heap.size → Calls Tryz.prog 100 #[.agg #[.int .i64 k0, .int .i64 1, .int .i64 k2, .int .i64 k3, .int .i64 k4, .slice A m c], .int .i64 k] W fun e w' => e = .returned (.tuple #[.int .i64 (opv k).1, .int .i64 (opv k).2]) ∧ Below W.heap.size W w') :
    Calls Tryz.prog 23 #[.agg #[.int .i64 k0, .int .i64 1, .int .i64 k2, .int .i64 k3, .int .i64 k4, .slice A m c], .slice B n cb] w (OwnRes w (resOut (outF 1 xs) (posOut opv (64 * ((n : Int) - 1)))).2 (resOut (outF 1 xs) (posOut opv (64 * ((n : Int) - 1)))).1) := by
  obtain ⟨hn4, hxs⟩ := sigE_zero hsig
  have hxl := hx.1
  rw [hxl] at hn4
  have HX := Lib.hid hx
  have HCR := Lib.hid hcr
  have CS : Hid (∀ W, Below w.heap.size w W → Calls Tryz.prog 48 #[.slice B n cb] W fun e w' => e = .returned (.int .i64 0) ∧ Below W.heap.size W w') := fun W hb => by have := checkSignal_any B n cb xs W (hx.below hb) (by omega); rwa [hsig] at this
  have CP : Hid (∀ W, Below w.heap.size w W → Calls Tryz.prog 52 #[.agg #[.int .i64 k0, .int .i64 1, .int .i64 k2, .int .i64 k3, .int .i64 k4, .slice A m c], .int .i64 n] W (OwnRes W (posOut opv (64 * ((n : Int) - 1))).2 (posOut opv (64 * ((n : Int) - 1))).1)) := fun W hb =>
    PositionsOf_ok k0 1 k2 k3 k4 A m c n opv W hn4 (fun W' hb' => hcr W' (hb.trans (hb'.mono hb.size))) (fun k W' hk h1 h2 => hop k W' hk (fun g hg => (h1 g (by have := hb.size; omega)).trans (hb.block g hg)) (by have := hb.size; omega))
  have C1 := Lib.hid (fun w => itpOf_1 w)
  have HQ : Hid (∀ q ∈ (posOut opv (64 * ((n : Int) - 1))).1, 0 < n ∧ 0 ≤ q ∧ q ≤ 100000000) := by
    intro q hq
    obtain ⟨h1, k, rfl⟩ := posOut_mem hq
    have := hpos k
    omega
  have CO : Hid (∀ q W, 0 < n → Below w.heap.size w W → 0 ≤ q ∧ q ≤ 100000000 → Calls Tryz.prog 53 #[itp1, .slice B n cb, .int .i64 q] W fun e w' => e = .returned (.int .i64 (outF 1 xs q)) ∧ Below W.heap.size W w') := fun q W h0 hb hq => out1_any B n cb xs q W (hx.below hb) (by omega) hxs hq
  have HLEN : Hid ((posOut opv (64 * ((n : Int) - 1))).1.length ≤ 2001) := by
    show _ ≤ _
    unfold posOut
    split
    · simp
    · simp only [List.length_map, List.length_range]
      have key : ∀ (f k0 : Nat), stopAt opv (64 * ((n : Int) - 1)) k0 f ≤ k0 + f := by
        intro f
        induction f with
        | zero => intro k0; unfold stopAt; omega
        | succ f ih =>
          intro k0
          unfold stopAt
          split
          · have := ih (k0 + 1); omega
          · omega
      have := key 2001 0
      omega
  clear hx hcr hop hxs hsig hpos hxl
  obtain ⟨⟨ps, E⟩, hps⟩ : ∃ p, posOut opv (64 * ((n : Int) - 1)) = p := ⟨_, rfl⟩
  rw [hps] at CP HQ HLEN ⊢
  dsimp only at CP HQ HLEN
  clear hps
  unfold itp1 at C1 CO
  go_enter Tryz.func23, Tryz.ntmps23
  go_wp2_with fail
  refine (HCR.out _ (by go_grown)).mono ?_
  rintro e w1 ⟨rfl, hb1⟩
  have R1 := Lib.hid (OneB.later hb1 (OneB.start w 26 #[.int .i64 k0, .int .i64 1, .int .i64 k2, .int .i64 k3, .int .i64 k4, .slice A m c]))
  clear hb1
  go_wp2_with fail
  refine (CS.out _ R1.out.b).mono ?_
  rintro e w2 ⟨rfl, hb2⟩
  have R2 := Lib.hid ((OneB.later hb2 R1.out).alloc (.cells #[.int .i64 0, .int .i64 0] 37))
  clear hb2 R1
  go_wp2_with fail
  refine (firstError2 (E1 := 0) (E2 := 0) (F := 0) rfl _ _ ?_ ?_).mono ?_
  · simp [go_sem]
  · simp [go_sem]
  rintro e w' ⟨rfl, rfl⟩
  obtain ⟨W3, hW3⟩ : ∃ W3, w2.alloc (.cells #[.int .i64 0, .int .i64 0] 37) = W3 := ⟨_, rfl⟩
  rw [hW3] at R2 ⊢
  clear hW3
  obtain ⟨c0, c1, c2, c3, c4, c5⟩ := R2.out.six
  go_wp2_with fail
  refine (CP.out _ R2.out.b).mono ?_
  rintro e w4 ⟨⟨v, rfl, hrow⟩, hb4⟩
  have R4 := Lib.hid (OneB.later hb4 R2.out)
  obtain ⟨A', c', rfl, hnc, hrd⟩ := rd_of_own hrow
  have HP := Lib.hid hrd
  clear hb4 hrow R2 c0 c1 c2 c3 c4 c5 CP hrd
  obtain ⟨c0, c1, c2, c3, c4, c5⟩ := R4.out.six
  go_wp2_with fail
  refine (C1.out _).mono ?_
  rintro e w5 ⟨rfl, hb5⟩
  have R5 := Lib.hid ((OneB.later hb5 R4.out).alloc (.cells #[.int .i64 1, .int .i64 0, .int .i64 64, .func (.func 76) #[] #[], .int .i64 8192, .func (.func 77) #[] #[]] 90))
  have HP5 := Lib.hid ((HP.out.below hb5).below (below1 w5 (.cells #[.int .i64 1, .int .i64 0, .int .i64 64, .func (.func 76) #[] #[], .int .i64 8192, .func (.func 77) #[] #[]] 90)))
  have KI := Lib.hid (Bk.new w5 90 #[.int .i64 1, .int .i64 0, .int .i64 64, .func (.func 76) #[] #[], .int .i64 8192, .func (.func 77) #[] #[]])
  have hz5 : w5.heap.size < (w5.alloc (.cells #[.int .i64 1, .int .i64 0, .int .i64 64, .func (.func 76) #[] #[], .int .i64 8192, .func (.func 77) #[] #[]] 90)).heap.size := by simp
  clear hb5 R4 HP c0 c1 c2 c3 c4 c5 C1
  go_wp2_with fail
  have hE0 : firstNZ [E, 0] = E := by by_cases h : E = 0 <;> simp [firstNZ, h]
  refine (firstError2 (E1 := E) (E2 := 0) (F := E) hE0 _ _ ?_ ?_).mono ?_
  · simp [go_sem]
  · simp [go_sem]
  clear hE0
  rintro e w' ⟨rfl, rfl⟩
  have R6 := Lib.hid (R5.out.alloc (.cells #[.int .i64 E, .int .i64 0] 37))
  have HP6 := Lib.hid (HP5.out.below (below1 (w5.alloc (.cells #[.int .i64 1, .int .i64 0, .int .i64 64, .func (.func 76) #[] #[], .int .i64 8192, .func (.func 77) #[] #[]] 90)) (.cells #[.int .i64 E, .int .i64 0] 37)))
  have K6 := Lib.hid (KI.out.alloc (.cells #[.int .i64 E, .int .i64 0] 37))
  have HX6 := Lib.hid (HX.out.below R6.out.b)
  have hz6 : w5.heap.size < ((w5.alloc (.cells #[.int .i64 1, .int .i64 0, .int .i64 64, .func (.func 76) #[] #[], .int .i64 8192, .func (.func 77) #[] #[]] 90)).alloc (.cells #[.int .i64 E, .int .i64 0] 37)).heap.size := by simp; omega
  clear R5 HP5 KI hz5
  obtain ⟨W6, hW6⟩ : ∃ W6, (w5.alloc (.cells #[.int .i64 1, .int .i64 0, .int .i64 64, .func (.func 76) #[] #[], .int .i64 8192, .func (.func 77) #[] #[]] 90)).alloc (.cells #[.int .i64 E, .int .i64 0] 37) = W6 := ⟨_, rfl⟩
  rw [hW6] at R6 HP6 K6 HX6 hz6 ⊢
  clear hW6
  have HB6 : Hid (Below w.heap.size w W6) := R6.out.b
  have hzw : w.heap.size ≤ W6.heap.size := HB6.out.size
  obtain ⟨g5, hg5⟩ : ∃ g, w5.heap.size = g := ⟨_, rfl⟩
  rw [hg5] at K6 hz6 ⊢
  clear R6 hg5
  by_cases hE : E = 0
  · subst hE
    have HRES : Hid (resOut (outF 1 xs) (ps, 0) = (ps.map (outF 1 xs), 0)) := by show _ = _; simp [resOut]
    obtain ⟨i0, hi0, hza, hzb, hzc⟩ := info_parts intInfo'
    go_wp2
    go_loopw [12, 46] (fun p i wr => ∃ k : Nat, k ≤ ps.length ∧ i = .int .i64 k ∧ Hid (wr.ownsRow W6.heap.size 3 1 p k (((ps.take k).map (outF 1 xs)).map (Value.int .i64))) ∧ Hid (Below W6.heap.size W6 wr)) (fun _ i _ => ps.length - (intOf i).toNat)
    case atStart => exact ⟨0, Nat.zero_le _, rfl, Lib.hid (World.ownsRow_nil _ _ _ _), Lib.hid (Below.refl _ _)⟩
    case round =>
      obtain ⟨k, hk, rfl, HI, HB⟩ := hrel
      obtain ⟨A2, cap2, hp, _, _⟩ := rd_of_own HI.out
      subst hp
      by_cases hlt : k < ps.length
      · have hkI : (k : Int) < (ps.length : Int) := by omega
        have hk0 : (0 : Int) ≤ (k : Int) := by omega
        obtain ⟨ad, rfl, hadb, hca⟩ := HP6.out.2 (by omega)
        have hck : wr.cell? (ad.add k) = some (.int .i64 (ps.getD k 0)) := (HB.out.cell (by rw [addBlock]; exact hadb)).trans (hca k hlt)
        clear hca
        have HSN : Hid (ps.take (k + 1) = ps.take k ++ [ps.getD k 0]) := take_snoc hlt
        have hqm := HQ.out (ps.getD k 0) (by rw [List.getD_eq_getElem?_getD, List.getElem?_eq_getElem hlt]; simp)
        obtain ⟨q, hq⟩ : ∃ q, ps.getD k 0 = q := ⟨_, rfl⟩
        rw [hq] at hck hqm HSN
        clear hq
        have KW : Hid (Bk wr g5 90 #[.int .i64 1, .int .i64 0, .int .i64 64, .func (.func 76) #[] #[], .int .i64 8192, .func (.func 77) #[] #[]]) := K6.out.later HB.out
        obtain ⟨c0, c1, c2, c3, c4, c5⟩ := bk6 KW.out
        have hBw : Hid (Below w.heap.size w wr) := HB6.out.trans (HB.out.mono hzw)
        go_wp2_with fail
        refine (CO.out q _ hqm.1 hBw.out hqm.2).mono ?_
        rintro e w7 ⟨rfl, hb7⟩
        have HI7 : Hid (w7.ownsRow W6.heap.size 3 1 (.slice A2 k cap2) k (((ps.take k).map (outF 1 xs)).map (Value.int .i64))) := ownBelow HI.out hb7
        have HB7 : Hid (Below W6.heap.size W6 w7) := HB.out.trans (hb7.mono HB.out.size)
        clear hb7 c0 c1 c2 c3 c4 c5 hck KW hBw
        have hlen := HLEN.out
        have hsz7 := HB7.out.size
        obtain ⟨y, hy⟩ : ∃ y, outF 1 xs q = y := ⟨_, rfl⟩
        have HY := Lib.hid hy
        rw [hy]
        clear hy
        go_wp2_with (at_builtin; refine wpList_append_own _ rfl (.tmp 50) (.tmp 55) 27 rfl W6.heap.size 3 i0 _ 1 8 Tryz.underlying27 hi0 hza hzb hzc rfl (by decide) _ _ _ rfl (HI7.out.alloc _) ⟨w7.heap.size, 0, none⟩ 1 1 [.int .i64 y] rfl rfl (cell_one_new _ _ _) (by simp [Value.oneCell']) (by unfold maxLen; omega) (by omega) (by simp; omega) ?_)
        intro v' w8 hown' hgrow _
        have HF : Hid (w8.ownsRow W6.heap.size 3 1 v' (k + 1) (((ps.take (k + 1)).map (outF 1 xs)).map (Value.int .i64))) := by
          refine Lib.hid ?_
          rw [HSN.out, List.map_append, List.map_append]
          simpa [HY.out] using hown'
        have HG : Hid (Below W6.heap.size W6 w8) := (HB7.out.alloc hsz7 _).grown hgrow (by simp; omega) (fun z e => (HI7.out.lt z e).1)
        clear hown' hgrow
        go_wp2
        go_roundw
        case rel => exact ⟨k + 1, by omega, by go_num, HF, HG⟩
        case measure => simp [intOf]; omega
      · obtain rfl : k = ps.length := by omega
        go_wp2
        go_ret2
        have h1 := ownMono HI.out hzw
        rw [List.take_length] at h1
        exact OwnRes.mk' HRES.out rfl (by rw [List.length_map]; exact h1) (HB6.out.trans (HB.out.mono hzw))
  · have HRES : Hid (resOut (outF 1 xs) (ps, E) = ([], E)) := by show _ = _; simp [resOut, hE]
    go_wp2
    go_ret2
    exact OwnRes.mk' HRES.out rfl (World.ownsRow_nil _ _ _ _) HB6.out

set_option maxRecDepth 100000 in
set_option maxHeartbeats 4000000 in
theorem Resampled3_ok (k0 k2 k3 k4 : Int) (A : Option Addr) (m c : Nat) (B : Option Addr) (n cb : Nat) (xs : List Int) (opv : Nat → Int × Int) (w : World) (hx : RdI w B n xs) (hsig : sigE xs = 0) (hpos : ∀ k, 0 ≤ (opv k).1)
    (hcr : ∀ W, Below w.heap.size w W → Calls Tryz.prog 34 #[.agg #[.int .i64 k0, .int .i64 3, .int .i64 k2, .int .i64 k3, .int .i64 k4, .slice A m c]] W fun e w' => e = .returned (.int .i64 0) ∧ Below W.heap.size W w')
    (hop : ∀ (k : Nat) W, k ≤ 2000 → (∀ g, g < w.heap.size → W.heap[g]? = w.heap[g]?) → w.heap.size ≤ W.heap.size → Calls Tryz.prog 100 #[.agg #[.int .i64 k0, .int .i64 3, .int .i64 k2, .int .i64 k3, .int .i64 k4, .slice A m c], .int .i64 k] W fun e w' => e = .returned (.tuple #[.int .i64 (opv k).1, .int .i64 (opv k).2]) ∧ Below W.heap.size W w') :
    Calls Tryz.prog 23 #[.agg #[.int .i64 k0, .int .i64 3, .int .i64 k2, .int .i64 k3, .int .i64 k4, .slice A m c], .slice B n cb] w (OwnRes w (resOut (outF 3 xs) (posOut opv (64 * ((n : Int) - 1)))).2 (resOut (outF 3 xs) (posOut opv (64 * ((n : Int) - 1)))).1) := by
  obtain ⟨hn4, hxs⟩ := sigE_zero hsig
  have hxl := hx.1
  rw [hxl] at hn4
  have HX := Lib.hid hx
  have HCR := Lib.hid hcr
  have CS : Hid (∀ W, Below w.heap.size w W → Calls Tryz.prog 48 #[.slice B n cb] W fun e w' => e = .returned (.int .i64 0) ∧ Below W.heap.size W w') := fun W hb => by have := checkSignal_any B n cb xs W (hx.below hb) (by omega); rwa [hsig] at this
  have CP : Hid (∀ W, Below w.heap.size w W → Calls Tryz.prog 52 #[.agg #[.int .i64 k0, .int .i64 3, .int .i64 k2, .int .i64 k3, .int .i64 k4, .slice A m c], .int .i64 n] W (OwnRes W (posOut opv (64 * ((n : Int) - 1))).2 (posOut opv (64 * ((n : Int) - 1))).1)) := fun W hb =>
    PositionsOf_ok k0 3 k2 k3 k4 A m c n opv W hn4 (fun W' hb' => hcr W' (hb.trans (hb'.mono hb.size))) (fun k W' hk h1 h2 => hop k W' hk (fun g hg => (h1 g (by have := hb.size; omega)).trans (hb.block g hg)) (by have := hb.size; omega))
  have C1 := Lib.hid (fun w => itpOf_3 w)
  have HQ : Hid (∀ q ∈ (posOut opv (64 * ((n : Int) - 1))).1, 0 < n ∧ 0 ≤ q ∧ q ≤ 100000000) := by
    intro q hq
    obtain ⟨h1, k, rfl⟩ := posOut_mem hq
    have := hpos k
    omega
  have CO : Hid (∀ q W, 0 < n → Below w.heap.size w W → 0 ≤ q ∧ q ≤ 100000000 → Calls Tryz.prog 53 #[itp3, .slice B n cb, .int .i64 q] W fun e w' => e = .returned (.int .i64 (outF 3 xs q)) ∧ Below W.heap.size W w') := fun q W h0 hb hq => out3_any B n cb xs q W (hx.below hb) (by omega) hxs hq
  have HLEN : Hid ((posOut opv (64 * ((n : Int) - 1))).1.length ≤ 2001) := by
    show _ ≤ _
    unfold posOut
    split
    · simp
    · simp only [List.length_map, List.length_range]
      have key : ∀ (f k0 : Nat), stopAt opv (64 * ((n : Int) - 1)) k0 f ≤ k0 + f := by
        intro f
        induction f with
        | zero => intro k0; unfold stopAt; omega
        | succ f ih =>
          intro k0
          unfold stopAt
          split
          · have := ih (k0 + 1); omega
          · omega
      have := key 2001 0
      omega
  clear hx hcr hop hxs hsig hpos hxl
  obtain ⟨⟨ps, E⟩, hps⟩ : ∃ p, posOut opv (64 * ((n : Int) - 1)) = p := ⟨_, rfl⟩
  rw [hps] at CP HQ HLEN ⊢
  dsimp only at CP HQ HLEN
  clear hps
  unfold itp3 at C1 CO
  go_enter Tryz.func23, Tryz.ntmps23
  go_wp2_with fail
  refine (HCR.out _ (by go_grown)).mono ?_
  rintro e w1 ⟨rfl, hb1⟩
  have R1 := Lib.hid (OneB.later hb1 (OneB.start w 26 #[.int .i64 k0, .int .i64 3, .int .i64 k2, .int .i64 k3, .int .i64 k4, .slice A m c]))
  clear hb1
  go_wp2_with fail
  refine (CS.out _ R1.out.b).mono ?_
  rintro e w2 ⟨rfl, hb2⟩
  have R2 := Lib.hid ((OneB.later hb2 R1.out).alloc (.cells #[.int .i64 0, .int .i64 0] 37))
  clear hb2 R1
  go_wp2_with fail
  refine (firstError2 (E1 := 0) (E2 := 0) (F := 0) rfl _ _ ?_ ?_).mono ?_
  · simp [go_sem]
  · simp [go_sem]
  rintro e w' ⟨rfl, rfl⟩
  obtain ⟨W3, hW3⟩ : ∃ W3, w2.alloc (.cells #[.int .i64 0, .int .i64 0] 37) = W3 := ⟨_, rfl⟩
  rw [hW3] at R2 ⊢
  clear hW3
  obtain ⟨c0, c1, c2, c3, c4, c5⟩ := R2.out.six
  go_wp2_with fail
  refine (CP.out _ R2.out.b).mono ?_
  rintro e w4 ⟨⟨v, rfl, hrow⟩, hb4⟩
  have R4 := Lib.hid (OneB.later hb4 R2.out)
  obtain ⟨A', c', rfl, hnc, hrd⟩ := rd_of_own hrow
  have HP := Lib.hid hrd
  clear hb4 hrow R2 c0 c1 c2 c3 c4 c5 CP hrd
  obtain ⟨c0, c1, c2, c3, c4, c5⟩ := R4.out.six
  go_wp2_with fail
  refine (C1.out _).mono ?_
  rintro e w5 ⟨rfl, hb5⟩
  have R5 := Lib.hid ((OneB.later hb5 R4.out).alloc (.cells #[.int .i64 3, .int .i64 1, .int .i64 1572864, .func (.func 78) #[] #[], .int .i64 402653184, .func (.func 79) #[] #[]] 90))
  have HP5 := Lib.hid ((HP.out.below hb5).below (below1 w5 (.cells #[.int .i64 3, .int .i64 1, .int .i64 1572864, .func (.func 78) #[] #[], .int .i64 402653184, .func (.func 79) #[] #[]] 90)))
  have KI := Lib.hid (Bk.new w5 90 #[.int .i64 3, .int .i64 1, .int .i64 1572864, .func (.func 78) #[] #[], .int .i64 402653184, .func (.func 79) #[] #[]])
  have hz5 : w5.heap.size < (w5.alloc (.cells #[.int .i64 3, .int .i64 1, .int .i64 1572864, .func (.func 78) #[] #[], .int .i64 402653184, .func (.func 79) #[] #[]] 90)).heap.size := by simp
  clear hb5 R4 HP c0 c1 c2 c3 c4 c5 C1
  go_wp2_with fail
  have hE0 : firstNZ [E, 0] = E := by by_cases h : E = 0 <;> simp [firstNZ, h]
  refine (firstError2 (E1 := E) (E2 := 0) (F := E) hE0 _ _ ?_ ?_).mono ?_
  · simp [go_sem]
  · simp [go_sem]
  clear hE0
  rintro e w' ⟨rfl, rfl⟩
  have R6 := Lib.hid (R5.out.alloc (.cells #[.int .i64 E, .int .i64 0] 37))
  have HP6 := Lib.hid (HP5.out.below (below1 (w5.alloc (.cells #[.int .i64 3, .int .i64 1, .int .i64 1572864, .func (.func 78) #[] #[], .int .i64 402653184, .func (.func 79) #[] #[]] 90)) (.cells #[.int .i64 E, .int .i64 0] 37)))
  have K6 := Lib.hid (KI.out.alloc (.cells #[.int .i64 E, .int .i64 0] 37))
  have HX6 := Lib.hid (HX.out.below R6.out.b)
  have hz6 : w5.heap.size < ((w5.alloc (.cells #[.int .i64 3, .int .i64 1, .int .i64 1572864, .func (.func 78) #[] #[], .int .i64 402653184, .func (.func 79) #[] #[]] 90)).alloc (.cells #[.int .i64 E, .int .i64 0] 37)).heap.size := by simp; omega
  clear R5 HP5 KI hz5
  obtain ⟨W6, hW6⟩ : ∃ W6, (w5.alloc (.cells #[.int .i64 3, .int .i64 1, .int .i64 1572864, .func (.func 78) #[] #[], .int .i64 402653184, .func (.func 79) #[] #[]] 90)).alloc (.cells #[.int .i64 E, .int .i64 0] 37) = W6 := ⟨_, rfl⟩
  rw [hW6] at R6 HP6 K6 HX6 hz6 ⊢
  clear hW6
  have HB6 : Hid (Below w.heap.size w W6) := R6.out.b
  have hzw : w.heap.size ≤ W6.heap.size := HB6.out.size
  obtain ⟨g5, hg5⟩ : ∃ g, w5.heap.size = g := ⟨_, rfl⟩
  rw [hg5] at K6 hz6 ⊢
  clear R6 hg5
  by_cases hE : E = 0
  · subst hE
    have HRES : Hid (resOut (outF 3 xs) (ps, 0) = (ps.map (outF 3 xs), 0)) := by show _ = _; simp [resOut]
    obtain ⟨i0, hi0, hza, hzb, hzc⟩ := info_parts intInfo'
    go_wp2
    go_loopw [12, 46] (fun p i wr => ∃ k : Nat, k ≤ ps.length ∧ i = .int .i64 k ∧ Hid (wr.ownsRow W6.heap.size 3 1 p k (((ps.take k).map (outF 3 xs)).map (Value.int .i64))) ∧ Hid (Below W6.heap.size W6 wr)) (fun _ i _ => ps.length - (intOf i).toNat)
    case atStart => exact ⟨0, Nat.zero_le _, rfl, Lib.hid (World.ownsRow_nil _ _ _ _), Lib.hid (Below.refl _ _)⟩
    case round =>
      obtain ⟨k, hk, rfl, HI, HB⟩ := hrel
      obtain ⟨A2, cap2, hp, _, _⟩ := rd_of_own HI.out
      subst hp
      by_cases hlt : k < ps.length
      · have hkI : (k : Int) < (ps.length : Int) := by omega
        have hk0 : (0 : Int) ≤ (k : Int) := by omega
        obtain ⟨ad, rfl, hadb, hca⟩ := HP6.out.2 (by omega)
        have hck : wr.cell? (ad.add k) = some (.int .i64 (ps.getD k 0)) := (HB.out.cell (by rw [addBlock]; exact hadb)).trans (hca k hlt)
        clear hca
        have HSN : Hid (ps.take (k + 1) = ps.take k ++ [ps.getD k 0]) := take_snoc hlt
        have hqm := HQ.out (ps.getD k 0) (by rw [List.getD_eq_getElem?_getD, List.getElem?_eq_getElem hlt]; simp)
        obtain ⟨q, hq⟩ : ∃ q, ps.getD k 0 = q := ⟨_, rfl⟩
        rw [hq] at hck hqm HSN
        clear hq
        have KW : Hid (Bk wr g5 90 #[.int .i64 3, .int .i64 1, .int .i64 1572864, .func (.func 78) #[] #[], .int .i64 402653184, .func (.func 79) #[] #[]]) := K6.out.later HB.out
        obtain ⟨c0, c1, c2, c3, c4, c5⟩ := bk6 KW.out
        have hBw : Hid (Below w.heap.size w wr) := HB6.out.trans (HB.out.mono hzw)
        go_wp2_with fail
        refine (CO.out q _ hqm.1 hBw.out hqm.2).mono ?_
        rintro e w7 ⟨rfl, hb7⟩
        have HI7 : Hid (w7.ownsRow W6.heap.size 3 1 (.slice A2 k cap2) k (((ps.take k).map (outF 3 xs)).map (Value.int .i64))) := ownBelow HI.out hb7
        have HB7 : Hid (Below W6.heap.size W6 w7) := HB.out.trans (hb7.mono HB.out.size)
        clear hb7 c0 c1 c2 c3 c4 c5 hck KW hBw
        have hlen := HLEN.out
        have hsz7 := HB7.out.size
        obtain ⟨y, hy⟩ : ∃ y, outF 3 xs q = y := ⟨_, rfl⟩
        have HY := Lib.hid hy
        rw [hy]
        clear hy
        go_wp2_with (at_builtin; refine wpList_append_own _ rfl (.tmp 50) (.tmp 55) 27 rfl W6.heap.size 3 i0 _ 1 8 Tryz.underlying27 hi0 hza hzb hzc rfl (by decide) _ _ _ rfl (HI7.out.alloc _) ⟨w7.heap.size, 0, none⟩ 1 1 [.int .i64 y] rfl rfl (cell_one_new _ _ _) (by simp [Value.oneCell']) (by unfold maxLen; omega) (by omega) (by simp; omega) ?_)
        intro v' w8 hown' hgrow _
        have HF : Hid (w8.ownsRow W6.heap.size 3 1 v' (k + 1) (((ps.take (k + 1)).map (outF 3 xs)).map (Value.int .i64))) := by
          refine Lib.hid ?_
          rw [HSN.out, List.map_append, List.map_append]
          simpa [HY.out] using hown'
        have HG : Hid (Below W6.heap.size W6 w8) := (HB7.out.alloc hsz7 _).grown hgrow (by simp; omega) (fun z e => (HI7.out.lt z e).1)
        clear hown' hgrow
        go_wp2
        go_roundw
        case rel => exact ⟨k + 1, by omega, by go_num, HF, HG⟩
        case measure => simp [intOf]; omega
      · obtain rfl : k = ps.length := by omega
        go_wp2
        go_ret2
        have h1 := ownMono HI.out hzw
        rw [List.take_length] at h1
        exact OwnRes.mk' HRES.out rfl (by rw [List.length_map]; exact h1) (HB6.out.trans (HB.out.mono hzw))
  · have HRES : Hid (resOut (outF 3 xs) (ps, E) = ([], E)) := by show _ = _; simp [resOut, hE]
    go_wp2
    go_ret2
    exact OwnRes.mk' HRES.out rfl (World.ownsRow_nil _ _ _ _) HB6.out

end Go.Proofs.YtjjflbnopphciacGreatDoor


namespace Go.Proofs.YtjjflbnopphciacGreatDoor
open Go.RowKit

set_option maxRecDepth 100000 in
set_option maxHeartbeats 1000000 in
theorem StableBound_any (f s d a : Int) (w : World) :
    Calls Tryz.prog 26 #[.agg #[.int .i64 f, .int .i64 s, .int .i64 d], .int .i64 a] w fun e w' => e = .returned (.tuple #[.int .i64 (stbN f s d a), .int .i64 (stbE f s d a)]) ∧ Below w.heap.size w w' := by
  have HE : Hid (stbE f s d a = if eqaE f s d a = 0 then (if d - strF f s ≤ 0 then 22 else 0) else eqaE f s d a) := rfl
  have HN : Hid (stbN f s d a = if stbE f s d a = 0 then upF (a * d) (d - strF f s) else 0) := rfl
  have hz := fun h : eqaE f s d a = 0 => eqaE_zero h
  have C1 := Lib.hid (fun w => CheckEqualizer_any f s d w)
  have C2 := Lib.hid (fun w => checkAmplitude_any a w)
  have CF : Hid (∀ {F : Int} (_ : eqaE f s d a = F) (W : World) (g : Nat) (_ : W.cell? ⟨g, 0, none⟩ = some (.int .i64 (eqzE f s d))) (_ : W.cell? ⟨g, 1, none⟩ = some (.int .i64 (ampE a))), Calls Tryz.prog 33 #[.slice (some ⟨g, 0, none⟩) 2 2] W fun e w' => e = .returned (.int .i64 F) ∧ W = w') := fun h W g h0 h1 => firstError2 h W g h0 h1
  obtain ⟨F, hF⟩ : ∃ F, eqaE f s d a = F := ⟨_, rfl⟩
  have CF' := Lib.hid (CF.out hF)
  rw [hF] at hz HE
  clear hF CF
  obtain ⟨E1, hE1⟩ : ∃ E, eqzE f s d = E := ⟨_, rfl⟩
  obtain ⟨E2, hE2⟩ : ∃ E, ampE a = E := ⟨_, rfl⟩
  rw [hE1] at C1 CF'
  rw [hE2] at C2 CF'
  clear hE1 hE2
  go_enter Tryz.func26, Tryz.ntmps26
  go_wp2_with fail
  refine (C1.out _).mono ?_
  rintro e w1 ⟨rfl, hb1⟩
  have K1 := Lib.hid ((Bk.new w 64 #[.int .i64 f, .int .i64 s, .int .i64 d]).below hb1 (by simp))
  have B1 := Lib.hid (((Below.refl w.heap.size w).alloc (Nat.le_refl _) _).trans (hb1.mono (by simp)))
  clear hb1
  go_wp2_with fail
  refine (C2.out _).mono ?_
  rintro e w2 ⟨rfl, hb2⟩
  have K2 := Lib.hid ((K1.out.later hb2).alloc (.cells #[.int .i64 E1, .int .i64 E2] 37))
  have B2 := Lib.hid (B1.out.trans (hb2.mono B1.out.size))
  clear hb2 K1 B1
  go_wp2_with (go_at_call 33; refine (CF'.out _ _ ?_ ?_).mono ?_; (focus (simp [go_sem])); (focus (simp [go_sem])); rintro e w' ⟨rfl, rfl⟩)
  · go_ret2
    have h0 := ne0_of (F := F) (by assumption)
    refine ⟨retI2 (a := 0) (b := F) ?_ ?_, by exact ((B2.out).alloc (by have := B2.out.size; omega) _)⟩
    · rw [HN.out, HE.out, if_neg h0, if_neg h0]
    · rw [HE.out, if_neg h0]
  · have h0 := eq0_of (F := F) (by assumption)
    subst h0
    have hz1 := hz rfl
    have ht2 := strF_bd hz1.1 hz1.2.1
    have hmd := mul_bd (a := a) (b := d) (A := 32767) (B := 1000) (by omega) (by omega) (by omega) (by omega)
    have CS := Lib.hid (fun w => strength_any f s d w hz1.1 hz1.2.1)
    have hzd := hz1.2.2.1
    clear hz hz1
    obtain ⟨t, ht⟩ : ∃ t, strF f s = t := ⟨_, rfl⟩
    rw [ht] at CS HE HN ht2
    have hw1 : IntKind.i64.wrap (d - t) = d - t := IntWalk.i64_in _ (by omega)
    have hw2 : IntKind.i64.wrap (a * d) = a * d := IntWalk.i64_in _ (by omega)
    clear ht
    obtain ⟨d0, d1, d2⟩ := bk3 K2.out
    go_region_held3 (fun w' : World => w'.cell? ⟨w.heap.size, 0, none⟩ = some (.int .i64 f) ∧ w'.cell? ⟨w.heap.size, 1, none⟩ = some (.int .i64 s) ∧ w'.cell? ⟨w.heap.size, 2, none⟩ = some (.int .i64 d)) ((go_split_ands; simp [go_sem, *])) ((go_at_call 58; refine (CS.out _).mono ?_; rintro e w3 ⟨rfl, hb3⟩; have K3 := (K2.out.drew).later hb3; obtain ⟨d0, d1, d2⟩ := bk3 K3))
    all_goals
      have BW : Hid (Below w.heap.size w w3) := Lib.hid (((B2.out).alloc (by have := B2.out.size; omega) _).drew.trans (hb3.mono (by have := B2.out.size; simp; omega)))
      clear hb3 K3 B2 K2
      go_wp2_with (go_at_call 59; refine (up_any _ _ (by omega) (by omega) _).mono ?_; rintro e w' ⟨rfl, rfl⟩)
      · go_ret2
        have h0 : d - t ≤ 0 := by assumption
        exact ⟨retI2 (a := 0) (b := 22) (by rw [HN.out, HE.out]; simp [h0]) (by rw [HE.out]; simp [h0]), BW.out⟩
      · go_ret2
        have h0 : ¬ d - t ≤ 0 := by omega
        exact ⟨retI2 (a := upF (a * d) (d - t)) (b := 0) (by rw [HN.out, HE.out]; simp [h0]) (by rw [HE.out]; simp [h0]), BW.out⟩

def bndE (b : Int) : Int := rngE 0 1000000000000000 [b]
def chbE (f s d a b : Int) : Int := firstNZ [eqzE f s d, ampE a, bndE b]
def isB (f s d a b : Int) : Bool := decide (a + upF (strF f s * b) d ≤ b)
def ckbE (f s d a b : Int) : Int := if chbE f s d a b = 0 then (if isB f s d a b = true then 0 else 19) else chbE f s d a b
theorem chbE_zero {f s d a b : Int} (h : chbE f s d a b = 0) : (-1000 ≤ f ∧ f ≤ 1000) ∧ (-1000 ≤ s ∧ s ≤ 1000) ∧ (1 ≤ d ∧ d ≤ 1000) ∧ (0 ≤ a ∧ a ≤ 32767) ∧ 0 ≤ b ∧ b ≤ 1000000000000000 := by
  have h1 := eqzE_zero (firstNZ_zero h (eqzE f s d) (by simp))
  have h2 := ampE_zero (firstNZ_zero h (ampE a) (by simp))
  have h3 : 0 ≤ b ∧ b ≤ 1000000000000000 := rngE_zero (firstNZ_zero h (bndE b) (by simp))
  exact ⟨h1.1, h1.2.1, h1.2.2, h2, h3⟩
end Go.Proofs.YtjjflbnopphciacGreatDoor


namespace Go.Proofs.YtjjflbnopphciacGreatDoor
open Go.RowKit

def sg : List Int := [0, 10, 20, 40]
def cv : List (Int × Int) := [(0, 0), (2, 20), (3, 40)]
def wn : List Int := [0, 5, 10, 15, 20, 25, 30, 35, 40]
theorem v_val : valN 3 sg 96 = 22609920 ∧ valD 3 sg 96 = 1572864 ∧ valE 3 sg 96 = 0 := by decide +kernel
theorem v_sig : sigE sg = 0 := by decide +kernel
theorem v_rm : rmE 5 cv = 0 := by decide +kernel
theorem v_res : resOut (outF 1 sg) (posOut (opR1 5 cv) (64 * (((4 : Nat) : Int) - 1))) = (wn, 0) := by decide +kernel
theorem v_max : frN (mxR 3 64) 402653184 = 3 ∧ frD (mxR 3 64) 402653184 = 128 := by decide +kernel
theorem v_stb : stbN 1 0 2 100 = 200 ∧ stbE 1 0 2 100 = 0 := by decide +kernel
theorem v_pos0 (k : Nat) : 0 ≤ (opR1 5 cv k).1 := by
  by_cases hk : k ≤ 8
  · rcases (by omega : k = 0 ∨ k = 1 ∨ k = 2 ∨ k = 3 ∨ k = 4 ∨ k = 5 ∨ k = 6 ∨ k = 7 ∨ k = 8) with rfl | rfl | rfl | rfl | rfl | rfl | rfl | rfl | rfl <;> decide +kernel
  · have h : findP ((cv.getD 0 (0, 0)).2 + (k : Int) * 5) cv 0 (cv.length - 1) = none := by
      refine findP_none fun x _ hx => ?_
      simp [cv] at hx
      rcases (by omega : x = 0 ∨ x = 1) with rfl | rfl
      · simp [holdsT, cv]; omega
      · simp [holdsT, cv]; omega
    unfold opR1 posR
    rw [h]
    split <;> simp
theorem RdN.heap {w W : World} {A : Option Addr} {n : Nat} {ns : List (Int × Int)} (h : RdN w A n ns) (h1 : ∀ g, g < w.heap.size → W.heap[g]? = w.heap[g]?) (h2 : w.heap.size ≤ W.heap.size) : RdN W A n ns := by
  refine ⟨h.1, fun h0 => ?_⟩
  obtain ⟨g, e, hlt, hc⟩ := h.2 h0
  have hb : Below w.heap.size w { w with heap := W.heap } := ⟨rfl, rfl, rfl, h2, h1⟩
  exact ⟨g, e, Nat.lt_of_lt_of_le hlt h2, fun j hj => ⟨(hb.cell (p := ⟨g, j * 2, none⟩) hlt).trans (hc j hj).1, (hb.cell (p := ⟨g, j * 2 + 1, none⟩) hlt).trans (hc j hj).2⟩⟩
set_option maxRecDepth 100000 in
theorem Signal_any (w : World) : Calls Tryz.prog 22 #[] w fun e w' => (∃ B, e = .returned (.slice (some ⟨B, 0, none⟩) 4 4) ∧ RdI w' (some ⟨B, 0, none⟩) 4 sg) ∧ Below w.heap.size w w' := by
  go_enter Tryz.func22, Tryz.ntmps22
  go_wp2
  go_ret
  exact ⟨⟨w.heap.size, rfl, lit4 _ _ _ _ _ _ (by simp [go_sem]) (by simp [go_sem]) (by simp [go_sem]) (by simp [go_sem])⟩, below1 _ _⟩
set_option maxRecDepth 100000 in
theorem Curve_any (w : World) : Calls Tryz.prog 24 #[] w fun e w' => (∃ B, e = .returned (.agg #[.slice (some ⟨B, 0, none⟩) 3 3]) ∧ RdN w' (some ⟨B, 0, none⟩) 3 cv) ∧ Below w.heap.size w w' := by
  go_enter Tryz.func24, Tryz.ntmps24
  go_wp2
  refine bodyPost_ret (v := .agg #[.slice (some ⟨w.heap.size + 1, 0, none⟩) 3 3]) (by simp [results, Tryz.results24, go_sem]) rfl ⟨⟨_, rfl, rfl, fun _ => ⟨_, rfl, by simp, fun j hj => ?_⟩⟩, by go_grown⟩
  rcases (by omega : j = 0 ∨ j = 1 ∨ j = 2) with rfl | rfl | rfl <;> exact ⟨by simp [go_sem, cv], by simp [go_sem, cv]⟩
theorem ex_value (B : Nat) (w : World) (h : RdI w (some ⟨B, 0, none⟩) 4 sg) : Calls Tryz.prog 21 #[.int .i64 3, .slice (some ⟨B, 0, none⟩) 4 4, .int .i64 96] w fun e w' => e = .returned (.tuple #[.int .i64 22609920, .int .i64 1572864, .int .i64 0]) ∧ Below w.heap.size w w' := by
  have := ValueAt_any 3 _ 4 4 sg 96 w h (by omega)
  rwa [v_val.1, v_val.2.1, v_val.2.2] at this
theorem ex_map (B C : Nat) (w : World) (h : RdI w (some ⟨B, 0, none⟩) 4 sg) (hc : RdN w (some ⟨C, 0, none⟩) 3 cv) :
    Calls Tryz.prog 23 #[.agg #[.int .i64 1, .int .i64 1, .int .i64 0, .int .i64 0, .int .i64 5, .slice (some ⟨C, 0, none⟩) 3 3], .slice (some ⟨B, 0, none⟩) 4 4] w fun e w' => (∃ A c, e = .returned (.tuple #[.slice A 9 c, .int .i64 0]) ∧ RdI w' A 9 wn) ∧ Below w.heap.size w w' := by
  refine (Resampled1_ok 1 0 0 5 (some ⟨C, 0, none⟩) 3 3 (some ⟨B, 0, none⟩) 4 4 sg (opR1 5 cv) w h v_sig v_pos0 ?_ ?_).mono ?_
  · intro W hb
    have := CheckRules11_any 5 (some ⟨C, 0, none⟩) 3 3 cv W (hc.below hb) (by omega)
    rwa [v_rm] at this
  · intro k W hk h1 h2
    exact outPos1_any 1 5 (some ⟨C, 0, none⟩) 3 3 cv k W (hc.heap h1 h2) (by omega) (by omega) (by omega) (by decide)
  · rintro e w' ⟨⟨v, rfl, ho⟩, hb⟩
    rw [v_res]
    rw [v_res] at ho
    obtain ⟨A, c, rfl, _, hr⟩ := rd_of_own ho
    exact ⟨⟨A, c, rfl, hr⟩, hb⟩
theorem ex_max (w : World) : Calls Tryz.prog 25 #[.int .i64 3] w fun e w' => e = .returned (.tuple #[.agg #[.int .i64 3, .int .i64 128], .int .i64 0]) ∧ Below w.heap.size w w' := by
  have := MaximumRemainder3_any w
  rwa [v_max.1, v_max.2] at this
theorem ex_stb (w : World) : Calls Tryz.prog 26 #[.agg #[.int .i64 1, .int .i64 0, .int .i64 2], .int .i64 100] w fun e w' => e = .returned (.tuple #[.int .i64 200, .int .i64 0]) ∧ Below w.heap.size w w' := by
  have := StableBound_any 1 0 2 100 w
  rwa [v_stb.1, v_stb.2] at this
set_option maxRecDepth 100000 in
set_option maxHeartbeats 2000000 in
theorem awake_any (w : World) : Calls Tryz.prog 4 #[] w fun e w' => e = .returned (.bool true) ∧ Below w.heap.size w w' := by
  go_enter Tryz.func4, Tryz.ntmps4
  go_wp2_with fail
  refine (Signal_any _).mono ?_
  rintro e w1 ⟨⟨B1, rfl, h1⟩, hb1⟩
  have l1 := Lib.hid hb1
  have C1 := Lib.hid (ex_value B1 w1 h1)
  clear hb1 h1
  go_wp2_with fail
  refine C1.out.mono ?_
  rintro e w2 ⟨rfl, hb2⟩
  have l2 := Lib.hid (l1.out.trans (hb2.mono l1.out.size))
  clear hb2 l1 C1
  go_wp2_with fail
  refine (Curve_any _).mono ?_
  rintro e w3 ⟨⟨C3, rfl, h3⟩, hb3⟩
  have l3 := Lib.hid (l2.out.trans (hb3.mono l2.out.size))
  have R3 := Lib.hid h3
  clear hb3 h3 l2
  go_wp2_with fail
  refine (Signal_any _).mono ?_
  rintro e w4 ⟨⟨B4, rfl, h4⟩, hb4⟩
  have l4 := Lib.hid (l3.out.trans (hb4.mono l3.out.size))
  have C4 := Lib.hid (ex_map B4 C3 w4 h4 (R3.out.below hb4))
  clear hb4 h4 R3 l3
  go_wp2_with fail
  refine C4.out.mono ?_
  rintro e w5 ⟨⟨A5, c5, rfl, h5⟩, hb5⟩
  have l5 := Lib.hid (l4.out.trans (hb5.mono l4.out.size))
  have R5 := Lib.hid h5
  clear hb5 h5 C4 l4
  go_wp2_with fail
  refine (ex_max _).mono ?_
  rintro e w6 ⟨rfl, hb6⟩
  have l6 := Lib.hid ((l5.out.trans (hb6.mono l5.out.size)).alloc (l5.out.trans (hb6.mono l5.out.size)).size (.cells #[.int .i64 3, .int .i64 128] 58))
  have R6 := Lib.hid ((R5.out.below hb6).below (below1 w6 (.cells #[.int .i64 3, .int .i64 128] 58)))
  have K6 := Lib.hid (Bk.new w6 58 #[.int .i64 3, .int .i64 128])
  clear hb6 l5 R5
  go_wp2_with fail
  refine (ex_stb _).mono ?_
  rintro e w7 ⟨rfl, hb7⟩
  have l7 := Lib.hid (l6.out.trans (hb7.mono l6.out.size))
  have R7 := Lib.hid (R6.out.below hb7)
  have K7 := Lib.hid (K6.out.later hb7)
  clear hb7 l6 R6 K6
  obtain ⟨g6, hg6⟩ : ∃ g, w6.heap.size = g := ⟨_, rfl⟩
  rw [hg6] at K7 ⊢
  clear hg6
  have lb9 : Below w7.heap.size w7 (w7.alloc (.cells #[.int .i64 0, .int .i64 5, .int .i64 10, .int .i64 15, .int .i64 20, .int .i64 25, .int .i64 30, .int .i64 35, .int .i64 40] 3)) := below1 _ _
  have lit9 : RdI (w7.alloc (.cells #[.int .i64 0, .int .i64 5, .int .i64 10, .int .i64 15, .int .i64 20, .int .i64 25, .int .i64 30, .int .i64 35, .int .i64 40] 3)) (some ⟨w7.heap.size, 0, none⟩) 9 wn := rd_of_bk (xs := wn) (show Bk (w7.alloc (.cells #[.int .i64 0, .int .i64 5, .int .i64 10, .int .i64 15, .int .i64 20, .int .i64 25, .int .i64 30, .int .i64 35, .int .i64 40] 3)) w7.heap.size 3 (iArr wn) from Bk.new _ _ _) rfl
  have CI9 := Lib.hid (ints_any _ _ 9 9 c5 9 wn wn (w7.alloc (.cells #[.int .i64 0, .int .i64 5, .int .i64 10, .int .i64 15, .int .i64 20, .int .i64 25, .int .i64 30, .int .i64 35, .int .i64 40] 3)) (R7.out.below lb9) lit9 (by omega) (by omega))
  have K9 := Lib.hid (K7.out.later lb9)
  have l9 := Lib.hid (l7.out.trans (lb9.mono l7.out.size))
  clear lb9 lit9 R7 K7 l7
  go_wp2_with fail
  refine CI9.out.mono ?_
  rintro e w' ⟨rfl, kk, rfl⟩
  have l10 := Lib.hid (belowDrewN l9.out kk)
  have K10 := Lib.hid (K9.out.drewN kk)
  obtain ⟨w10, hw10⟩ : ∃ W, (w7.alloc (.cells #[.int .i64 0, .int .i64 5, .int .i64 10, .int .i64 15, .int .i64 20, .int .i64 25, .int .i64 30, .int .i64 35, .int .i64 40] 3)).drewN kk = W := ⟨_, rfl⟩
  rw [hw10] at l10 K10 ⊢
  clear hw10 CI9 K9 l9
  obtain ⟨c0, c1, _, _⟩ := bk2 K10.out
  go_wp2
  go_ret
  exact ⟨rfl, l10.out⟩

end Go.Proofs.YtjjflbnopphciacGreatDoor


namespace Go.Proofs.YtjjflbnopphciacGreatDoor
open Go.RowKit

theorem fromB_one (lo hi n : Int) : fromB lo hi [n] = decide (lo ≤ n ∧ n ≤ hi) := by
  unfold fromB
  by_cases h : lo ≤ n ∧ n ≤ hi
  · rw [decide_eq_true h]; simp [h.1, h.2]
  · rw [decide_eq_false h]; simp; omega
end Go.Proofs.YtjjflbnopphciacGreatDoor


namespace Go.Proofs.YtjjflbnopphciacGreatDoor
open Go.RowKit

end Go.Proofs.YtjjflbnopphciacGreatDoor


namespace Go.Proofs.YtjjflbnopphciacGreatDoor
open Go.RowKit

theorem bad_facts {f s d a b D : Int} (h : eqaE f s d a = D) (hD : ¬ D = 0) : stbE f s d a = D ∧ stbN f s d a = 0 ∧ ckbE f s d a b = D := by
  have h1 : stbE f s d a = D := by unfold stbE; rw [h, if_neg hD]
  refine ⟨h1, ?_, ?_⟩
  · unfold stbN; rw [h1, if_neg hD]
  · have h2 : chbE f s d a b = D := by
      rw [← h]
      unfold chbE eqaE
      by_cases e1 : eqzE f s d = 0
      · by_cases e2 : ampE a = 0
        · exfalso; apply hD; rw [← h]; simp [eqaE, firstNZ, e1, e2]
        · simp [firstNZ, e1, e2]
      · simp [firstNZ, e1]
    unfold ckbE; rw [h2, if_neg hD]
theorem eqaE_one {f s d a : Int} (h : ¬ eqzE f s d = 0) : eqaE f s d a = eqzE f s d := by simp [eqaE, firstNZ, h]
theorem eqaE_two {f s d a : Int} (h : eqzE f s d = 0) : eqaE f s d a = ampE a := by
  by_cases h2 : ampE a = 0 <;> simp [eqaE, firstNZ, h, h2]
theorem good_stb {f s d a : Int} (h : eqaE f s d a = 0) : stbE f s d a = (if d - strF f s ≤ 0 then 22 else 0) ∧ stbN f s d a = (if d - strF f s ≤ 0 then 0 else upF (a * d) (d - strF f s)) := by
  have h1 : stbE f s d a = (if d - strF f s ≤ 0 then 22 else 0) := by unfold stbE; rw [if_pos h]
  refine ⟨h1, ?_⟩
  unfold stbN
  rw [h1]
  by_cases h2 : d - strF f s ≤ 0 <;> simp [h2]
theorem good_ckb {f s d a b : Int} (h : eqaE f s d a = 0) : ckbE f s d a b = if fromB 0 1000000000000000 [b] = true then (if isB f s d a b = true then 0 else 19) else 2 := by
  have h0 := h
  have hz := eqaE_zero h
  have e1 : eqzE f s d = 0 := firstNZ_zero h (eqzE f s d) (by simp)
  have e2 : ampE a = 0 := firstNZ_zero h (ampE a) (by simp)
  have h2 : chbE f s d a b = if fromB 0 1000000000000000 [b] = true then 0 else 2 := by
    unfold chbE bndE rngE
    by_cases h3 : fromB 0 1000000000000000 [b] = true <;> simp [firstNZ, e1, e2, h3]
  unfold ckbE
  rw [h2]
  by_cases h3 : fromB 0 1000000000000000 [b] = true
  · rw [if_pos h3, if_pos h3, if_pos rfl]
  · rw [if_neg h3, if_neg h3, if_neg (by omega)]

end Go.Proofs.YtjjflbnopphciacGreatDoor


namespace Go.Proofs.YtjjflbnopphciacGreatDoor
open Go.RowKit

set_option maxRecDepth 100000 in
theorem refDegreeErr_any (a : Int) (w : World) :
    Calls Tryz.prog 45 #[.int .i64 a] w fun e w' => e = .returned (.int .i64 (degE a)) ∧ w = w' := by
  have HE : Hid (degE a = if a = 1 ∨ a = 3 then 0 else 15) := rfl
  obtain ⟨E, hE⟩ : ∃ E, degE a = E := ⟨_, rfl⟩
  rw [hE] at HE ⊢
  clear hE
  by_cases h1 : a = 1
  · have HF := HE.out
    rw [if_pos (.inl h1)] at HF
    subst h1 HF
    clear HE
    go_enter Tryz.func45, Tryz.ntmps45
    go_wp2
    go_ret
    exact ⟨rfl, rfl⟩
  · by_cases h3 : a = 3
    · have HF := HE.out
      rw [if_pos (.inr h3)] at HF
      subst h3 HF
      clear HE
      go_enter Tryz.func45, Tryz.ntmps45
      go_wp2
      go_ret
      exact ⟨rfl, rfl⟩
    · have HF := HE.out
      rw [if_neg (by omega)] at HF
      subst HF
      clear HE
      have b1 : (a != 1) = true := by rw [bne_iff_ne]; exact h1
      have b3 : (a != 3) = true := by rw [bne_iff_ne]; exact h3
      go_enter Tryz.func45, Tryz.ntmps45
      go_wp2
      go_ret
      exact ⟨rfl, rfl⟩
def shortB (n : Nat) : Bool := decide (n ≤ 64 ∨ 400 < n ∧ n ≤ 402)
end Go.Proofs.YtjjflbnopphciacGreatDoor


namespace Go.Proofs.YtjjflbnopphciacGreatDoor
open Go.RowKit

end Go.Proofs.YtjjflbnopphciacGreatDoor


namespace Go.Proofs.YtjjflbnopphciacGreatDoor
open Go.RowKit

def psum (ws : List Int) : Nat → Int
  | 0 => 0
  | k + 1 => psum ws k + ws.getD k 0
theorem psum_bd {ws : List Int} (h : ∀ x ∈ ws, -4000000 ≤ x ∧ x ≤ 4000000) : ∀ k : Nat, -(4000000 * (k : Int)) ≤ psum ws k ∧ psum ws k ≤ 4000000 * (k : Int)
  | 0 => by simp [psum]
  | k + 1 => by
    have h1 := psum_bd h k
    have h2 := getD_bd (xs := ws) (A := 4000000) (by omega) h k
    show _ ≤ psum ws k + ws.getD k 0 ∧ psum ws k + ws.getD k 0 ≤ _
    omega
theorem psum1 {f : Int} : psum (wts1 f) 2 = 64 := by simp [psum, wts1]
theorem psum3 {f : Int} (h : 0 ≤ f ∧ f ≤ 63) : psum (wts3 f) 4 = 1572864 := by
  obtain ⟨j, rfl⟩ := Int.eq_ofNat_of_zero_le h.1
  have key : ∀ k : Fin 64, psum (wts3 (k.val : Int)) 4 = 1572864 := by decide +kernel
  exact key ⟨j, by omega⟩
theorem oneAt {W W' : World} {g : Nat} {t : TypeId} {cs : Array Value} (h : Bk W g t cs) (hb : Below W.heap.size W W') : Bk W' g t cs := h.later hb

end Go.Proofs.YtjjflbnopphciacGreatDoor


namespace Go.Proofs.YtjjflbnopphciacGreatDoor
open Go.RowKit

theorem val_bad {d q E : Int} {xs : List Int} {n : Nat} (h : valE d xs q = E) (hE : ¬ E = 0) (hn : n ≤ 1000000) (B : Option Addr) (cb : Nat) (W : World) (hr : RdI W B n xs) :
    Calls Tryz.prog 21 #[.int .i64 d, .slice B n cb, .int .i64 q] W fun e w' => e = .returned (.tuple #[.int .i64 0, .int .i64 0, .int .i64 E]) ∧ Below W.heap.size W w' := by
  have := ValueAt_any d B n cb xs q W hr hn
  have h1 : valN d xs q = 0 := by unfold valN; rw [h, if_neg hE]
  have h2 : valD d xs q = 0 := by unfold valD; rw [h, if_neg hE]
  rwa [h, h1, h2] at this
theorem pureC {C : World → Prop} (h : ∀ w, C w) : ∀ w, C w := h
theorem shortB_le {n : Nat} (h : shortB n = true) : n ≤ 402 := by
  unfold shortB at h
  have := of_decide_eq_true h
  omega
theorem val_good1 {q : Int} {xs : List Int} {n : Nat} (h : valE 1 xs q = 0) (hn : n ≤ 1000000) (B : Option Addr) (cb : Nat) (W : World) (hr : RdI W B n xs) :
    Calls Tryz.prog 21 #[.int .i64 1, .slice B n cb, .int .i64 q] W fun e w' => e = .returned (.tuple #[.int .i64 (vnum1 xs q), .int .i64 64, .int .i64 0]) ∧ Below W.heap.size W w' := by
  have := ValueAt_any 1 B n cb xs q W hr hn
  have h1 : valN 1 xs q = vnum1 xs q := by unfold valN; rw [h, if_pos rfl]; rw [if_pos rfl]
  have h2 : valD 1 xs q = 64 := by unfold valD; rw [h, if_pos rfl]; rw [if_pos rfl]
  rwa [h, h1, h2] at this
theorem val_good3 {q : Int} {xs : List Int} {n : Nat} (h : valE 3 xs q = 0) (hn : n ≤ 1000000) (B : Option Addr) (cb : Nat) (W : World) (hr : RdI W B n xs) :
    Calls Tryz.prog 21 #[.int .i64 3, .slice B n cb, .int .i64 q] W fun e w' => e = .returned (.tuple #[.int .i64 (vnum3 xs q), .int .i64 1572864, .int .i64 0]) ∧ Below W.heap.size W w' := by
  have := ValueAt_any 3 B n cb xs q W hr hn
  have h1 : valN 3 xs q = vnum3 xs q := by unfold valN; rw [h, if_pos rfl]; rw [if_neg (by decide)]
  have h2 : valD 3 xs q = 1572864 := by unfold valD; rw [h, if_pos rfl]; rw [if_neg (by decide)]
  rwa [h, h1, h2] at this
end Go.Proofs.YtjjflbnopphciacGreatDoor


namespace Go.Proofs.YtjjflbnopphciacGreatDoor
open Go.RowKit

/-! ### equalizers as mathematics -/
/-- What the next output contains of the earlier ones. -/
def echoF (f s d a b : Int) : Int := (f * a + s * b) / d
/-- The outputs up to one that is too great, and the error. -/
def eqR (f s d : Int) : Int → Int → List Int → List Int × Int
  | _, _, [] => ([], 0)
  | a, b, x :: l => if absF (x + echoF f s d a b) ≤ 1000000000000000 then ((x + echoF f s d a b) :: (eqR f s d (x + echoF f s d a b) a l).1, (eqR f s d (x + echoF f s d a b) a l).2) else ([], 23)
def rsR (f s d : Int) : Int → Int → List Int → List Int
  | _, _, [] => []
  | a, b, y :: l => (y - echoF f s d a b) :: rsR f s d y a l
/-- The output of an equalizer: it, and the error. -/
def eqO (f s d : Int) (xs : List Int) : List Int := if (eqR f s d 0 0 xs).2 = 0 then (eqR f s d 0 0 xs).1 else []
theorem eqR_01 (f s d : Int) : ∀ (xs : List Int) (a b : Int), (eqR f s d a b xs).2 = 0 ∨ (eqR f s d a b xs).2 = 23
  | [], a, b => .inl rfl
  | x :: l, a, b => by
    unfold eqR
    split
    · exact eqR_01 f s d l _ _
    · exact .inr rfl
theorem absF_le {n m : Int} : absF n ≤ m ↔ -m ≤ n ∧ n ≤ m := by unfold absF; split <;> omega
theorem rsR_len (f s d : Int) : ∀ (xs : List Int) (a b : Int), (rsR f s d a b xs).length = xs.length
  | [], a, b => rfl
  | x :: l, a, b => by simp [rsR, rsR_len f s d l]
theorem eqR_len (f s d : Int) : ∀ (xs : List Int) (a b : Int), (eqR f s d a b xs).2 = 0 → (eqR f s d a b xs).1.length = xs.length
  | [], a, b, _ => rfl
  | x :: l, a, b, h => by
    unfold eqR at h ⊢
    split
    · rename_i h1
      rw [if_pos h1] at h
      simp [eqR_len f s d l _ _ h]
    · rename_i h1
      rw [if_neg h1] at h
      cases h
/-- An input that is restored gives the output again. -/
theorem eqR_rsR (f s d : Int) : ∀ (ys : List Int) (a b : Int), (∀ y ∈ ys, absF y ≤ 1000000000000000) → eqR f s d a b (rsR f s d a b ys) = (ys, 0)
  | [], a, b, _ => rfl
  | y :: l, a, b, h => by
    have e : y - echoF f s d a b + echoF f s d a b = y := by omega
    have ih := eqR_rsR f s d l y a (fun z hz => h z (List.mem_cons_of_mem _ hz))
    simp only [rsR, eqR, e, ih]
    rw [if_pos (h y List.mem_cons_self)]
/-- An output gives its input again. -/
theorem rsR_eqR (f s d : Int) : ∀ (xs : List Int) (a b : Int), (eqR f s d a b xs).2 = 0 → rsR f s d a b (eqR f s d a b xs).1 = xs
  | [], a, b, _ => rfl
  | x :: l, a, b, h => by
    unfold eqR at h ⊢
    split
    · rename_i h1
      rw [if_pos h1] at h
      simp only [rsR]
      rw [rsR_eqR f s d l _ _ h]
      have e : x + echoF f s d a b - echoF f s d a b = x := by omega
      rw [e]
    · rename_i h1
      rw [if_neg h1] at h
      cases h
/-- Outputs are small. -/
theorem eqR_small (f s d : Int) : ∀ (xs : List Int) (a b : Int), ∀ y ∈ (eqR f s d a b xs).1, absF y ≤ 1000000000000000
  | [], a, b, y, hy => by simp [eqR] at hy
  | x :: l, a, b, y, hy => by
    unfold eqR at hy
    split at hy
    · rename_i h1
      rcases List.mem_cons.1 hy with rfl | hy
      · exact h1
      · exact eqR_small f s d l _ _ y hy
    · simp at hy
/-- Equal beginnings have equal beginnings. -/
theorem eqR_take (f s d : Int) : ∀ (xs : List Int) (k : Nat) (a b : Int), (eqR f s d a b xs).2 = 0 → eqR f s d a b (xs.take k) = ((eqR f s d a b xs).1.take k, 0)
  | xs, 0, a, b, h => by simp [eqR]
  | [], k + 1, a, b, h => by simp [eqR]
  | x :: l, k + 1, a, b, h => by
    unfold eqR at h
    split at h
    · rename_i h1
      rw [List.take_succ_cons]
      have ih := eqR_take f s d l k _ _ h
      have e1 : eqR f s d a b (x :: l) = ((x + echoF f s d a b) :: (eqR f s d (x + echoF f s d a b) a l).1, (eqR f s d (x + echoF f s d a b) a l).2) := by rw [eqR, if_pos h1]
      rw [e1, eqR, if_pos h1, ih]
      simp
    · cases h
theorem mul_abs_bd {f a A B : Int} (hf : absF f = A) (ha : -B ≤ a ∧ a ≤ B) : -(A * B) ≤ f * a ∧ f * a ≤ A * B := by
  have h0 := absF_bd f A (absF_le.1 (Int.le_of_eq hf))
  exact mul_bd (absF_le.1 (Int.le_of_eq hf)) ha (by omega) (by omega)
/-- What is bounded stays so. -/
theorem echo_bd {f s d a b B m : Int} (hd : 0 < d) (hB : 0 ≤ B) (hm : strF f s * B ≤ (B - m) * d) (ha : -B ≤ a ∧ a ≤ B) (hb : -B ≤ b ∧ b ≤ B) : -(B - m) ≤ echoF f s d a b ∧ echoF f s d a b ≤ B - m := by
  have h1 := mul_abs_bd (f := f) rfl ha
  have h2 := mul_abs_bd (f := s) rfl hb
  have e : strF f s * B = absF f * B + absF s * B := by unfold strF; rw [Int.add_mul]
  rw [e] at hm
  unfold echoF
  constructor
  · rw [Int.le_ediv_iff_mul_le hd, Int.neg_mul]
    omega
  · have : (f * a + s * b) / d < B - m + 1 := by
      rw [Int.ediv_lt_iff_lt_mul hd, Int.add_mul]
      omega
    omega
theorem eqR_bounded (f s d : Int) {B m : Int} (hd : 0 < d) (hB : 0 ≤ B) (hB2 : B ≤ 1000000000000000) (hm : strF f s * B ≤ (B - m) * d) :
    ∀ (xs : List Int) (a b : Int), (-B ≤ a ∧ a ≤ B) → (-B ≤ b ∧ b ≤ B) → (∀ x ∈ xs, -m ≤ x ∧ x ≤ m) → (eqR f s d a b xs).2 = 0 ∧ ∀ y ∈ (eqR f s d a b xs).1, -B ≤ y ∧ y ≤ B
  | [], a, b, _, _, _ => ⟨rfl, by simp [eqR]⟩
  | x :: l, a, b, ha, hb, hx => by
    have h1 := echo_bd hd hB hm ha hb
    have h2 := hx x List.mem_cons_self
    have h3 : -B ≤ x + echoF f s d a b ∧ x + echoF f s d a b ≤ B := by omega
    have ih := eqR_bounded f s d hd hB hB2 hm l (x + echoF f s d a b) a h3 ha (fun z hz => hx z (List.mem_cons_of_mem _ hz))
    have h4 : absF (x + echoF f s d a b) ≤ 1000000000000000 := absF_le.2 (by omega)
    rw [eqR, if_pos h4]
    refine ⟨ih.1, fun y hy => ?_⟩
    rcases List.mem_cons.1 hy with rfl | hy
    · exact h3
    · exact ih.2 y hy

end Go.Proofs.YtjjflbnopphciacGreatDoor


namespace Go.Proofs.YtjjflbnopphciacGreatDoor
open Go.RowKit

theorem upF_le {n k B : Int} (hk : 0 < k) : upF n k ≤ B ↔ n ≤ B * k := by
  unfold upF
  have h := Int.le_ediv_iff_mul_le (a := -B) (b := -n) hk
  rw [Int.neg_mul] at h
  constructor
  · intro h1; have := h.1 (by omega); omega
  · intro h1; have := h.2 (by omega); omega
theorem isB_iff {f s d a b : Int} (hd : 0 < d) (hst : 0 < d - strF f s) : isB f s d a b = decide (upF (a * d) (d - strF f s) ≤ b) := by
  unfold isB
  apply decide_eq_decide.2
  have h1 := upF_le (n := strF f s * b) (k := d) (B := b - a) hd
  have h2 := upF_le (n := a * d) (k := d - strF f s) (B := b) hst
  rw [Int.sub_mul] at h1
  rw [Int.mul_sub] at h2
  rw [Int.mul_comm b (strF f s)] at h2
  constructor
  · intro h; exact h2.2 (by have := h1.1 (by omega); omega)
  · intro h; have := h1.2 (by have := h2.1 h; omega); omega
theorem stab_facts {f s d m : Int} (hd : 1 ≤ d ∧ d ≤ 1000) (hm : 0 ≤ m ∧ m ≤ 32767) (hst : 0 < d - strF f s) :
    (0 ≤ upF (m * d) (d - strF f s) ∧ upF (m * d) (d - strF f s) ≤ 32767000) ∧ strF f s * upF (m * d) (d - strF f s) ≤ (upF (m * d) (d - strF f s) - m) * d := by
  have hmd := mul_bd (a := m) (b := d) (A := 32767) (B := 1000) (by omega) (by omega) (by omega) (by omega)
  have hmd0 : 0 ≤ m * d := Int.mul_nonneg (by omega) (by omega)
  obtain ⟨B, hB⟩ : ∃ B, upF (m * d) (d - strF f s) = B := ⟨_, rfl⟩
  have h1 := upF_le (n := m * d) (k := d - strF f s) (B := B) hst
  have h2 := upF_le (n := m * d) (k := d - strF f s) (B := 32767000) hst
  have h3 := upF_le (n := m * d) (k := d - strF f s) (B := -1) hst
  rw [hB] at h1 h2 h3 ⊢
  have e1 : 32767000 * 1 ≤ 32767000 * (d - strF f s) := Int.mul_le_mul_of_nonneg_left (by omega) (by omega)
  have h4 := h1.1 (Int.le_refl _)
  rw [Int.mul_sub, Int.mul_comm B (strF f s)] at h4
  rw [Int.sub_mul]
  refine ⟨⟨?_, h2.2 (by omega)⟩, by omega⟩
  rcases (by omega : B < 0 ∨ 0 ≤ B) with h | h
  · have := h3.1 (by omega); omega
  · exact h

end Go.Proofs.YtjjflbnopphciacGreatDoor


namespace Go.Proofs.YtjjflbnopphciacGreatDoor
open Go.RowKit

/-! ### the equalizer's memory -/
/-- An equalizer whose numbers are small. -/
def EqOk (f s d : Int) : Prop := (-1000 ≤ f ∧ f ≤ 1000) ∧ (-1000 ≤ s ∧ s ≤ 1000) ∧ 1 ≤ d ∧ d ≤ 1000
theorem big_mul {f a : Int} (hf : -1000 ≤ f ∧ f ≤ 1000) (ha : -1000000000000000 ≤ a ∧ a ≤ 1000000000000000) : -1000000000000000000 ≤ f * a ∧ f * a ≤ 1000000000000000000 := by
  have := mul_bd (a := f) (b := a) (A := 1000) (B := 1000000000000000) hf ha (by omega) (by omega)
  omega
theorem echo_lim {f s d a b : Int} (h : EqOk f s d) (ha : -1000000000000000 ≤ a ∧ a ≤ 1000000000000000) (hb : -1000000000000000 ≤ b ∧ b ≤ 1000000000000000) : -2000000000000000000 ≤ echoF f s d a b ∧ echoF f s d a b ≤ 2000000000000000000 := by
  have h1 := big_mul h.1 ha
  have h2 := big_mul h.2.1 hb
  unfold echoF
  have h3 := h.2.2
  constructor
  · rw [Int.le_ediv_iff_mul_le (by omega)]
    have : (-2000000000000000000) * d ≤ (-2000000000000000000) * 1 := Int.mul_le_mul_of_nonpos_left (by omega) (by omega)
    omega
  · have : (f * a + s * b) / d < 2000000000000000000 + 1 := by
      rw [Int.ediv_lt_iff_lt_mul (by omega)]
      have : (2000000000000000001 : Int) * 1 ≤ 2000000000000000001 * d := Int.mul_le_mul_of_nonneg_left (by omega) (by omega)
      omega
    omega
theorem bk5 {W : World} {g : Nat} {t : TypeId} {a b c d e : Value} (h : Bk W g t #[a, b, c, d, e]) : W.cell? ⟨g, 0, none⟩ = some a ∧ W.cell? ⟨g, 1, none⟩ = some b ∧ W.cell? ⟨g, 2, none⟩ = some c ∧ W.cell? ⟨g, 3, none⟩ = some d ∧ W.cell? ⟨g, 4, none⟩ = some e :=
  ⟨by rw [h.cell]; rfl, by rw [h.cell]; rfl, by rw [h.cell]; rfl, by rw [h.cell]; rfl, by rw [h.cell]; rfl⟩
end Go.Proofs.YtjjflbnopphciacGreatDoor


namespace Go.Proofs.YtjjflbnopphciacGreatDoor
open Go.RowKit

theorem grownBy_setCellG (W : World) (a : Addr) (v : Value) : W.grownBy (W.setCell a v) (some a.block) :=
  ⟨rfl, rfl, rfl, (KeepsWalks.setCell W _ v).size, fun k _ hk => Below.heap_setCell _ _ _ k (fun e => hk (by rw [e]))⟩
theorem step_append_at {P : Program} (w : World) {ops : Array Oper} {o : Oper} {a : Act} {K : Act → World → Prop} {Q : Exit → Act → World → Prop} {E : Prop} (hgd : o.guard = none) (s x : Operand) (t : TypeId)
    (ho : o.op = .call { callee := .builtin .append, args := #[s, x], argTypes := #[t, t] })
    (base : Nat) (e : TypeId) (i : TypeInfo) (z : Value) (size bytes : Nat) (ht : P.underlying t = some (.slice e)) (hi : P.info? e = some i) (hz : i.zero = some z)
    (hsize : i.size = size) (hby : i.bytes = bytes) (hzs : z.cells.size = size) (hsz : 0 < size)
    (v : Value) (n : Nat) (xs : List Value) (hs : a.eval s = v) (hown : w.ownsRow base e size v n xs)
    (ad : Addr) (m c : Nat) (news : List Value) (hx : a.eval x = .slice (some ad) m c) (hl : news.length = m * size) (hnews : ∀ j u, news[j]? = some u → w.cell? (ad.add j) = some u) (h1 : ∀ u ∈ news, u.oneCell' = true)
    (h63 : n + m ≤ maxLen) (hbytes : (n + m) * bytes ≤ 140737488355328) (hbase : base ≤ w.heap.size)
    (h : ∀ v' w', w'.ownsRow base e size v' (n + m) (xs ++ news) → w.grownBy w' v.ownBlock → (v' = .slice none 0 0 ↔ v = .slice none 0 0 ∧ m = 0) → (v'.ownBlock = v.ownBlock ∨ v'.ownBlock = some w.heap.size) → K (a.put o.dst v') w') :
    if Region.wanted o (yielded ops a.tmps) = true then Oper.wp P o a w K Q else E := by
  have hw : Region.wanted o (yielded ops a.tmps) = true := by simp [Region.wanted, hgd]
  rw [if_pos hw]
  obtain ⟨v', w', hr, h2, h3, h4, h5⟩ := run_append_own_at (P := P) w base t o.type e i z size bytes ht hi hz hsize hby hzs hsz v n xs hown ad m c news hl hnews h1 h63 hbytes hbase
  unfold Oper.wp execOp
  simp only [ho, resolve, invoke, builtin, Sem.run_bind, Sem.run_pure, Result.andThen_ok, List.map_toArray, List.map_cons, List.map_nil, hs, hx, hr]
  exact h v' w' h2 h3 h4 h5


theorem ownFar {w : World} {base t size k : Nat} {x : Value} {xs : List Value} (ho : w.ownsRow base t size x k xs) (a : Addr) (u : Value) (ha : a.block < base) : (w.setCell a u).ownsRow base t size x k xs :=
  ho.kept (grownBy_setCellG w a u) (by
    cases hb : x.ownBlock with
    | none => exact .inl rfl
    | some g => exact .inr (by intro e; injection e with e; have := (ho.lt g hb).1; omega))
/-- The last output but i. -/
def backF (ys : List Int) (k i : Nat) : Int := if i ≤ k then ys.getD (k - i) 0 else 0
theorem backF_bd {ys : List Int} {A : Int} (hA : 0 ≤ A) (h : ∀ y ∈ ys, -A ≤ y ∧ y ≤ A) (k i : Nat) : -A ≤ backF ys k i ∧ backF ys k i ≤ A := by
  unfold backF
  split
  · exact getD_bd hA h _
  · omega
theorem outE_eq (xs : List Int) : outE xs = if 400 < xs.length then 8 else rngE (-1000000000000000) 1000000000000000 xs := rfl
end Go.Proofs.YtjjflbnopphciacGreatDoor


namespace Go.Proofs.YtjjflbnopphciacGreatDoor
open Go.RowKit

def eqsE (f s d : Int) (xs : List Int) : Int := firstNZ [eqzE f s d, sigE xs]
def eqlE (f s d : Int) (xs : List Int) : Int := if eqsE f s d xs = 0 then (eqR f s d 0 0 xs).2 else eqsE f s d xs
def eqlL (f s d : Int) (xs : List Int) : List Int := if eqlE f s d xs = 0 then (eqR f s d 0 0 xs).1 else []
def rssE (f s d : Int) (ys : List Int) : Int := firstNZ [eqzE f s d, outE ys]
def rslL (f s d : Int) (ys : List Int) : List Int := if rssE f s d ys = 0 then rsR f s d 0 0 ys else []
theorem outE_zero {xs : List Int} (h : outE xs = 0) : xs.length ≤ 400 ∧ ∀ x ∈ xs, -1000000000000000 ≤ x ∧ x ≤ 1000000000000000 := by
  rw [outE_eq] at h
  by_cases h1 : 400 < xs.length
  · rw [if_pos h1] at h; cases h
  · rw [if_neg h1] at h
    refine ⟨by omega, ?_⟩
    unfold rngE at h
    by_cases h2 : fromB (-1000000000000000) 1000000000000000 xs = true
    · intro x hx
      unfold fromB at h2
      have := List.all_eq_true.1 h2 x hx
      simpa using this
    · rw [if_neg h2] at h; cases h
theorem eqR_step {f s d a b x y : Int} {xs ys : List Int} {k : Nat} (hk : k < xs.length) (hx : xs.getD k 0 = x) (hy : x + echoF f s d a b = y) (hs : absF y ≤ 1000000000000000)
    (h : eqR f s d 0 0 xs = (ys ++ (eqR f s d a b (xs.drop k)).1, (eqR f s d a b (xs.drop k)).2)) : eqR f s d 0 0 xs = (ys ++ [y] ++ (eqR f s d y a (xs.drop (k + 1))).1, (eqR f s d y a (xs.drop (k + 1))).2) := by
  rw [h, List.drop_eq_getElem_cons hk]
  have e : xs[k] = x := by rw [← hx, List.getD_eq_getElem?_getD, List.getElem?_eq_getElem hk]; rfl
  rw [e, eqR, hy, if_pos hs]
  simp
theorem eqR_stop {f s d a b x y : Int} {xs ys : List Int} {k : Nat} (hk : k < xs.length) (hx : xs.getD k 0 = x) (hy : x + echoF f s d a b = y) (hs : ¬ absF y ≤ 1000000000000000)
    (h : eqR f s d 0 0 xs = (ys ++ (eqR f s d a b (xs.drop k)).1, (eqR f s d a b (xs.drop k)).2)) : (eqR f s d 0 0 xs).2 = 23 := by
  rw [h, List.drop_eq_getElem_cons hk]
  have e : xs[k] = x := by rw [← hx, List.getD_eq_getElem?_getD, List.getElem?_eq_getElem hk]; rfl
  rw [e, eqR, hy, if_neg hs]
theorem eqR_done {f s d a b : Int} {xs ys : List Int} {k : Nat} (hk : xs.length ≤ k) (h : eqR f s d 0 0 xs = (ys ++ (eqR f s d a b (xs.drop k)).1, (eqR f s d a b (xs.drop k)).2)) : eqR f s d 0 0 xs = (ys, 0) := by
  rw [h, List.drop_eq_nil_of_le hk]; simp [eqR]
theorem rsR_step {f s d a b y x : Int} {ys xs : List Int} {k : Nat} (hk : k < ys.length) (hy : ys.getD k 0 = y) (hx : y - echoF f s d a b = x)
    (h : rsR f s d 0 0 ys = xs ++ rsR f s d a b (ys.drop k)) : rsR f s d 0 0 ys = xs ++ [x] ++ rsR f s d y a (ys.drop (k + 1)) := by
  rw [h, List.drop_eq_getElem_cons hk]
  have e : ys[k] = y := by rw [← hy, List.getD_eq_getElem?_getD, List.getElem?_eq_getElem hk]; rfl
  rw [e, rsR, hx]
  simp
theorem rsR_done {f s d a b : Int} {xs ys : List Int} {k : Nat} (hk : ys.length ≤ k) (h : rsR f s d 0 0 ys = xs ++ rsR f s d a b (ys.drop k)) : rsR f s d 0 0 ys = xs := by
  rw [h, List.drop_eq_nil_of_le hk]; simp [rsR]

end Go.Proofs.YtjjflbnopphciacGreatDoor


namespace Go.Proofs.YtjjflbnopphciacGreatDoor
open Go.RowKit

end Go.Proofs.YtjjflbnopphciacGreatDoor


namespace Go.Proofs.YtjjflbnopphciacGreatDoor
open Go.RowKit

theorem backF_1 (ys : List Int) (k : Nat) : backF ys (k + 1) 1 = ys.getD k 0 := rfl
theorem backF_2 (ys : List Int) (k : Nat) : backF ys (k + 1) 2 = backF ys k 1 := by
  unfold backF
  by_cases h : 1 ≤ k
  · rw [if_pos h, if_pos (by omega), show k + 1 - 2 = k - 1 by omega]
  · rw [if_neg h, if_neg (by omega)]
theorem backF_s1 {ys : List Int} {k : Nat} (y : Int) (h : ys.length = k) : backF (ys ++ [y]) (k + 1) 1 = y := by
  rw [backF_1, List.getD_eq_getElem?_getD, ← h, List.getElem?_concat_length]; rfl
theorem backF_s2 {ys : List Int} {k : Nat} (y : Int) (h : ys.length = k) : backF (ys ++ [y]) (k + 1) 2 = backF ys k 1 := by
  rw [backF_2]
  unfold backF
  by_cases h1 : 1 ≤ k
  · rw [if_pos h1, if_pos h1, List.getD_eq_getElem?_getD, List.getD_eq_getElem?_getD, List.getElem?_append_left (by omega)]
  · rw [if_neg h1, if_neg h1]
theorem backF_0 (ys : List Int) : backF ys 0 1 = 0 ∧ backF ys 0 2 = 0 := ⟨rfl, rfl⟩

end Go.Proofs.YtjjflbnopphciacGreatDoor


namespace Go.Proofs.YtjjflbnopphciacGreatDoor
open Go.RowKit

/-- A slice of integers of the call's own, and a bool. -/
def OwnResB (w : World) (b : Bool) (xs : List Int) (e : Ending) (w' : World) : Prop :=
  (∃ v, e = .returned (.tuple #[v, .bool b]) ∧ w'.ownsRow w.heap.size 3 1 v xs.length (xs.map (Value.int .i64))) ∧ Below w.heap.size w w'
theorem OwnResB.none_ {w w' : World} {b : Bool} (h : Below w.heap.size w w') : OwnResB w b [] (.returned (.tuple #[.slice none 0 0, .bool b])) w' := ⟨⟨_, rfl, World.ownsRow_nil _ _ _ _⟩, h⟩
def eqY (f s d : Int) (xs : List Int) : List Int := if (eqR f s d 0 0 xs).2 = 0 then (eqR f s d 0 0 xs).1 else []
def eqB (f s d : Int) (xs : List Int) : Bool := decide ((eqR f s d 0 0 xs).2 = 0)
theorem eq_done {f s d : Int} {xs ys : List Int} (h : eqR f s d 0 0 xs = (ys, 0)) : eqY f s d xs = ys ∧ eqB f s d xs = true := by simp [eqY, eqB, h]
theorem eq_stop {f s d : Int} {xs : List Int} (h : (eqR f s d 0 0 xs).2 = 23) : eqY f s d xs = [] ∧ eqB f s d xs = false := by simp [eqY, eqB, h]

end Go.Proofs.YtjjflbnopphciacGreatDoor


namespace Go.Proofs.YtjjflbnopphciacGreatDoor
open Go.RowKit

theorem ints_same (A B : Option Addr) (n c d : Nat) (xs : List Int) (w : World) (ha : RdI w A n xs) (hb : RdI w B n xs) (hn : n ≤ 9223372036854775806) :
    Calls Tryz.prog 27 #[.slice A n c, .slice B n d] w fun e w' => e = .returned (.bool true) ∧ ∃ k, w' = w.drewN k := by
  have := ints_any A B n n c d xs xs w ha hb hn hn
  rwa [decide_eq_true rfl] at this
/-- A list of the call's own that reads as xs, and an error. -/
def RdRes (w : World) (E : Int) (n : Nat) (xs : List Int) (e : Ending) (w' : World) : Prop :=
  (∃ A' c', e = .returned (.tuple #[.slice A' n c', .int .i64 E]) ∧ RdI w' A' n xs) ∧ Below w.heap.size w w'
theorem OwnRes.rd {w w' : World} {E : Int} {n : Nat} {xs : List Int} {e : Ending} (h : OwnRes w E xs e w') (hn : xs.length = n) : RdRes w E n xs e w' := by
  obtain ⟨⟨v, rfl, ho⟩, hb⟩ := h
  obtain ⟨A, c, rfl, _, hr⟩ := rd_of_own ho
  rw [hn] at hr ⊢
  exact ⟨⟨A, c, rfl, hr⟩, hb⟩
def RdOne (w : World) (n : Nat) (xs : List Int) (e : Ending) (w' : World) : Prop :=
  (∃ A' c', e = .returned (.slice A' n c') ∧ RdI w' A' n xs) ∧ Below w.heap.size w w'
theorem OwnS.rd {w w' : World} {n : Nat} {xs : List Int} {e : Ending} (h : OwnS w xs e w') (hn : xs.length = n) : RdOne w n xs e w' := by
  obtain ⟨⟨v, rfl, ho⟩, hb⟩ := h
  obtain ⟨A, c, rfl, _, hr⟩ := rd_of_own ho
  rw [hn] at hr ⊢
  exact ⟨⟨A, c, rfl, hr⟩, hb⟩
def RdResB (w : World) (b : Bool) (n : Nat) (xs : List Int) (e : Ending) (w' : World) : Prop :=
  (∃ A' c', e = .returned (.tuple #[.slice A' n c', .bool b]) ∧ RdI w' A' n xs) ∧ Below w.heap.size w w'
theorem OwnResB.rd {w w' : World} {b : Bool} {n : Nat} {xs : List Int} {e : Ending} (h : OwnResB w b xs e w') (hn : xs.length = n) : RdResB w b n xs e w' := by
  obtain ⟨⟨v, rfl, ho⟩, hb⟩ := h
  obtain ⟨A, c, rfl, _, hr⟩ := rd_of_own ho
  rw [hn] at hr ⊢
  exact ⟨⟨A, c, rfl, hr⟩, hb⟩
theorem neF {D : Int} (h : ¬ D = 0) : (D == 0) = false := by rw [beq_eq_false_iff_ne]; exact h
theorem neT {D : Int} (h : ¬ D = 0) : (D != 0) = true := by rw [bne_iff_ne]; exact h
end Go.Proofs.YtjjflbnopphciacGreatDoor


namespace Go.Proofs.YtjjflbnopphciacGreatDoor
open Go.RowKit

theorem eql_D {f s d : Int} {xs : List Int} (h : ¬ eqzE f s d = 0) : eqlE f s d xs = eqzE f s d ∧ eqlL f s d xs = [] := by
  have e : eqsE f s d xs = eqzE f s d := by simp [eqsE, firstNZ, h]
  have e2 : eqlE f s d xs = eqzE f s d := by unfold eqlE; rw [e, if_neg h]
  exact ⟨e2, by unfold eqlL; rw [e2, if_neg h]⟩
theorem eqs_0 {f s d : Int} {xs : List Int} (h : eqzE f s d = 0) : eqsE f s d xs = sigE xs := by
  by_cases h2 : sigE xs = 0 <;> simp [eqsE, firstNZ, h, h2]
theorem eql_S {f s d : Int} {xs : List Int} (h : eqzE f s d = 0) (hS : ¬ sigE xs = 0) : eqlE f s d xs = sigE xs ∧ eqlL f s d xs = [] := by
  have e2 : eqlE f s d xs = sigE xs := by unfold eqlE; rw [eqs_0 h, if_neg hS]
  exact ⟨e2, by unfold eqlL; rw [e2, if_neg hS]⟩
theorem eql_ok {f s d : Int} {xs : List Int} (h : eqzE f s d = 0) (hS : sigE xs = 0) : eqlE f s d xs = (eqR f s d 0 0 xs).2 ∧ eqlL f s d xs = eqY f s d xs := by
  have e2 : eqlE f s d xs = (eqR f s d 0 0 xs).2 := by unfold eqlE; rw [eqs_0 h, if_pos hS]
  exact ⟨e2, by unfold eqlL eqY; rw [e2]⟩
theorem rsl_D {f s d : Int} {xs : List Int} (h : ¬ eqzE f s d = 0) : rssE f s d xs = eqzE f s d ∧ rslL f s d xs = [] := by
  have e : rssE f s d xs = eqzE f s d := by simp [rssE, firstNZ, h]
  exact ⟨e, by unfold rslL; rw [e, if_neg h]⟩
theorem rss_0 {f s d : Int} {xs : List Int} (h : eqzE f s d = 0) : rssE f s d xs = outE xs := by
  by_cases h2 : outE xs = 0 <;> simp [rssE, firstNZ, h, h2]
theorem rsl_O {f s d : Int} {xs : List Int} (h : eqzE f s d = 0) (hO : ¬ outE xs = 0) : rssE f s d xs = outE xs ∧ rslL f s d xs = [] :=
  ⟨rss_0 h, by unfold rslL; rw [rss_0 h, if_neg hO]⟩
theorem rsl_ok {f s d : Int} {xs : List Int} (h : eqzE f s d = 0) (hO : outE xs = 0) : rssE f s d xs = 0 ∧ rslL f s d xs = rsR f s d 0 0 xs :=
  ⟨(rss_0 h).trans hO, by unfold rslL; rw [rss_0 h, if_pos hO]⟩
end Go.Proofs.YtjjflbnopphciacGreatDoor


namespace Go.Proofs.YtjjflbnopphciacGreatDoor
open Go.RowKit

theorem add_add' (a : Addr) (m n : Nat) : (a.add m).add n = a.add (m + n) := by
  unfold Addr.add
  by_cases hm : m = 0
  · subst hm; simp
  · by_cases hn : n = 0
    · subst hn; simp
    · rw [if_neg hm, if_neg hn, if_neg (by omega)]
      simp [Nat.add_assoc]

/-- The address of a part of a slice. -/
def cutA (a : Option Addr) (lo c : Nat) : Option Addr := if c = lo then a else a.map (·.add (lo * 1))
theorem intElem : Tryz.prog.elem 27 = 3 := by kernel_rfl
theorem intsUnder' : Tryz.prog.underlying 27 = some (.slice (Tryz.prog.elem 27)) := by kernel_rfl
theorem sizeOfInt (W : World) : (sizeOf 3).run Tryz.prog W = .ok 1 W := by kernel_rfl
theorem cut_run (a : Option Addr) (n c lo hi m d : Nat) (l h : Int) (hl : l = lo) (hh : h = hi) (h1 : lo ≤ hi) (h2 : hi ≤ c) (hm : hi - lo = m) (hd : c - lo = d) (W : World) :
    (Instr.slice 27 (.slice a n c) (some (.int .i64 l)) (some (.int .i64 h)) none).run Tryz.prog W = .ok (.slice (cutA a lo c) m d) W := by
  have := run_slice_lh (P := Tryz.prog) (w := W) 27 a n c intsUnder' .i64 .i64 l h (by omega) (by omega) (by omega)
  rw [this, intElem, sizeOfInt, ← hm, ← hd, hl, hh]
  rfl
theorem cutTo_run (a : Option Addr) (n c hi : Nat) (h : Int) (hh : h = hi) (h2 : hi ≤ c) (W : World) :
    (Instr.slice 27 (.slice a n c) none (some (.int .i64 h)) none).run Tryz.prog W = .ok (.slice (cutA a 0 c) hi c) W := by
  have := run_slice_h (P := Tryz.prog) (w := W) 27 a n c intsUnder' .i64 h (by omega) (by omega)
  rw [this, intElem, sizeOfInt, hh]
  rfl
theorem cutFrom_run (a : Option Addr) (n c lo m d : Nat) (l : Int) (hl : l = lo) (h1 : lo ≤ n) (hm : n - lo = m) (hd : c - lo = d) (W : World) :
    (Instr.slice 27 (.slice a n c) (some (.int .i64 l)) none none).run Tryz.prog W = .ok (.slice (cutA a lo c) m d) W := by
  have := run_slice_l (P := Tryz.prog) (w := W) 27 a n c intsUnder' .i64 l (by omega) (by omega)
  rw [this, intElem, sizeOfInt, ← hm, ← hd, hl]
  rfl
theorem RdI.cut {w : World} {a : Option Addr} {n : Nat} {xs : List Int} (h : RdI w a n xs) (lo c m : Nat) (h1 : lo + m ≤ n) (h2 : n ≤ c) : RdI w (cutA a lo c) m ((xs.drop lo).take m) := by
  have hl := h.1
  refine ⟨by rw [List.length_take, List.length_drop]; omega, fun hm => ?_⟩
  obtain ⟨ad, rfl, hb, hc⟩ := h.2 (by omega)
  refine ⟨ad.add (lo * 1), ?_, by rw [addBlock]; exact hb, fun j hj => ?_⟩
  · unfold cutA; rw [if_neg (by omega)]; rfl
  · rw [add_add', hc (lo * 1 + j) (by omega)]
    congr 2
    simp only [List.getD_eq_getElem?_getD, List.getElem?_take, List.getElem?_drop]
    rw [if_pos hj, Nat.mul_one]

/-- A list of the call's own that reads as xs, and an error; what its address is. -/
def RdResN (w : World) (E : Int) (n : Nat) (xs : List Int) (e : Ending) (w' : World) : Prop :=
  (∃ A' c', e = .returned (.tuple #[.slice A' n c', .int .i64 E]) ∧ RdI w' A' n xs ∧ n ≤ c' ∧ (A' = none → n = 0 ∧ c' = 0)) ∧ Below w.heap.size w w'
theorem OwnRes.rdN {w w' : World} {E : Int} {n : Nat} {xs : List Int} {e : Ending} (h : OwnRes w E xs e w') (hn : xs.length = n) : RdResN w E n xs e w' := by
  obtain ⟨⟨v, rfl, ho⟩, hb⟩ := h
  obtain ⟨A, c, rfl, hnc, hr, hN⟩ := rd_ownN ho
  rw [hn] at hr hnc hN ⊢
  exact ⟨⟨A, c, rfl, hr, hnc, hN⟩, hb⟩
theorem cutA_none {A : Option Addr} {n c k : Nat} (hA : A = none → n = 0 ∧ c = 0) (hk : k ≤ n) : cutA A 0 c = none → k = 0 ∧ c = 0 := by
  intro h
  unfold cutA at h
  cases A with
  | none => have := hA rfl; omega
  | some a => split at h <;> simp at h
theorem rd_take {w : World} {a : Option Addr} {n : Nat} {xs : List Int} (h : RdI w a n xs) (c k : Nat) (h1 : k ≤ n) (h2 : n ≤ c) : RdI w (cutA a 0 c) k (xs.take k) := by
  have := h.cut 0 c k (by omega) h2
  rwa [List.drop_zero] at this

end Go.Proofs.YtjjflbnopphciacGreatDoor


namespace Go.Proofs.YtjjflbnopphciacGreatDoor
open Go.RowKit

end Go.Proofs.YtjjflbnopphciacGreatDoor


namespace Go.Proofs.YtjjflbnopphciacGreatDoor
open Go.RowKit

end Go.Proofs.YtjjflbnopphciacGreatDoor

