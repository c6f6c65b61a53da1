import Derived.Test.YtepcciodhppbnaaE20
namespace Go.Proofs.Ytepcciodhppbnaa
open Go.RowKit

open Go.Shelf
attribute [local go_sem] Oper.semAt_some

def goodAt (opv : Nat → Int × Int) (last : Int) (k : Nat) : Prop := (opv k).2 = 0 ∧ (opv k).1 ≤ last
instance (opv : Nat → Int × Int) (last : Int) (k : Nat) : Decidable (goodAt opv last k) := by unfold goodAt; infer_instance
def stopAt (opv : Nat → Int × Int) (last : Int) : Nat → Nat → Nat
  | k, 0 => k
  | k, f + 1 => if goodAt opv last k then stopAt opv last (k + 1) f else k
theorem stopAt_eq {opv : Nat → Int × Int} {last : Int} {K : Nat} : ∀ {f k : Nat}, (∀ i, k ≤ i → i < K → goodAt opv last i) → k ≤ K → K ≤ k + f → (K < k + f → ¬ goodAt opv last K) → stopAt opv last k f = K
  | 0, k, _, h1, h2, _ => by unfold stopAt; omega
  | f + 1, k, hg, h1, h2, h3 => by
    unfold stopAt
    by_cases hk : k = K
    · subst hk
      rw [if_neg (h3 (by omega))]
    · rw [if_pos (hg k (Nat.le_refl _) (by omega))]
      exact stopAt_eq (fun i a b => hg i (by omega) b) (by omega) (by omega) (fun h => h3 (by omega))
/-- The positions of all outputs, and the error. -/
def posOut (opv : Nat → Int × Int) (last : Int) : List Int × Int :=
  if stopAt opv last 0 2001 = 2001 then ([], 8) else ((List.range (stopAt opv last 0 2001)).map (fun k => (opv k).1), 0)

/-- The boxes of PositionsOf but for the positions' own. -/
structure QI (w : World) (last : Int) (b7 : Nat) (v4 : Value) (e5 : Int) (W : World) : Prop where
  k4 : Bk W (w.heap.size + 1) 29 #[v4]
  k5 : Bk W (w.heap.size + 2) 30 #[.int .i64 e5]
  k7 : Bk W b7 3 #[.int .i64 last]
  bel : Below w.heap.size w W
theorem QI.later {w W w' : World} {last : Int} {b7 : Nat} {v4 : Value} {e5 : Int} (h : QI w last b7 v4 e5 W) (hb : Below W.heap.size W w') : QI w last b7 v4 e5 w' :=
  ⟨h.k4.later hb, h.k5.later hb, h.k7.later hb, h.bel.trans (hb.mono h.bel.size)⟩
theorem QI.own {w : World} {last : Int} {b7 : Nat} {v4 : Value} {e5 : Int} (n : Nat) (hn : w.heap.size ≤ n) : OwnFrom n (fun (_ : Unit) W => QI w last b7 v4 e5 W) := fun s X Y row hs hg hr => by
  have k : ∀ {g : Nat} {t : TypeId} {cs : Array Value}, Bk X g t cs → Bk Y g t cs := fun {g t cs} h => Bk.grown h hg (fun e' => by
    obtain ⟨_, o, ho, hc⟩ := hr g e'.symm
    rw [show X.heap[g]? = _ from h] at ho; cases ho; cases hc)
  exact ⟨k hs.k4, k hs.k5, k hs.k7, hs.bel.grown hg hs.bel.size (fun k e => by have := (hr k e).1; omega)⟩
/-- The positions that came, in their own box. -/
def RowI (n0 b8 : Nat) (l : List Int) (W : World) : Prop := ∃ v, Boxed W b8 29 v ∧ W.ownsRow n0 3 1 v l.length (l.map (Value.int .i64))

theorem RowI.own {n0 b8 : Nat} {l : List Int} {X Y : World} {row : Option Nat} (h : RowI n0 b8 l X) (hg : X.grownBy Y row) (hr : ∀ r, row = some r → ∃ o : Obj, X.heap[r]? = some o ∧ o.isCells = false) : RowI n0 b8 l Y := by
  obtain ⟨v, h1, h2⟩ := h
  obtain ⟨v', a, b, _⟩ := holdsRow_own n0 b8 29 3 1 (fun (_ : Unit) => l.length) (fun _ => l.map (Value.int .i64)) (fun _ _ => True) () X Y row ⟨v, h1, h2, trivial⟩ hg hr
  exact ⟨v', a, b⟩
theorem range_snoc {pre : List Nat} {x q : Nat} (h : pre ++ [x] = List.range q) : x = pre.length ∧ pre = List.range pre.length ∧ q = pre.length + 1 := by
  have h1 : q = pre.length + 1 := by have := congrArg List.length h; simp at this; omega
  subst h1
  rw [List.range_succ] at h
  have h2 := List.append_inj h (by simp)
  exact ⟨by simpa using h2.2, h2.1, rfl⟩
theorem QI.set {w W : World} {last : Int} {b7 : Nat} {v4 : Value} {e5 : Int} (h : QI w last b7 v4 e5 W) (h7 : w.heap.size + 2 < b7) (v : Value) (e : Int) : QI w last b7 v e ((W.setCell ⟨w.heap.size + 1, 0, none⟩ v).setCell ⟨w.heap.size + 2, 0, none⟩ (.int .i64 e)) :=
  ⟨(h.k4.set_ 0 v).far _ (by simp) _, (h.k5.far _ (by simp) _).set_ 0 _, (h.k7.far _ (by simp; omega) _).far _ (by simp; omega) _, (h.bel.setCell (p := ⟨w.heap.size + 1, 0, none⟩) (by simp) _).setCell (p := ⟨w.heap.size + 2, 0, none⟩) (by simp) _⟩
/-- How the function comes back. -/
theorem QI.row {w W : World} {last : Int} {b7 : Nat} {v4 : Value} {e5 : Int} (h : QI w last b7 v4 e5 W) {v : Value} {n : Nat} {xs : List Value} (hr : W.ownsRow w.heap.size 3 1 v n xs) (u : Value) (e : Int) : ((W.setCell ⟨w.heap.size + 1, 0, none⟩ u).setCell ⟨w.heap.size + 2, 0, none⟩ (.int .i64 e)).ownsRow w.heap.size 3 1 v n xs := by
  have h4 : Boxed W (w.heap.size + 1) 29 v4 := h.k4
  have h5 : Boxed W (w.heap.size + 2) 30 (.int .i64 e5) := h.k5
  have hr1 := hr.kept (grownBy_setCell' W (w.heap.size + 1) u) (.inr (h4.not_row (by decide) hr).symm)
  have h51 : Boxed (W.setCell ⟨w.heap.size + 1, 0, none⟩ u) (w.heap.size + 2) 30 (.int .i64 e5) := h5.other (by omega) u
  exact hr1.kept (grownBy_setCell' _ (w.heap.size + 2) _) (.inr (h51.not_row (by decide) hr1).symm)

theorem QI.kb {w W W' : World} {last : Int} {b7 n0 : Nat} {v4 : Value} {e5 : Int} (h : QI w last b7 v4 e5 W) (k : KB (b7 + 1) n0 W W') (h7 : w.heap.size + 2 < b7) (hn : b7 < n0) (hb : Below w.heap.size W W') : QI w last b7 v4 e5 W' :=
  ⟨k.bk h.k4 (by omega) (by omega), k.bk h.k5 (by omega) (by omega), k.bk h.k7 hn (by omega), h.bel.trans hb⟩
/-- How a round of PositionsOf leaves the loop. -/
def QX (w : World) (n0 : Nat) (opv : Nat → Int × Int) (last : Int) (b7 : Nat) (cc : Code) (W : World) : Prop :=
  (cc = .ret ∧ stopAt opv last 0 2001 = 2001 ∧ QI w last b7 (.slice none 0 0) 8 W) ∨ (cc = .exit 0 ∧ ∃ k, stopAt opv last 0 2001 = k ∧ k ≤ 2000 ∧ QI w last b7 (.slice none 0 0) 0 W ∧ RowI n0 (b7 + 1) ((List.range k).map fun k => (opv k).1) W)

set_option maxRecDepth 100000 in
set_option maxHeartbeats 4000000 in
theorem PositionsOf_ok (k0 k1 k2 k3 k4 : Int) (A : Option Addr) (m c : Nat) (cnt : Nat) (opv : Nat → Int × Int) (w : World) (hcnt : cnt ≤ 400)
    (hcr : ∀ W, Below w.heap.size w W → Calls Try.prog 17 #[.agg #[.int .i64 k0, .int .i64 k1, .int .i64 k2, .int .i64 k3, .int .i64 k4, .slice A m c]] W fun e w' => e = .returned (.int .i64 0) ∧ Below W.heap.size W w')
    (hop : ∀ (k : Nat) W, k ≤ 2000 → (∀ g, g < w.heap.size → W.heap[g]? = w.heap[g]?) → w.heap.size ≤ W.heap.size → Calls Try.prog 119 #[.agg #[.int .i64 k0, .int .i64 k1, .int .i64 k2, .int .i64 k3, .int .i64 k4, .slice A m c], .int .i64 k] W fun e w' => e = .returned (.tuple #[.int .i64 (opv k).1, .int .i64 (opv k).2]) ∧ Below W.heap.size W w') :
    Calls Try.prog 14 #[.agg #[.int .i64 k0, .int .i64 k1, .int .i64 k2, .int .i64 k3, .int .i64 k4, .slice A m c], .int .i64 cnt] w (OwnRes w (posOut opv (64 * ((cnt : Int) - 1))).2 (posOut opv (64 * ((cnt : Int) - 1))).1) := by
  have HCR := Lib.hid hcr
  have HOP := Lib.hid hop
  have CL := Lib.hid (fun w => lastPosition_any cnt w (by omega))
  have C3 := Lib.hid (fun x y w h1 h2 => from1_any (cnt : Int) 0 400 x y w h1 h2)
  rw [rngE_of (show (0 : Int) ≤ (cnt : Int) ∧ (cnt : Int) ≤ 400 by omega)] at C3
  obtain ⟨last, hlast⟩ : ∃ x, 64 * ((cnt : Int) - 1) = x := ⟨_, rfl⟩
  rw [hlast] at CL ⊢
  clear hcr hop hlast
  refine (callsIn_wide (n := 6)).1 ?_
  refine callsIn_of_wp_marks Try.func14 rfl trivial ?_ rfl
  simp only [Try.ntmps14, List.size_toArray, List.length_cons, List.length_nil, Nat.reduceAdd, Nat.reduceSub, Array.replicate_succ, Array.replicate_zero, List.push_toArray, List.append_toArray, List.nil_append, List.cons_append]
  gi_wp2_with fail
  refine ⟨trivial, ?_⟩
  refine (callsIn_wide.2 (HCR.out _ (by go_grown))).mono ?_
  rintro e w1 ⟨rfl, hb1⟩
  have R0 := Lib.hid (OneB.later hb1 (((OneB.start w 26 #[.int .i64 k0, .int .i64 k1, .int .i64 k2, .int .i64 k3, .int .i64 k4, .slice A m c]).alloc (.cells #[.slice none 0 0] 29)).alloc (.cells #[.int .i64 0] 30)))
  have K4 : Hid (Bk w1 (w.heap.size + 1) 29 #[.slice none 0 0]) := Bk.later (by have h := (Bk.new (w.alloc (.cells #[.int .i64 k0, .int .i64 k1, .int .i64 k2, .int .i64 k3, .int .i64 k4, .slice A m c] 26)) 29 #[.slice none 0 0]).alloc (.cells #[.int .i64 0] 30); simpa using h) hb1
  have K5 : Hid (Bk w1 (w.heap.size + 2) 30 #[.int .i64 0]) := Bk.later (by have h := Bk.new ((w.alloc (.cells #[.int .i64 k0, .int .i64 k1, .int .i64 k2, .int .i64 k3, .int .i64 k4, .slice A m c] 26)).alloc (.cells #[.slice none 0 0] 29)) 30 #[.int .i64 0]; simpa using h) hb1
  have hz1 : w.heap.size + 3 ≤ w1.heap.size := by have := K5.out.lt; omega
  clear hb1
  obtain ⟨c0, c1, c2, c3, c4, c5⟩ := R0.out.six
  have hne : ¬ w.heap.size = w1.heap.size := by omega
  have hlt : w.heap.size < w1.heap.size := by omega
  gi_wp2_with (first
    | (refine ⟨trivial, ?_⟩; gi_at_call 63; refine (callsIn_wide.2 (from_any _ _ _)).mono ?_; rintro e w' ⟨rfl, rfl⟩)
    | (refine ⟨trivial, ?_⟩; gi_at_call 117; refine (callsIn_wide.2 (C3.out _ _ _ ?_ ?_)).mono ?_; (focus (simp [go_sem])); (focus (simp [go_sem])); rintro e w' ⟨rfl, rfl⟩))
  refine ⟨trivial, ?_⟩
  refine (callsIn_wide.2 (firstError2 (E1 := 0) (E2 := 0) (F := 0) rfl _ _ ?_ ?_)).mono ?_
  · simp [go_sem]
  · simp [go_sem]
  rintro e w' ⟨rfl, rfl⟩
  have R3 := Lib.hid (((R0.out.alloc (.cells #[.int .i64 0] 3)).alloc (.cells #[.int .i64 400] 3)).alloc (.cells #[.int .i64 0, .int .i64 0] 30))
  have K43 := Lib.hid (((K4.out.alloc (.cells #[.int .i64 0] 3)).alloc (.cells #[.int .i64 400] 3)).alloc (.cells #[.int .i64 0, .int .i64 0] 30))
  have K53 := Lib.hid (((K5.out.alloc (.cells #[.int .i64 0] 3)).alloc (.cells #[.int .i64 400] 3)).alloc (.cells #[.int .i64 0, .int .i64 0] 30))
  obtain ⟨W3, hW3⟩ : ∃ W3, (((w1.alloc (.cells #[.int .i64 0] 3)).alloc (.cells #[.int .i64 400] 3)).alloc (.cells #[.int .i64 0, .int .i64 0] 30)) = W3 := ⟨_, rfl⟩
  rw [hW3] at R3 K43 K53 ⊢
  clear hW3 R0 K4 K5 c0 c1 c2 c3 c4 c5 hne hlt hz1
  obtain ⟨c0, c1, c2, c3, c4, c5⟩ := R3.out.six
  have hz3 : w.heap.size + 3 ≤ W3.heap.size := by have := K53.out.lt; omega
  have hlt : w.heap.size < W3.heap.size := by omega
  have hlt2 : w.heap.size < W3.heap.size + 1 := by omega
  have hne : ¬ w.heap.size = W3.heap.size := by omega
  have hne2 : ¬ w.heap.size = W3.heap.size + 1 := by omega
  gi_wp2_with (refine ⟨trivial, ?_⟩; gi_at_call 64; refine (callsIn_wide.2 (CL.out _)).mono ?_; rintro e w' ⟨rfl, rfl⟩)
  refine ⟨trivial, ?_⟩
  refine (callsIn_wide.2 (outputsOf_any _ _ ⟨_, _, _, _, _, _, rfl, rfl, rfl, rfl, rfl, rfl, rfl⟩)).mono ?_
  rintro e w2 ⟨rfl, hw2⟩
  have hz2 : W3.heap.size + 3 ≤ w2.heap.size := by rw [hw2]; simp
  have hz2b : w2.heap.size ≤ W3.heap.size + 3 := by rw [hw2]; simp
  have HKR : Hid (Bk w2 (W3.heap.size + 1 + 1) 26 #[.int .i64 k0, .int .i64 k1, .int .i64 k2, .int .i64 k3, .int .i64 k4, .slice A m c]) := by
    show Bk _ _ _ _; rw [hw2]
    have h := Bk.new ((W3.alloc (.cells #[.int .i64 last] 3)).alloc (.cells #[.slice none 0 0] 29)) 26 #[.int .i64 k0, .int .i64 k1, .int .i64 k2, .int .i64 k3, .int .i64 k4, .slice A m c]
    simpa using h
  have HQ2 : Hid (QI w last W3.heap.size (.slice none 0 0) 0 w2) := by
    refine ⟨?_, ?_, ?_, ?_⟩ <;> rw [hw2]
    · exact ((K43.out.alloc _).alloc _).alloc _
    · exact ((K53.out.alloc _).alloc _).alloc _
    · exact ((Bk.new W3 _ _).alloc _).alloc _
    · have := R3.out.b
      have := this.size
      go_grown
  have HR2 : Hid (RowI w2.heap.size (W3.heap.size + 1) [] w2) := by
    refine ⟨.slice none 0 0, ?_, World.ownsRow_nil _ _ _ _⟩
    rw [hw2]
    have h := (Boxed.new (W3.alloc (.cells #[.int .i64 last] 3)) 29 (.slice none 0 0)).alloc (.cells #[.int .i64 k0, .int .i64 k1, .int .i64 k2, .int .i64 k3, .int .i64 k4, .slice A m c] 26)
    simpa using h
  clear hw2 R3 K43 K53 c0 c1 c2 c3 c4 c5
  have hlo : ∀ W, KB (W3.heap.size + 1) w2.heap.size w2 W → (∀ g, g < w.heap.size → W.heap[g]? = w.heap[g]?) ∧ w.heap.size ≤ W.heap.size := fun W h =>
    ⟨fun g hg => (h.block g (by omega) (by omega)).trans (HQ2.out.bel.block g hg), by have := h.size; omega⟩
  have HLO := Lib.hid hlo
  clear hlo
  gi_wp2_with fail
  refine wpIn_rangeFunc_lim (α := Nat) rfl (by omega) (gf := 118) (lb := #[.pointer (some ⟨W3.heap.size + 1 + 1, 0, none⟩)]) rfl trivial (enters_of Try.func118 (by kernel_rfl) rfl)
    (outs_lim _ (by omega) (W3.heap.size + 1 + 1) (W3.heap.size + 1) w2.heap.size 2000 opv k0 k1 k2 k3 k4 A m c w2 (by omega) (by omega) rfl (by omega) HKR.out (fun k W hk h => HOP.out k W hk (HLO.out W h).1 (HLO.out W h).2)) (Below.refl _ _) (fun _ => rfl)
    (fun h k => h.trans k) (fun W l o o' hl _ _ => KB.putObj W l o' hl)
    (fun pre W => QI w last W3.heap.size (.slice none 0 0) 0 W ∧ RowI w2.heap.size (W3.heap.size + 1) (pre.map fun k => (opv k).1) W ∧ (∀ i ∈ pre, goodAt opv last i) ∧ pre.length ≤ 2000 ∧ w2.heap.size ≤ W.heap.size)
    (fun cc _ W => QX w w2.heap.size opv last W3.heap.size cc W)
    (fun s X Y row hs hg hr => ⟨QI.own w2.heap.size (by omega) () X Y row hs.1 hg hr, hs.2.1.own hg (fun r e => (hr r e).2), hs.2.2.1, hs.2.2.2.1, Nat.le_trans hs.2.2.2.2 hg.size⟩)
    (fun cc s X Y row hs hg hr => by
      rcases hs with ⟨h1, h2, h3⟩ | ⟨h1, k, h2, h3, h4, h5⟩
      · exact .inl ⟨h1, h2, QI.own w2.heap.size (by omega) () X Y row h3 hg hr⟩
      · exact .inr ⟨h1, k, h2, h3, QI.own w2.heap.size (by omega) () X Y row h4 hg hr, h5.own hg (fun r e => (hr r e).2)⟩)
    (fun pre W h => h.2.2.2.1)
    ⟨HQ2.out, HR2.out, by simp, by simp, Nat.le_refl _⟩
    (fun x => { tmps := #[.agg #[.int .i64 k0, .int .i64 k1, .int .i64 k2, .int .i64 k3, .int .i64 k4, .slice A m c], .int .i64 cnt, .pointer (some ⟨w.heap.size, 0, none⟩), undef, .pointer (some ⟨w.heap.size + 1, 0, none⟩), .pointer (some ⟨w.heap.size + 1 + 1, 0, none⟩), .int .i64 0, .pointer (some ⟨W3.heap.size, 0, none⟩), .pointer (some ⟨W3.heap.size + 1, 0, none⟩), .int .i64 (opv x).1, .agg #[.int .i64 k0, .int .i64 k1, .int .i64 k2, .int .i64 k3, .int .i64 k4, .slice A m c], .int .i64 0, .func (.func 117) #[] #[.pointer (some ⟨w1.heap.size, 0, none⟩), .pointer (some ⟨w1.heap.size + 1, 0, none⟩)], .int .i64 cnt, .int .i64 0, .slice (some ⟨w1.heap.size + 1 + 1, 0, none⟩) 2 2, .int .i64 0, .int .i64 0, .bool false, undef, .int .i64 cnt, .int .i64 last, .agg #[.int .i64 k0, .int .i64 k1, .int .i64 k2, .int .i64 k3, .int .i64 k4, .slice A m c], .func (.func 118) #[] #[.pointer (some ⟨W3.heap.size + 1 + 1, 0, none⟩)], .int .i64 (opv x).1, undef, undef, undef, undef, undef, undef, undef, undef, undef, undef, undef], defers := [] }) ?assign ?body ?done ?stop
  case assign =>
    intro l x W K hK
    gi_wp2
    exact hK
  case body =>
    rintro l pre x W ⟨hQ, hR, hG, hlen, hsz⟩ ⟨q, hpre, hq, herr⟩
    obtain ⟨hx, hpr, hqq⟩ := range_snoc hpre
    have hxe := herr x (by omega)
    obtain ⟨k, hk⟩ : ∃ k, pre.length = k := ⟨_, rfl⟩
    rw [hk] at hx hpr hqq hlen
    subst hx
    have hrowEq : (pre.map fun k => (opv k).1) = (List.range x).map fun k => (opv k).1 := by rw [hpr]
    have hGr : ∀ i, i < x → goodAt opv last i := fun i hi => hG i (by rw [hpr]; simpa using hi)
    rw [hrowEq] at hR
    have HGr := Lib.hid hGr
    have HQ := Lib.hid hQ
    obtain ⟨v, hv, hrow⟩ := hR
    have hrl : ((List.range x).map fun k => (opv k).1).length = x := by simp
    rw [hrl] at hrow
    obtain ⟨A', c', rfl, _, _⟩ := rd_of_own hrow
    have HV := Lib.hid hv
    have HROW := Lib.hid hrow
    have HME := Lib.hid hrowEq
    have HPR := Lib.hid hpr
    have HXE := Lib.hid hxe
    obtain ⟨c7, _⟩ := bk1 hQ.k7
    obtain ⟨c4, z4⟩ := bk1 hQ.k4
    obtain ⟨c5, z5⟩ := bk1 hQ.k5
    have c8 := hv.cell
    obtain ⟨p, hp⟩ : ∃ p, (opv x).1 = p := ⟨_, rfl⟩
    rw [hp]
    have HP := Lib.hid hp
    clear hp hxe hpr hrowEq hGr hQ hv hrow hpre herr hG hrl hk hqq hq
    by_cases h1 : last < p
    · gi_wp2
      refine ⟨KeepsFrom.refl _ _, .inr ⟨rfl, x, ?_, hlen, HQ.out, ?_⟩⟩
      · exact stopAt_eq (fun i _ h => HGr.out i h) (Nat.zero_le _) (by omega) (fun _ h => by have := h.2; rw [HP.out] at this; omega)
      · exact ⟨_, HV.out, by simpa using HROW.out⟩
    · have hg : Hid (goodAt opv last x) := ⟨HXE.out, by rw [HP.out]; omega⟩
      by_cases h2 : x = 2000
      · subst h2
        gi_wp2
        refine ⟨((KeepsOthers.setCell _ _ _).trans (KeepsOthers.setCell _ _ _)).from _, .inl ⟨rfl, ?_, HQ.out.set (by omega) _ _⟩⟩
        exact stopAt_eq (fun i _ h => by
          rcases (by omega : i < 2000 ∨ i = 2000) with h | rfl
          · exact HGr.out i h
          · exact hg.out) (by omega) (by omega) (fun h => by omega)
      · have h2I : ((x : Int) == 2000) = false := by rw [beq_eq_false_iff_ne]; omega
        obtain ⟨i0, hi, hz0, hz1, hz2'⟩ := info_parts intInfo'
        have hBs := HQ.out.bel.size
        gi_wp2_with (gi_at_builtin; refine wpListIn_append_own _ rfl _ _ 29 rfl w2.heap.size 3 i0 (.int .i64 0) 1 8 Try.underlying29 hi hz0 hz1 hz2' rfl (by decide) _ _ _ rfl (HROW.out.alloc _) ⟨W.heap.size, 0, none⟩ 1 1 [.int .i64 p] rfl rfl (cell_one_new _ _ _) (by simp [Value.oneCell']) (by unfold maxLen; omega) (by omega) (by simp; omega) ?_; intro v' w4 hown' hgrow _; obtain ⟨g', cap', rfl⟩ := ownsRow_succ hown'; obtain ⟨hv1, hv2, _, hk2, hb2⟩ := HV.out.appended (by decide) (ownMono HROW.out (show w.heap.size ≤ w2.heap.size by omega)) hBs (by omega) (ownMono hown' (show w.heap.size ≤ w2.heap.size by omega)) hgrow; have hr2 := hown'.kept (grownBy_setCell' w4 (W3.heap.size + 1) (.slice (some ⟨g', 0, none⟩) (x + 1) cap')) (.inr (hv1.not_row (by decide) hown').symm); have hc1 := hv1.cell; have hf1 := hv1.frozen)
        have hgrow' : (W.alloc (.cells #[.int .i64 p] 3)).grownBy w4 (Value.slice A' x c').ownBlock := hgrow
        have hKB : KB (W3.heap.size + 1) w2.heap.size W (w4.setCell ⟨W3.heap.size + 1, 0, none⟩ (.slice (some ⟨g', 0, none⟩) (x + 1) cap')) := by
          refine ⟨fun g h1 h2 => ?_, hk2.size⟩
          rw [heap_setCell_other _ _ _ _ (by simpa using h2), hgrow'.block g (by simp; omega) ?_, Below.heap_alloc _ _ _ (by omega)]
          rcases HROW.out.2 with ⟨e, _⟩ | ⟨g2, cap2, cur2, e, hb, _⟩
          · rw [e]; simp [Value.ownBlock]
          · rw [e]; simp [Value.ownBlock]; omega
        have hQ' := HQ.out.kb hKB (by omega) (by omega) hb2
        refine ⟨hk2.from _, hKB, hQ', ⟨_, hv2, ?_⟩, ?_, ?_, Nat.le_trans hsz hk2.size⟩
        · rw [List.map_append, HME.out]
          have e : (List.map (fun k => (opv k).1) (List.range x) ++ List.map (fun k => (opv k).1) [x]).length = x + 1 := by simp
          rw [e]
          simpa [HP.out] using hr2
        · intro i hi
          rcases List.mem_append.1 hi with h | h
          · rw [HPR.out] at h; exact HGr.out i (by simpa using h)
          · simp at h; subst h; exact hg.out
        · rw [HPR.out]; simp; omega
  case done =>
    rintro D xs W hD ⟨q, rfl, hq, herr, hne⟩ ⟨hQ, ⟨v, hv, hrow⟩, hG, hlen, hsz⟩ hK
    have HSA : Hid (stopAt opv last 0 2001 = q) := stopAt_eq (fun i _ h => hG i (by simpa using h)) (Nat.zero_le _) (by omega) (fun _ h => hne h.1)
    clear hG herr hne hlen
    have hrl0 : ((List.range q).map fun k => (opv k).1).length = q := by simp
    rw [hrl0] at hrow
    have HRL := Lib.hid hrl0
    clear hrl0
    obtain ⟨A', c', rfl, _, _⟩ := rd_of_own hrow
    obtain ⟨c4, z4⟩ := bk1 hQ.k4
    obtain ⟨c5, z5⟩ := bk1 hQ.k5
    have c8 := hv.cell
    have HQ := Lib.hid hQ
    have HROW := Lib.hid hrow
    have HK := Lib.hid hK
    obtain ⟨rl, hrl⟩ : ∃ r, (posOut opv last) = r := ⟨_, rfl⟩
    have HPO : Hid (posOut opv last = ((List.range q).map fun k => (opv k).1, 0)) := by show _ = _; unfold posOut; rw [HSA.out, if_neg (by omega)]
    clear hQ hrow hv hK hrl
    gi_wp2
    have hPf := HQ.out.set (by omega) (.slice A' q c') 0
    have hK' := ((KeepsOthers.setCell W ⟨w.heap.size + 1, 0, none⟩ (.slice A' q c')).trans (KeepsOthers.setCell _ ⟨w.heap.size + 2, 0, none⟩ (.int .i64 0))).same D _ HK.out rfl
    refine ⟨by simp, .inl ⟨_, _, rfl, run_takeDeferred hK', ?_⟩⟩
    have hPg := QI.own w2.heap.size (by omega) () _ _ (some D) hPf (grownBy_putObj' _ D (.deferred none)) (fun r e => by cases e; exact ⟨hD, _, hK', rfl⟩)
    have hRg := ownsRow_putObj (HQ.out.row (ownMono HROW.out (show w.heap.size ≤ w2.heap.size by omega)) (.slice A' q c') 0) (.deferred none) hK' rfl
    clear c4 z4 c5 z5
    obtain ⟨c4, _⟩ := bk1 hPg.k4
    obtain ⟨c5, _⟩ := bk1 hPg.k5
    refine ⟨.tuple #[.slice A' q c', .int .i64 0], ?_, ?_⟩
    · simp [results, Try.f14, go_sem, c4, c5]
    · refine ⟨⟨.slice A' q c', by rw [HPO.out], ?_⟩, hPg.bel⟩
      rw [HPO.out]
      dsimp only
      rw [HRL.out]
      exact hRg
  case stop =>
    rintro D cc pre W hD _ hX hK
    rcases hX with ⟨rfl, hsa, hQ⟩ | ⟨rfl, k, hsa, hk, hQ, v, hv, hrow⟩
    · have HPO : Hid (posOut opv last = ([], 8)) := by show _ = _; unfold posOut; rw [hsa, if_pos rfl]
      have HQ := Lib.hid hQ
      have HK := Lib.hid hK
      clear hsa hQ hK
      gi_wp2
      refine ⟨by simp, .inl ⟨_, _, rfl, run_takeDeferred HK.out, ?_⟩⟩
      have hPg := QI.own w2.heap.size (by omega) () _ _ (some D) HQ.out (grownBy_putObj' _ D (.deferred none)) (fun r e => by cases e; exact ⟨hD, _, HK.out, rfl⟩)
      obtain ⟨c4, _⟩ := bk1 hPg.k4
      obtain ⟨c5, _⟩ := bk1 hPg.k5
      refine ⟨.tuple #[.slice none 0 0, .int .i64 8], ?_, ?_⟩
      · simp [results, Try.f14, go_sem, c4, c5]
      · refine ⟨⟨.slice none 0 0, by rw [HPO.out], ?_⟩, hPg.bel⟩
        rw [HPO.out]
        exact World.ownsRow_nil _ _ _ _
    · have HSA : Hid (stopAt opv last 0 2001 = k) := hsa
      clear hsa
      have hrl0 : ((List.range k).map fun k => (opv k).1).length = k := by simp
      rw [hrl0] at hrow
      have HRL := Lib.hid hrl0
      clear hrl0
      obtain ⟨A', c', rfl, _, _⟩ := rd_of_own hrow
      obtain ⟨c4, z4⟩ := bk1 hQ.k4
      obtain ⟨c5, z5⟩ := bk1 hQ.k5
      have c8 := hv.cell
      have HQ := Lib.hid hQ
      have HROW := Lib.hid hrow
      have HK := Lib.hid hK
      obtain ⟨rl, hrl⟩ : ∃ r, (posOut opv last) = r := ⟨_, rfl⟩
      have HPO : Hid (posOut opv last = ((List.range k).map fun k => (opv k).1, 0)) := by show _ = _; unfold posOut; rw [HSA.out, if_neg (by omega)]
      clear hQ hrow hv hK hrl
      gi_wp2
      have hPf := HQ.out.set (by omega) (.slice A' k c') 0
      have hK' := ((KeepsOthers.setCell W ⟨w.heap.size + 1, 0, none⟩ (.slice A' k c')).trans (KeepsOthers.setCell _ ⟨w.heap.size + 2, 0, none⟩ (.int .i64 0))).same D _ HK.out rfl
      refine ⟨by simp, .inl ⟨_, _, rfl, run_takeDeferred hK', ?_⟩⟩
      have hPg := QI.own w2.heap.size (by omega) () _ _ (some D) hPf (grownBy_putObj' _ D (.deferred none)) (fun r e => by cases e; exact ⟨hD, _, hK', rfl⟩)
      have hRg := ownsRow_putObj (HQ.out.row (ownMono HROW.out (show w.heap.size ≤ w2.heap.size by omega)) (.slice A' k c') 0) (.deferred none) hK' rfl
      clear c4 z4 c5 z5
      obtain ⟨c4, _⟩ := bk1 hPg.k4
      obtain ⟨c5, _⟩ := bk1 hPg.k5
      refine ⟨.tuple #[.slice A' k c', .int .i64 0], ?_, ?_⟩
      · simp [results, Try.f14, go_sem, c4, c5]
      · refine ⟨⟨.slice A' k c', by rw [HPO.out], ?_⟩, hPg.bel⟩
        rw [HPO.out]
        dsimp only
        rw [HRL.out]
        exact hRg

end Go.Proofs.Ytepcciodhppbnaa
