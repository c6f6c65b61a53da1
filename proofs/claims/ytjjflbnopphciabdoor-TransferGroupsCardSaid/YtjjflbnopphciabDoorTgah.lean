import Derived.Test.YtjjflbnopphciabDoorTgac
import Derived.RangeFuncNested
import Derived.Test.YtjjflbnopphciabDoorRG7
import Derived.Test.YtjjflbnopphciabDoorRG5
namespace Go.Proofs.YtjjflbnopphciabDoor
open Go.RowKit
open Go.Shelf
attribute [local go_sem] Oper.semAt_some

/-- A block whose first m samples are numbers already. -/
def numTo (r : List Int) (m : Nat) : List Int := (List.range 8).map fun k => r.getD k 0 + if k < m then 32768 else 0
theorem numTo_length (r : List Int) (m : Nat) : (numTo r m).length = 8 := by simp [numTo]
theorem numTo_zero (r : List Int) (h : r.length = 8) : numTo r 0 = r := by
  match r, h with
  | [_, _, _, _, _, _, _, _], _ => simp [numTo, List.range, List.range.loop]
theorem numTo_at (r : List Int) (m k : Nat) (hk : k < 8) : (numTo r m).getD k 0 = r.getD k 0 + if k < m then 32768 else 0 := by
  simp [numTo, List.getD_eq_getElem?_getD, hk]
theorem numTo_step (r : List Int) (m : Nat) (hm : m < 8) : (numTo r m).set m (r.getD m 0 + 32768) = numTo r (m + 1) := by
  apply List.ext_getElem (by simp [numTo])
  intro i h1 h2
  have hi : i < 8 := by simpa [numTo] using h2
  rw [List.getElem_set]
  by_cases e : m = i
  · subst e; simp [numTo]
  · rw [if_neg e]
    simp only [numTo, List.getElem_map, List.getElem_range]
    by_cases h : i < m
    · rw [if_pos h, if_pos (by omega)]
    · rw [if_neg h, if_neg (by omega)]
/-- The numbers of block x. -/
def numL (ds : List (List Int)) (x : Nat) : List Int := numTo (ds.getD x []) 8
theorem grown_of_below {W W' : World} (h : Below W.heap.size W W') : W.grownBy W' none := ⟨h.os, h.tape, h.output, h.size, fun k hk _ => h.block k hk⟩
theorem iArr8 (l : List Int) (h : l.length = 8) : iArr l = #[.int .i64 (l.getD 0 0), .int .i64 (l.getD 1 0), .int .i64 (l.getD 2 0), .int .i64 (l.getD 3 0), .int .i64 (l.getD 4 0), .int .i64 (l.getD 5 0), .int .i64 (l.getD 6 0), .int .i64 (l.getD 7 0)] := by
  match l, h with
  | [_, _, _, _, _, _, _, _], _ => rfl
/-- All numbers of all blocks are samples. -/
def BndD (ds : List (List Int)) : Prop := ∀ i k, -32768 ≤ dc ds i k ∧ dc ds i k ≤ 32767

/-- Of what lay below B all but block X is as it was. -/
structure KX (X B : Nat) (W W' : World) : Prop where
  size : W.heap.size ≤ W'.heap.size
  block : ∀ k, k < B → k ≠ X → W'.heap[k]? = W.heap[k]?
theorem KX.trans {X B : Nat} {U V W : World} (h : KX X B U V) (k : KX X B V W) : KX X B U W := ⟨Nat.le_trans h.size k.size, fun i h1 h2 => (k.block i h1 h2).trans (h.block i h1 h2)⟩
theorem KX.of_below {X B B' : Nat} {W W' : World} (h : Below B' W W') (hb : B ≤ B') : KX X B W W' := ⟨h.size, fun k h1 _ => h.block k (by omega)⟩
theorem KX.cell {X B : Nat} {W W' : World} (h : KX X B W W') {p : Addr} (h1 : p.block < B) (h2 : p.block ≠ X) : W'.cell? p = W.cell? p := World.cell?_of_block (w := W) (h.block p.block h1 h2)
theorem RdD.kx {w w' : World} {A : Option Addr} {n X : Nat} {ds : List (List Int)} (h : RdD w A n ds) (hk : KX X w.heap.size w w') (hX : 0 < n → ∀ ad, A = some ad → ad.block ≠ X) : RdD w' A n ds := by
  refine ⟨h.1, h.2.1, fun h0 => ?_⟩
  obtain ⟨ad, hA, hg, hc⟩ := h.2.2 h0
  have hne := hX h0 ad hA
  exact ⟨ad, hA, Nat.lt_of_lt_of_le hg hk.size, fun i k hi hk' => (hk.cell (by rw [addBlock, addBlock]; exact hg) (by rw [addBlock, addBlock]; exact hne)).trans (hc i k hi hk')⟩

set_option maxRecDepth 100000 in
set_option maxHeartbeats 4000000 in
theorem weighted1_in (nf : Nat) (hn : 1 ≤ nf) (l Bd Bj X : Nat) (A : Option Addr) (n cp : Nat) (ds : List (List Int)) (j : Int) (hj : 0 ≤ j ∧ j ≤ 3) (hn2 : n ≤ 1000) (w0 : World) (hbd : Bd < w0.heap.size) (hbj : Bj < w0.heap.size) (hxd : Bd ≠ X) (hxj : Bj ≠ X) (hxa : 0 < n → ∀ ad, A = some ad → ad.block ≠ X)
    (hRd : RdD w0 A n ds) (hBd : w0.cell? ⟨Bd, 0, none⟩ = some (.slice A n cp)) (hBj : w0.cell? ⟨Bj, 0, none⟩ = some (.int .i64 j)) (hX : BndD ds) (J Jx : List Nat → World → Prop)
    (hY : ∀ pre (x : Nat) W, J pre W → pre ++ [x] <+: List.range n → YieldAt Fence.wide (nf - 1) Tryd.prog l #[.int .i64 (invT (4 + (x : Int) - j)), .agg (iArr (numL ds x))] W fun e W' =>
      (e = .returned (.bool true) ∧ J (pre ++ [x]) W' ∧ KX X w0.heap.size W W') ∨ (e = .returned (.bool false) ∧ Jx (pre ++ [x]) W'))
    (hd : ∀ pre W W', J pre W → Below W.heap.size W W' → J pre W')
    (W : World) (hW : KX X w0.heap.size w0 W) (h0 : J [] W) :
    CallsIn Fence.wide nf Tryd.prog 76 #[.func (.yield l) #[] #[], .pointer (some ⟨Bd, 0, none⟩), .pointer (some ⟨Bj, 0, none⟩)] W fun e W' => (∃ v, e = .returned v) ∧
      ((∃ ys, ys = List.range n ∧ J ys W') ∨ (∃ pre, pre <+: List.range n ∧ Jx pre W')) := by
  have HY := Lib.hid hY
  have H0 := Lib.hid h0
  have HD := Lib.hid hd
  have HR := Lib.hid hRd
  have HBD := Lib.hid hBd
  have HBJ := Lib.hid hBj
  have HW := Lib.hid hW
  have HX := Lib.hid hX
  clear hY h0 hRd hBd hBj hW hd hX
  refine callsIn_of_wp Tryd.func76 rfl trivial ?_ rfl
  simp only [Tryd.ntmps76, List.size_toArray, List.length_cons, List.length_nil, Nat.reduceAdd, Nat.reduceSub, Array.replicate_succ, Array.replicate_zero, List.push_toArray, List.append_toArray, List.nil_append, List.cons_append]
  have hBd0 : W.cell? ⟨Bd, 0, none⟩ = some (.slice A n cp) := (HW.out.cell (p := ⟨Bd, 0, none⟩) hbd hxd).trans HBD.out
  gi_wp2
  clear hBd0
  gi_loopw [9] (fun i wr => ∃ k : Nat, k ≤ n ∧ i = .int .i64 (k : Int) ∧ J ((List.range n).take k) wr ∧ Hid (KX X w0.heap.size w0 wr)) (fun i _ => (n - (intOf i).toNat))
  case atStart =>
    exact ⟨0, Nat.zero_le _, rfl, by simpa using H0.out, HW⟩
  case round =>
    obtain ⟨k, hk, rfl, hJ, HB⟩ := hrel
    by_cases hlt : k < n
    · obtain ⟨wA, hwA⟩ : ∃ X, X = wr := ⟨_, rfl⟩
      subst hwA
      have hR2 := HR.out.kx HB.out hxa
      have hdc : ∀ m, (ds.getD k []).getD m 0 = dc ds k m := fun m => rfl
      have hl8 : (ds.getD k []).length = 8 := HR.out.2.1 k (by rw [HR.out.1]; exact hlt)
      obtain ⟨ad, x0, x1, x2, x3, x4, x5, x6, x7, hAe, hbl, hrow, p0, p1, p2, p3, p4, p5, p6, p7⟩ := hR2.row hlt
      subst hAe
      have HJ := Lib.hid hJ
      have hjW : Hid (Bj < wA.heap.size) := Nat.lt_of_lt_of_le hbj HB.out.size
      have hkI : (k : Int) < (n : Int) := by omega
      have HNL : Hid (numL ds k = numTo (ds.getD k []) 8) := rfl
      have hxb : ∀ m, -32768 ≤ (ds.getD k []).getD m 0 ∧ (ds.getD k []).getD m 0 ≤ 32767 := fun m => HX.out k m
      have HXB := Lib.hid hxb
      obtain ⟨r, hr⟩ : ∃ r, ds.getD k [] = r := ⟨_, rfl⟩
      rw [hr] at hl8 hrow HNL HXB
      obtain ⟨w2, hw2⟩ : ∃ X, wA.alloc (.cells #[.int .i64 x0, .int .i64 x1, .int .i64 x2, .int .i64 x3, .int .i64 x4, .int .i64 x5, .int .i64 x6, .int .i64 x7] 34) = X := ⟨_, rfl⟩
      have hbk2 : Hid (Bk w2 wA.heap.size 34 (iArr (numTo r 0))) := by
        show Bk _ _ _ _
        rw [numTo_zero r hl8, hrow, ← hw2]
        exact Bk.new _ _ _
      have hbe2 : Hid (Below wA.heap.size wA w2) := by show Below _ _ _; rw [← hw2]; exact (Below.refl _ _).alloc (Nat.le_refl _) _
      have HW2 := Lib.hid hw2
      clear hw2 hJ hR2 hdc hr hrow hxb
      gi_wp2_with fail
      rw [HW2.out]
      clear HW2 p0 p1 p2 p3 p4 p5 p6 p7
      obtain ⟨g, hg⟩ : ∃ g, wA.heap.size = g := ⟨_, rfl⟩
      rw [hg] at hbk2 hjW ⊢
      have HG := Lib.hid hg
      clear hg
      gi_loopw [14] (fun i W => ∃ m : Nat, m ≤ 8 ∧ i = .int .i64 m ∧ Hid (Bk W g 34 (iArr (numTo r m))) ∧ Hid (Below wA.heap.size wA W)) (fun i _ => 8 - (intOf i).toNat)
      case atStart => exact ⟨0, Nat.zero_le _, rfl, hbk2, hbe2⟩
      case round =>
        obtain ⟨m, hm8, rfl, hbk, hbe⟩ := hrel
        clear hbk2 hbe2
        by_cases hm : m < 8
        · have hold : wr.cell? ⟨g, m, none⟩ = some (.int .i64 (r.getD m 0)) := by
            rw [hbk.out.cell, iArr_at _ _ (by rw [numTo_length]; exact hm), numTo_at r m m hm, if_neg (by omega), Int.add_zero]
          have hfr : wr.frozen? ⟨g, m, none⟩ = false := hbk.out.frozen _
          have hst := numTo_step r m hm
          have hxm := HXB.out m
          obtain ⟨o, ho⟩ : ∃ o, r.getD m 0 = o := ⟨_, rfl⟩
          rw [ho] at hold hst hxm
          have FIN : Hid (Bk (wr.setCell ⟨g, m, none⟩ (.int .i64 (o + 32768))) g 34 (iArr (numTo r (m + 1))) ∧ Below wA.heap.size wA (wr.setCell ⟨g, m, none⟩ (.int .i64 (o + 32768)))) := by
            refine ⟨?_, hbe.out.setCell (by rw [HG.out]; exact Nat.le_refl _) _⟩
            rw [← hst, ← iArr_set]
            exact hbk.out.set_ _ _
          have hmI : (m : Int) < 8 := by omega
          clear ho hst hbk hbe
          gi_wp2
          go_roundw
          case rel => exact ⟨m + 1, by omega, by go_num, FIN.out.1, FIN.out.2⟩
          case measure => simp [intOf]; omega
        · obtain rfl : m = 8 := by omega
          have HB8 : Hid (Bk wr g 34 (iArr (numL ds k))) := by show Bk _ _ _ _; rw [HNL.out]; exact hbk.out
          have hn8 : (numL ds k).length = 8 := by rw [HNL.out]; exact numTo_length _ _
          have hBW : KX X w0.heap.size w0 wr := HB.out.trans (KX.of_below hbe.out HB.out.size)
          have hbj2 : wr.cell? ⟨Bj, 0, none⟩ = some (.int .i64 j) := (hBW.cell (p := ⟨Bj, 0, none⟩) hbj hxj).trans HBJ.out
          have hltb : Bj < wr.heap.size := Nat.lt_of_lt_of_le hbj hBW.size
          have hgl : g < wr.heap.size := HB8.out.lt
          obtain ⟨fn, tmps, assign, body, hy, hR⟩ := HY.out _ k wr.drew (HD.out _ _ _ HJ.out (hbe.out.drew)) ⟨(List.range n).drop (k + 1), by rw [← range_takeT hlt, List.take_append_drop]⟩
          have CW : Hid (∀ W, Calls Tryd.prog 61 #[.int .i64 k, .int .i64 j] W fun e w' => e = .returned (.int .i64 (invT (4 + (k : Int) - j))) ∧ W = w') := fun W => weightOf_any k j (by omega) hj W
          obtain ⟨wt, hwt⟩ : ∃ wt, invT (4 + (k : Int) - j) = wt := ⟨_, rfl⟩
          rw [hwt] at hy CW
          obtain ⟨nl, hnl⟩ : ∃ nl, numL ds k = nl := ⟨_, rfl⟩
          rw [hnl] at hn8 HB8 hy
          rw [iArr8 nl hn8] at hy HB8
          have HW5 : Hid (KX X w0.heap.size w0 wr.drew) := ⟨hBW.size, hBW.block⟩
          have HRB := Lib.hid (hR.mono (R' := fun e W' => ∃ b : Bool, e = .returned (.bool b) ∧ ((b = true ∧ J ((List.range n).take k ++ [k]) W' ∧ KX X w0.heap.size wr.drew W') ∨ (b = false ∧ Jx ((List.range n).take k ++ [k]) W'))) (by
            rintro e W' (⟨rfl, h1, h2⟩ | ⟨rfl, h1⟩)
            · exact ⟨true, rfl, .inl ⟨rfl, h1, h2⟩⟩
            · exact ⟨false, rfl, .inr ⟨rfl, h1⟩⟩))
          clear hR
          clear hwt hnl hn8 hbk hbe hBW HNL
          generalize nl.getD 0 0 = y0 at *
          generalize nl.getD 1 0 = y1 at *
          generalize nl.getD 2 0 = y2 at *
          generalize nl.getD 3 0 = y3 at *
          generalize nl.getD 4 0 = y4 at *
          generalize nl.getD 5 0 = y5 at *
          generalize nl.getD 6 0 = y6 at *
          generalize nl.getD 7 0 = y7 at *
          have e0 : wr.cell? ⟨g, 0, none⟩ = some (.int .i64 y0) := by rw [HB8.out.cell]; rfl
          have e1 : wr.cell? ⟨g, 1, none⟩ = some (.int .i64 y1) := by rw [HB8.out.cell]; rfl
          have e2 : wr.cell? ⟨g, 2, none⟩ = some (.int .i64 y2) := by rw [HB8.out.cell]; rfl
          have e3 : wr.cell? ⟨g, 3, none⟩ = some (.int .i64 y3) := by rw [HB8.out.cell]; rfl
          have e4 : wr.cell? ⟨g, 4, none⟩ = some (.int .i64 y4) := by rw [HB8.out.cell]; rfl
          have e5 : wr.cell? ⟨g, 5, none⟩ = some (.int .i64 y5) := by rw [HB8.out.cell]; rfl
          have e6 : wr.cell? ⟨g, 6, none⟩ = some (.int .i64 y6) := by rw [HB8.out.cell]; rfl
          have e7 : wr.cell? ⟨g, 7, none⟩ = some (.int .i64 y7) := by rw [HB8.out.cell]; rfl
          gi_wp2
          gi_region_with (first
            | (refine ⟨trivial, ?_⟩; gi_at_call 61; refine (callsIn_wide.2 (CW.out _)).mono ?_; rintro e w' ⟨rfl, rfl⟩)
            | (refine HRB.out.mono ?_; rintro e W3 ⟨bb, rfl, hbb⟩))
          all_goals
            rcases hbb with ⟨rfl, hJ3, hk3⟩ | ⟨rfl, hJx3⟩
            · gi_wp2
              go_roundw
              case rel => exact ⟨k + 1, by omega, by go_num, by rw [range_takeT hlt]; exact hJ3, HW5.out.trans hk3⟩
              case measure => simp [intOf]; omega
            · gi_wp2
              refine bodyPost_ret (results_none rfl _ _ _) rfl ?_
              exact ⟨⟨_, rfl⟩, .inr ⟨_, ⟨(List.range n).drop (k + 1), by rw [← range_takeT hlt, List.take_append_drop]⟩, hJx3⟩⟩
    · obtain rfl : n = k := by omega
      gi_wp2
      go_end0
      exact ⟨⟨_, rfl⟩, .inl (by rw [List.take_of_length_le (by simp)] at hJ; first | exact hJ | exact ⟨_, rfl, hJ⟩)⟩

end Go.Proofs.YtjjflbnopphciabDoor

namespace Go.Proofs.YtjjflbnopphciabDoor
open Go.RowKit
open Go.Shelf
attribute [local go_sem] Oper.semAt_some

/-- What a loop's frame is where its second variable is a box: by the slots. -/
def AxB {α : Type} (B : Nat) (a : Act) (p1 p2 q1 q2 : Tmp) (enc1 enc2 : α → Value) (T : TypeId) (cs : α → Array Value) (x : α) (a' : Act) (W : World) : Prop :=
  ∃ Bx, B ≤ Bx ∧ Bk W Bx T (cs x) ∧ a' = { tmps := (((a.tmps.setIfInBounds p1 (enc1 x)).setIfInBounds p2 (enc2 x)).setIfInBounds q1 (enc1 x)).setIfInBounds q2 (.pointer (some ⟨Bx, 0, none⟩)), defers := [] }

theorem bk_grown {X Y : World} {row : Option Nat} {B : Nat} {T : TypeId} {cs : Array Value} (h : Bk X B T cs) (hg : X.grownBy Y row) (hr : ∀ r, row = some r → ∃ o : Obj, X.heap[r]? = some o ∧ o.isCells = false) : Bk Y B T cs := by
  refine (hg.block B h.lt (fun e => ?_)).trans h
  obtain ⟨o, ho, hc⟩ := hr B e.symm
  rw [h.heap] at ho; cases ho; cases hc

theorem wpIn_rangeFunc_box2 {F : Fence} {n : Nat} {P : Program} {α : Type} {g : Operand} {p1 p2 : Tmp} {assign body : Code} {Q : Exit → Act → World → Prop} {a : Act} {w : World}
    (hro : F.round = none) (h1 : 1 ≤ n) {gf : Nat} {lb : Array Value} (hg : a.eval g = .func (.func gf) #[] lb) (hFg : F.fn gf) (eg : ∀ args w, (callFunc gf args).run P w = .ok (.enter gf args) w)
    (enc1 enc2 : α → Value) {Kp : World → World → Prop} {S Sp : List α → Prop} {N : Nat} {w0 : World} (hseq : SeqStopsK F (n - 1) P gf lb (fun x => #[enc1 x, enc2 x]) Kp S Sp N w0)
    (hKt : ∀ {A B C : World}, Kp A B → Kp B C → Kp A C) (hKb : ∀ (W : World) (l : Nat) (o o' : Obj), w.heap.size ≤ l → W.heap[l]? = some o → o.isCells = false → o.isWalk = false → Kp W (W.putObj l o')) (hb0 : Below w0.heap.size w0 w)
    (q1 q2 : Tmp) (T : TypeId) (cs : α → Array Value)
    (I : List α → World → Prop) (Ix : Code → List α → World → Prop) (hI : OwnFrom w.heap.size I) (hIx : ∀ c, OwnFrom w.heap.size (Ix c)) (h0 : I [] w)
    (hassign : ∀ (l : Nat) (pre : List α) (x : α) (W : World) (K : Act → World → Prop), I pre W → (∀ a' W', KeepsFrom w.heap.size W W' → Kp W W' → I pre W' → AxB w.heap.size a p1 p2 q1 q2 enc1 enc2 T cs x a' W' → K a' W') →
      assign.wpIn (F.inRound l) (n - 1 - 1) P (Exit.then K (fun _ _ _ => False)) { tmps := (a.tmps.setIfInBounds p1 (enc1 x)).setIfInBounds p2 (enc2 x), defers := [] } W)
    (hbody : ∀ (l : Nat) (pre : List α) (x : α) (Bx : Nat) (W : World), I pre W → w.heap.size ≤ Bx → Bk W Bx T (cs x) → pre.length < N → body.wpIn (F.inRound l) (n - 1 - 1) P (ownPostG w.heap.size Kp I Ix (pre ++ [x]) W)
      { tmps := (((a.tmps.setIfInBounds p1 (enc1 x)).setIfInBounds p2 (enc2 x)).setIfInBounds q1 (enc1 x)).setIfInBounds q2 (.pointer (some ⟨Bx, 0, none⟩)), defers := [] } W)
    (hdone : ∀ (D : Nat) (xs : List α) (W : World), w.heap.size ≤ D → S xs → I xs W → W.heap[D]? = some (.deferred (some [])) → Q .normal { a with defers := { target := .collected D, args := #[] } :: a.defers } W)
    (hstop : ∀ (D : Nat) (c : Code) (pre : List α) (W : World), w.heap.size ≤ D → Sp pre → Ix c pre W → W.heap[D]? = some (.deferred (some [])) → c.wpIn F n P Q { a with defers := { target := .collected D, args := #[] } :: a.defers } W) :
    (Code.rangeFunc g #[p1, p2] assign body).wpIn F n P Q a w :=
  wpIn_rangeFunc_ownH hro h1 hg hFg eg hseq hKt hKb hb0 (fun _ => rfl) I Ix hI hIx h0 (AxB w.heap.size a p1 p2 q1 q2 enc1 enc2 T cs)
    (fun x a' s X Y row hs hg hr => by
      obtain ⟨Bx, h1, h2, h3⟩ := hs
      exact ⟨Bx, h1, bk_grown h2 hg (fun r e => (hr r e).2), h3⟩)
    (fun l pre x W K hi hK => by simpa using hassign l pre x W K hi hK)
    (fun l pre x a' W _ _ hi hax hlt => by obtain ⟨Bx, h1, h2, rfl⟩ := hax; exact hbody l pre x Bx W hi h1 h2 hlt) hdone hstop

theorem weighted_stops (nf : Nat) (hn : 1 ≤ nf) (Bd Bj X : Nat) (A : Option Addr) (n cp : Nat) (ds : List (List Int)) (j : Int) (hj : 0 ≤ j ∧ j ≤ 3) (hn2 : n ≤ 1000) (w0 : World) (hbd : Bd < w0.heap.size) (hbj : Bj < w0.heap.size)
    (hRd : RdD w0 A n ds) (hBd : w0.cell? ⟨Bd, 0, none⟩ = some (.slice A n cp)) (hBj : w0.cell? ⟨Bj, 0, none⟩ = some (.int .i64 j)) (hX : BndD ds) (hxd : Bd ≠ X) (hxj : Bj ≠ X) (hxa : 0 < n → ∀ ad, A = some ad → ad.block ≠ X) :
    SeqStopsK Fence.wide nf Tryd.prog 76 #[.pointer (some ⟨Bd, 0, none⟩), .pointer (some ⟨Bj, 0, none⟩)] (fun x : Part n => #[Value.int .i64 (invT (4 + ((x.1 : Nat) : Int) - j)), Value.agg (iArr (numL ds x.1))]) (KX X w0.heap.size) (fun ys => ys.map (·.1) = List.range n) (fun pre => pre.map (·.1) <+: List.range n) n w0 := fun l J Jx W hW hJ _ hY h0 => by
  refine (weighted1_in nf hn l Bd Bj X A n cp ds j hj hn2 w0 hbd hbj hxd hxj hxa hRd hBd hBj hX (fun pre W => ∃ q : List (Part n), q.map (·.1) = pre ∧ J q W) (fun pre W => ∃ q : List (Part n), q.map (·.1) = pre ∧ Jx q W) ?_ ?_ W (KX.of_below hW (Nat.le_refl _)) ⟨[], rfl, h0⟩).mono ?_
  · rintro pre x W1 ⟨q, rfl, hq⟩ hp
    have hx : x < n := by
      have := hp.subset (show x ∈ q.map (·.1) ++ [x] by simp)
      simpa using this
    refine (hY q ⟨x, hx⟩ W1 hq (by have := hp.length_le; simp at this; omega)).mono ?_
    rintro e W' (⟨he, hj, hk⟩ | ⟨he, hj⟩)
    · exact .inl ⟨he, ⟨_, by simp, hj⟩, hk⟩
    · exact .inr ⟨he, ⟨_, by simp, hj⟩⟩
  · rintro pre W1 W2 ⟨q, rfl, hq⟩ hb
    exact ⟨q, rfl, hJ _ _ _ none hq (grown_of_below hb) (fun r e => by cases e)⟩
  · rintro e W' ⟨hv, (⟨ys, rfl, q, hq, hj⟩ | ⟨pre, hp, q, rfl, hj⟩)⟩
    · exact ⟨hv, .inl ⟨q, hq, hj⟩⟩
    · exact ⟨hv, .inr ⟨q, hp, hj⟩⟩

theorem weighted_any (A : Option Addr) (n cp : Nat) (j : Int) (w : World) :
    Calls Tryd.prog 58 #[.slice A n cp, .int .i64 j] w fun e w' => e = .returned (.func (.func 76) #[] #[.pointer (some ⟨w.heap.size, 0, none⟩), .pointer (some ⟨w.heap.size + 1, 0, none⟩)]) ∧ (w.alloc (.cells #[.slice A n cp] 22)).alloc (.cells #[.int .i64 j] 3) = w' := by
  go_enter Tryd.func58, Tryd.ntmps58
  go_wp2
  go_ret
  first | exact ⟨rfl, rfl⟩ | (refine ⟨?_, rfl⟩; simp)

/-- A parity with one more block. -/
def addP (p : List Int) (wt : Int) (nums : List Int) (m : Nat) : List Int := (List.range 8).map fun k => if k < m then (p.getD k 0 + wt * nums.getD k 0) % 65537 else p.getD k 0
theorem addP_length (p : List Int) (wt : Int) (nums : List Int) (m : Nat) : (addP p wt nums m).length = 8 := by simp [addP]
theorem addP_at (p : List Int) (wt : Int) (nums : List Int) (m k : Nat) (hk : k < 8) : (addP p wt nums m).getD k 0 = if k < m then (p.getD k 0 + wt * nums.getD k 0) % 65537 else p.getD k 0 := by
  simp [addP, List.getD_eq_getElem?_getD, hk]
theorem addP_zero (p : List Int) (wt : Int) (nums : List Int) (h : p.length = 8) : addP p wt nums 0 = p := by
  match p, h with
  | [_, _, _, _, _, _, _, _], _ => simp [addP, List.range, List.range.loop]
theorem addP_step (p : List Int) (wt : Int) (nums : List Int) (m : Nat) (hm : m < 8) : (addP p wt nums m).set m ((p.getD m 0 + wt * nums.getD m 0) % 65537) = addP p wt nums (m + 1) := by
  apply List.ext_getElem (by simp [addP])
  intro i h1 h2
  have hi : i < 8 := by simpa [addP] using h2
  rw [List.getElem_set]
  by_cases e : m = i
  · subst e; simp [addP]
  · rw [if_neg e]
    simp only [addP, List.getElem_map, List.getElem_range]
    by_cases h : i < m
    · rw [if_pos h, if_pos (by omega)]
    · rw [if_neg h, if_neg (by omega)]
def zer8 : List Int := [0, 0, 0, 0, 0, 0, 0, 0]
/-- The parity j of the blocks in a list of indexes. -/
def parP (ds : List (List Int)) (j : Int) (q : List Nat) : List Int := q.foldl (fun p (x : Nat) => addP p (invT (4 + (x : Int) - j)) (numL ds x) 8) zer8
theorem parP_snoc (ds : List (List Int)) (j : Int) (q : List Nat) (x : Nat) : parP ds j (q ++ [x]) = addP (parP ds j q) (invT (4 + (x : Int) - j)) (numL ds x) 8 := by simp [parP]
theorem parP_length (ds : List (List Int)) (j : Int) (q : List Nat) : (parP ds j q).length = 8 := by
  rcases List.eq_nil_or_concat q with rfl | ⟨q', x, rfl⟩
  · rfl
  · rw [List.concat_eq_append, parP_snoc, addP_length]
theorem parP_bd (ds : List (List Int)) (j : Int) (q : List Nat) (k : Nat) : 0 ≤ (parP ds j q).getD k 0 ∧ (parP ds j q).getD k 0 ≤ 65536 := by
  by_cases hk : k < 8
  · rcases List.eq_nil_or_concat q with rfl | ⟨q', x, rfl⟩
    · have : (parP ds j []).getD k 0 = 0 := by
        match k, hk with
        | 0, _ => rfl
        | 1, _ => rfl
        | 2, _ => rfl
        | 3, _ => rfl
        | 4, _ => rfl
        | 5, _ => rfl
        | 6, _ => rfl
        | 7, _ => rfl
      omega
    · rw [List.concat_eq_append, parP_snoc, addP_at _ _ _ _ _ hk, if_pos hk]; omega
  · rw [List.getD_eq_getElem?_getD, List.getElem?_eq_none (by rw [parP_length]; omega)]; simp
theorem numL_bd {ds : List (List Int)} (h : BndD ds) (x k : Nat) : 0 ≤ (numL ds x).getD k 0 ∧ (numL ds x).getD k 0 ≤ 65535 := by
  by_cases hk : k < 8
  · unfold numL
    rw [numTo_at _ _ _ hk, if_pos hk]
    have := h x k
    unfold dc at this
    omega
  · rw [List.getD_eq_getElem?_getD, List.getElem?_eq_none (by unfold numL; rw [numTo_length]; omega)]; simp

end Go.Proofs.YtjjflbnopphciabDoor

namespace Go.Proofs.YtjjflbnopphciabDoor
open Go.RowKit
open Go.Shelf
attribute [local go_sem] Oper.semAt_some

/-- What the loop over the weighted blocks keeps: the result's cells, the parity, what lay before. -/
structure ParI (w wL : World) (Bp : Nat) (ds : List (List Int)) (j : Int) (q : List Nat) (W : World) : Prop where
  par : Bk W Bp 34 (iArr (parP ds j q))
  res : Bk W w.heap.size 34 zero8
  bel : Below w.heap.size w W
  size : wL.heap.size ≤ W.heap.size
theorem ParI.own (w wL : World) (Bp : Nat) (ds : List (List Int)) (j : Int) (hB : w.heap.size ≤ wL.heap.size) : OwnFrom wL.heap.size (fun q W => ParI w wL Bp ds j q W) := by
  rintro s X Y row ⟨h1, h2, h3, h4⟩ hg hr
  exact ⟨bk_grown h1 hg (fun r e => (hr r e).2), bk_grown h2 hg (fun r e => (hr r e).2), h3.grown hg (by omega) (fun k e => by have := (hr k e).1; omega), Nat.le_trans h4 hg.size⟩

set_option maxRecDepth 100000 in
set_option maxHeartbeats 4000000 in
theorem parityOf_any (A : Option Addr) (n cp : Nat) (ds : List (List Int)) (j : Int) (w : World) (hr : RdD w A n ds) (hX : BndD ds) (hj : 0 ≤ j ∧ j ≤ 3) (hn : n ≤ 1000) :
    Calls Tryd.prog 29 #[.slice A n cp, .int .i64 j] w fun e w' => e = .returned (.agg (iArr (parP ds j (List.range n)))) ∧ Below w.heap.size w w' := by
  have HR := Lib.hid hr
  have HX := Lib.hid hX
  have HJ := Lib.hid hj
  have HXA : Hid (0 < n → ∀ ad, A = some ad → ad.block ≠ w.heap.size + 1) := fun h0 ad e => by
    obtain ⟨ad', e', hb, _⟩ := hr.2.2 h0
    rw [e] at e'
    cases e'
    omega
  clear hr hX hj
  refine (callsIn_wide (n := 6)).1 ?_
  refine callsIn_of_wp_marks Tryd.func29 rfl trivial ?_ rfl
  simp only [Tryd.ntmps29, List.size_toArray, List.length_cons, List.length_nil, Nat.reduceAdd, Nat.reduceSub, Array.replicate_succ, Array.replicate_zero, List.push_toArray, List.append_toArray, List.nil_append, List.cons_append]
  gi_wp2_with fail
  refine ⟨trivial, ?_⟩
  refine (callsIn_wide.2 (weighted_any A n cp j _)).mono ?_
  rintro e w3 ⟨rfl, hw3⟩
  have hb1 : Bk w3 w.heap.size 34 zero8 := by rw [← hw3]; exact (((Bk.new w 34 zero8).alloc _).alloc _).alloc _
  have hb2 : Bk w3 (w.heap.size + 1) 34 (iArr (parP ds j [])) := by
    rw [← hw3]
    have h := Bk.new (w.alloc (.cells zero8 34)) 34 zero8
    rw [World.size_alloc] at h
    exact (h.alloc _).alloc _
  have hbD : w3.cell? ⟨w.heap.size + 1 + 1, 0, none⟩ = some (.slice A n cp) := by rw [← hw3]; simp [go_sem]
  have hbJ : w3.cell? ⟨w.heap.size + 1 + 1 + 1, 0, none⟩ = some (.int .i64 j) := by rw [← hw3]; simp [go_sem]
  have hs3 : w3.heap.size = w.heap.size + 4 := by rw [← hw3]; simp
  have HB3 : Hid (Below w.heap.size w w3) := by
    show Below _ _ _
    rw [← hw3]
    exact ((((Below.refl _ _).alloc (Nat.le_refl _) _).alloc (by simp) _).alloc (by simp; omega) _).alloc (by simp; omega) _
  have HR3 := Lib.hid (HR.out.below HB3.out)
  clear hw3
  gi_wp2_with fail
  refine wpIn_rangeFunc_box2 (α := Part n) rfl (by omega) (gf := 76) rfl trivial (enters_of Tryd.func76 (by kernel_rfl) rfl)
    (fun x => .int .i64 (invT (4 + ((x.1 : Nat) : Int) - j))) (fun x => .agg (iArr (numL ds x.1))) (weighted_stops _ (by omega) (w.heap.size + 1 + 1) (w.heap.size + 1 + 1 + 1) (w.heap.size + 1) A n cp ds j HJ.out (by omega) w3 (by omega) (by omega) HR3.out hbD hbJ HX.out (by omega) (by omega) HXA.out)
    KX.trans (fun W l o o' hl h1 h2 h3 => KX.of_below (belowK_b (Nat.le_refl _) W l o o' hl h1 h2 h3) (Nat.le_refl _)) (Below.refl _ _) 6 7 34 (fun x => iArr (numL ds x.1))
    (fun pre W => ParI w w3 (w.heap.size + 1) ds j (pre.map (·.1)) W)
    (fun _ _ _ => False)
    (fun s X Y row hs hg hr => ParI.own w w3 (w.heap.size + 1) ds j (by omega) (s.map (·.1)) X Y row hs hg hr)
    (fun _ _ _ _ _ hs _ _ => hs)
    ⟨hb2, hb1, HB3.out, Nat.le_refl _⟩ ?assign ?body ?done ?stop
  case assign =>
    rintro l pre x W K hi hK
    have hl8 := iArr8 (numL ds x.1) (by unfold numL; exact numTo_length _ _)
    have HK := Lib.hid hK
    clear hK
    simp only [hl8, List.setIfInBounds_toArray, List.set_cons_zero, List.set_cons_succ]
    have HI := Lib.hid hi
    have HL8 := Lib.hid hl8
    clear hi hl8
    gi_wp2
    refine HK.out _ _ ((KeepsOthers.alloc _ _).from _) (KX.of_below ((Below.refl _ W).alloc HI.out.size _) (Nat.le_refl _)) ⟨HI.out.par.alloc _, HI.out.res.alloc _, HI.out.bel.alloc HI.out.bel.size _, Nat.le_trans HI.out.size (by simp)⟩ ⟨W.heap.size, HI.out.size, ?_, ?_⟩
    · show Bk _ _ _ (iArr (numL ds x.1))
      rw [HL8.out]
      exact Bk.new _ _ _
    · first | (simp only [HL8.out]; rfl) | simp only [HL8.out]
  case stop =>
    rintro D cc pre W _ _ hf _
    exact hf.elim
  case done =>
    rintro D ys W hD hys hI hK
    rw [hys] at hI
    have HI := Lib.hid hI
    have hp8 := iArr8 (parP ds j (List.range n)) (parP_length _ _ _)
    have HP := Lib.hid hI.par
    have HRs := Lib.hid hI.res
    rw [hp8] at HP
    have hpl : w.heap.size < w3.heap.size := by omega
    have HPA := Lib.hid hp8
    clear hI hp8 hys
    generalize (parP ds j (List.range n)).getD 0 0 = p0 at *
    generalize (parP ds j (List.range n)).getD 1 0 = p1 at *
    generalize (parP ds j (List.range n)).getD 2 0 = p2 at *
    generalize (parP ds j (List.range n)).getD 3 0 = p3 at *
    generalize (parP ds j (List.range n)).getD 4 0 = p4 at *
    generalize (parP ds j (List.range n)).getD 5 0 = p5 at *
    generalize (parP ds j (List.range n)).getD 6 0 = p6 at *
    generalize (parP ds j (List.range n)).getD 7 0 = p7 at *
    have e0 : W.cell? ⟨w.heap.size + 1, 0, none⟩ = some (.int .i64 p0) := by rw [HP.out.cell]; rfl
    have z0 : W.cell? ⟨w.heap.size, 0, none⟩ = some (.int .i64 0) := by rw [HRs.out.cell]; rfl
    have f0 : W.frozen? ⟨w.heap.size, 0, none⟩ = false := HRs.out.frozen _
    have e1 : W.cell? ⟨w.heap.size + 1, 1, none⟩ = some (.int .i64 p1) := by rw [HP.out.cell]; rfl
    have z1 : W.cell? ⟨w.heap.size, 1, none⟩ = some (.int .i64 0) := by rw [HRs.out.cell]; rfl
    have f1 : W.frozen? ⟨w.heap.size, 1, none⟩ = false := HRs.out.frozen _
    have e2 : W.cell? ⟨w.heap.size + 1, 2, none⟩ = some (.int .i64 p2) := by rw [HP.out.cell]; rfl
    have z2 : W.cell? ⟨w.heap.size, 2, none⟩ = some (.int .i64 0) := by rw [HRs.out.cell]; rfl
    have f2 : W.frozen? ⟨w.heap.size, 2, none⟩ = false := HRs.out.frozen _
    have e3 : W.cell? ⟨w.heap.size + 1, 3, none⟩ = some (.int .i64 p3) := by rw [HP.out.cell]; rfl
    have z3 : W.cell? ⟨w.heap.size, 3, none⟩ = some (.int .i64 0) := by rw [HRs.out.cell]; rfl
    have f3 : W.frozen? ⟨w.heap.size, 3, none⟩ = false := HRs.out.frozen _
    have e4 : W.cell? ⟨w.heap.size + 1, 4, none⟩ = some (.int .i64 p4) := by rw [HP.out.cell]; rfl
    have z4 : W.cell? ⟨w.heap.size, 4, none⟩ = some (.int .i64 0) := by rw [HRs.out.cell]; rfl
    have f4 : W.frozen? ⟨w.heap.size, 4, none⟩ = false := HRs.out.frozen _
    have e5 : W.cell? ⟨w.heap.size + 1, 5, none⟩ = some (.int .i64 p5) := by rw [HP.out.cell]; rfl
    have z5 : W.cell? ⟨w.heap.size, 5, none⟩ = some (.int .i64 0) := by rw [HRs.out.cell]; rfl
    have f5 : W.frozen? ⟨w.heap.size, 5, none⟩ = false := HRs.out.frozen _
    have e6 : W.cell? ⟨w.heap.size + 1, 6, none⟩ = some (.int .i64 p6) := by rw [HP.out.cell]; rfl
    have z6 : W.cell? ⟨w.heap.size, 6, none⟩ = some (.int .i64 0) := by rw [HRs.out.cell]; rfl
    have f6 : W.frozen? ⟨w.heap.size, 6, none⟩ = false := HRs.out.frozen _
    have e7 : W.cell? ⟨w.heap.size + 1, 7, none⟩ = some (.int .i64 p7) := by rw [HP.out.cell]; rfl
    have z7 : W.cell? ⟨w.heap.size, 7, none⟩ = some (.int .i64 0) := by rw [HRs.out.cell]; rfl
    have f7 : W.frozen? ⟨w.heap.size, 7, none⟩ = false := HRs.out.frozen _
    have hres : W.heap[w.heap.size]? = some (.cells zero8 34 (0, 0)) := HRs.out
    have hK8 : ((((((((W.setCell ⟨w.heap.size, 0, none⟩ (.int .i64 p0)).setCell ⟨w.heap.size, 1, none⟩ (.int .i64 p1)).setCell ⟨w.heap.size, 2, none⟩ (.int .i64 p2)).setCell ⟨w.heap.size, 3, none⟩ (.int .i64 p3)).setCell ⟨w.heap.size, 4, none⟩ (.int .i64 p4)).setCell ⟨w.heap.size, 5, none⟩ (.int .i64 p5)).setCell ⟨w.heap.size, 6, none⟩ (.int .i64 p6)).setCell ⟨w.heap.size, 7, none⟩ (.int .i64 p7)).heap[D]? = some (.deferred (some [])) := ((((((((KeepsOthers.setCell W ⟨w.heap.size, 0, none⟩ (.int .i64 p0)).trans (KeepsOthers.setCell _ ⟨w.heap.size, 1, none⟩ (.int .i64 p1))).trans (KeepsOthers.setCell _ ⟨w.heap.size, 2, none⟩ (.int .i64 p2))).trans (KeepsOthers.setCell _ ⟨w.heap.size, 3, none⟩ (.int .i64 p3))).trans (KeepsOthers.setCell _ ⟨w.heap.size, 4, none⟩ (.int .i64 p4))).trans (KeepsOthers.setCell _ ⟨w.heap.size, 5, none⟩ (.int .i64 p5))).trans (KeepsOthers.setCell _ ⟨w.heap.size, 6, none⟩ (.int .i64 p6))).trans (KeepsOthers.setCell _ ⟨w.heap.size, 7, none⟩ (.int .i64 p7))).same D _ hK rfl
    have HB8 : Hid (Below w.heap.size w (World.putObj ((((((((W.setCell ⟨w.heap.size, 0, none⟩ (.int .i64 p0)).setCell ⟨w.heap.size, 1, none⟩ (.int .i64 p1)).setCell ⟨w.heap.size, 2, none⟩ (.int .i64 p2)).setCell ⟨w.heap.size, 3, none⟩ (.int .i64 p3)).setCell ⟨w.heap.size, 4, none⟩ (.int .i64 p4)).setCell ⟨w.heap.size, 5, none⟩ (.int .i64 p5)).setCell ⟨w.heap.size, 6, none⟩ (.int .i64 p6)).setCell ⟨w.heap.size, 7, none⟩ (.int .i64 p7)) D (.deferred none))) := ((((((((HI.out.bel.setCell (p := ⟨w.heap.size, 0, none⟩) (Nat.le_refl _) (.int .i64 p0)).setCell (p := ⟨w.heap.size, 1, none⟩) (Nat.le_refl _) (.int .i64 p1)).setCell (p := ⟨w.heap.size, 2, none⟩) (Nat.le_refl _) (.int .i64 p2)).setCell (p := ⟨w.heap.size, 3, none⟩) (Nat.le_refl _) (.int .i64 p3)).setCell (p := ⟨w.heap.size, 4, none⟩) (Nat.le_refl _) (.int .i64 p4)).setCell (p := ⟨w.heap.size, 5, none⟩) (Nat.le_refl _) (.int .i64 p5)).setCell (p := ⟨w.heap.size, 6, none⟩) (Nat.le_refl _) (.int .i64 p6)).setCell (p := ⟨w.heap.size, 7, none⟩) (Nat.le_refl _) (.int .i64 p7)).trans (belowK_b (n₀ := w.heap.size) (w := w3) (by omega) _ D _ (.deferred none) hD hK8 rfl rfl)
    have HF8 : Bk (World.putObj ((((((((W.setCell ⟨w.heap.size, 0, none⟩ (.int .i64 p0)).setCell ⟨w.heap.size, 1, none⟩ (.int .i64 p1)).setCell ⟨w.heap.size, 2, none⟩ (.int .i64 p2)).setCell ⟨w.heap.size, 3, none⟩ (.int .i64 p3)).setCell ⟨w.heap.size, 4, none⟩ (.int .i64 p4)).setCell ⟨w.heap.size, 5, none⟩ (.int .i64 p5)).setCell ⟨w.heap.size, 6, none⟩ (.int .i64 p6)).setCell ⟨w.heap.size, 7, none⟩ (.int .i64 p7)) D (.deferred none)) w.heap.size 34 #[.int .i64 p0, .int .i64 p1, .int .i64 p2, .int .i64 p3, .int .i64 p4, .int .i64 p5, .int .i64 p6, .int .i64 p7] := bk_grown ((((((((HRs.out.set_ 0 (.int .i64 p0)).set_ 1 (.int .i64 p1)).set_ 2 (.int .i64 p2)).set_ 3 (.int .i64 p3)).set_ 4 (.int .i64 p4)).set_ 5 (.int .i64 p5)).set_ 6 (.int .i64 p6)).set_ 7 (.int .i64 p7)) (grownBy_putObj' _ D (.deferred none)) (fun r e => by cases e; exact ⟨_, hK8, rfl⟩)
    have HK8 := Lib.hid hK8
    have HFF := Lib.hid HF8
    clear hK8 HF8
    have g0 : (World.putObj ((((((((W.setCell ⟨w.heap.size, 0, none⟩ (.int .i64 p0)).setCell ⟨w.heap.size, 1, none⟩ (.int .i64 p1)).setCell ⟨w.heap.size, 2, none⟩ (.int .i64 p2)).setCell ⟨w.heap.size, 3, none⟩ (.int .i64 p3)).setCell ⟨w.heap.size, 4, none⟩ (.int .i64 p4)).setCell ⟨w.heap.size, 5, none⟩ (.int .i64 p5)).setCell ⟨w.heap.size, 6, none⟩ (.int .i64 p6)).setCell ⟨w.heap.size, 7, none⟩ (.int .i64 p7)) D (.deferred none)).cell? ⟨w.heap.size, 0, none⟩ = some (.int .i64 p0) := by rw [HFF.out.cell]; rfl
    have g1 : (World.putObj ((((((((W.setCell ⟨w.heap.size, 0, none⟩ (.int .i64 p0)).setCell ⟨w.heap.size, 1, none⟩ (.int .i64 p1)).setCell ⟨w.heap.size, 2, none⟩ (.int .i64 p2)).setCell ⟨w.heap.size, 3, none⟩ (.int .i64 p3)).setCell ⟨w.heap.size, 4, none⟩ (.int .i64 p4)).setCell ⟨w.heap.size, 5, none⟩ (.int .i64 p5)).setCell ⟨w.heap.size, 6, none⟩ (.int .i64 p6)).setCell ⟨w.heap.size, 7, none⟩ (.int .i64 p7)) D (.deferred none)).cell? ⟨w.heap.size, 1, none⟩ = some (.int .i64 p1) := by rw [HFF.out.cell]; rfl
    have g2 : (World.putObj ((((((((W.setCell ⟨w.heap.size, 0, none⟩ (.int .i64 p0)).setCell ⟨w.heap.size, 1, none⟩ (.int .i64 p1)).setCell ⟨w.heap.size, 2, none⟩ (.int .i64 p2)).setCell ⟨w.heap.size, 3, none⟩ (.int .i64 p3)).setCell ⟨w.heap.size, 4, none⟩ (.int .i64 p4)).setCell ⟨w.heap.size, 5, none⟩ (.int .i64 p5)).setCell ⟨w.heap.size, 6, none⟩ (.int .i64 p6)).setCell ⟨w.heap.size, 7, none⟩ (.int .i64 p7)) D (.deferred none)).cell? ⟨w.heap.size, 2, none⟩ = some (.int .i64 p2) := by rw [HFF.out.cell]; rfl
    have g3 : (World.putObj ((((((((W.setCell ⟨w.heap.size, 0, none⟩ (.int .i64 p0)).setCell ⟨w.heap.size, 1, none⟩ (.int .i64 p1)).setCell ⟨w.heap.size, 2, none⟩ (.int .i64 p2)).setCell ⟨w.heap.size, 3, none⟩ (.int .i64 p3)).setCell ⟨w.heap.size, 4, none⟩ (.int .i64 p4)).setCell ⟨w.heap.size, 5, none⟩ (.int .i64 p5)).setCell ⟨w.heap.size, 6, none⟩ (.int .i64 p6)).setCell ⟨w.heap.size, 7, none⟩ (.int .i64 p7)) D (.deferred none)).cell? ⟨w.heap.size, 3, none⟩ = some (.int .i64 p3) := by rw [HFF.out.cell]; rfl
    have g4 : (World.putObj ((((((((W.setCell ⟨w.heap.size, 0, none⟩ (.int .i64 p0)).setCell ⟨w.heap.size, 1, none⟩ (.int .i64 p1)).setCell ⟨w.heap.size, 2, none⟩ (.int .i64 p2)).setCell ⟨w.heap.size, 3, none⟩ (.int .i64 p3)).setCell ⟨w.heap.size, 4, none⟩ (.int .i64 p4)).setCell ⟨w.heap.size, 5, none⟩ (.int .i64 p5)).setCell ⟨w.heap.size, 6, none⟩ (.int .i64 p6)).setCell ⟨w.heap.size, 7, none⟩ (.int .i64 p7)) D (.deferred none)).cell? ⟨w.heap.size, 4, none⟩ = some (.int .i64 p4) := by rw [HFF.out.cell]; rfl
    have g5 : (World.putObj ((((((((W.setCell ⟨w.heap.size, 0, none⟩ (.int .i64 p0)).setCell ⟨w.heap.size, 1, none⟩ (.int .i64 p1)).setCell ⟨w.heap.size, 2, none⟩ (.int .i64 p2)).setCell ⟨w.heap.size, 3, none⟩ (.int .i64 p3)).setCell ⟨w.heap.size, 4, none⟩ (.int .i64 p4)).setCell ⟨w.heap.size, 5, none⟩ (.int .i64 p5)).setCell ⟨w.heap.size, 6, none⟩ (.int .i64 p6)).setCell ⟨w.heap.size, 7, none⟩ (.int .i64 p7)) D (.deferred none)).cell? ⟨w.heap.size, 5, none⟩ = some (.int .i64 p5) := by rw [HFF.out.cell]; rfl
    have g6 : (World.putObj ((((((((W.setCell ⟨w.heap.size, 0, none⟩ (.int .i64 p0)).setCell ⟨w.heap.size, 1, none⟩ (.int .i64 p1)).setCell ⟨w.heap.size, 2, none⟩ (.int .i64 p2)).setCell ⟨w.heap.size, 3, none⟩ (.int .i64 p3)).setCell ⟨w.heap.size, 4, none⟩ (.int .i64 p4)).setCell ⟨w.heap.size, 5, none⟩ (.int .i64 p5)).setCell ⟨w.heap.size, 6, none⟩ (.int .i64 p6)).setCell ⟨w.heap.size, 7, none⟩ (.int .i64 p7)) D (.deferred none)).cell? ⟨w.heap.size, 6, none⟩ = some (.int .i64 p6) := by rw [HFF.out.cell]; rfl
    have g7 : (World.putObj ((((((((W.setCell ⟨w.heap.size, 0, none⟩ (.int .i64 p0)).setCell ⟨w.heap.size, 1, none⟩ (.int .i64 p1)).setCell ⟨w.heap.size, 2, none⟩ (.int .i64 p2)).setCell ⟨w.heap.size, 3, none⟩ (.int .i64 p3)).setCell ⟨w.heap.size, 4, none⟩ (.int .i64 p4)).setCell ⟨w.heap.size, 5, none⟩ (.int .i64 p5)).setCell ⟨w.heap.size, 6, none⟩ (.int .i64 p6)).setCell ⟨w.heap.size, 7, none⟩ (.int .i64 p7)) D (.deferred none)).cell? ⟨w.heap.size, 7, none⟩ = some (.int .i64 p7) := by rw [HFF.out.cell]; rfl
    have G0 := Lib.hid g0
    have G1 := Lib.hid g1
    have G2 := Lib.hid g2
    have G3 := Lib.hid g3
    have G4 := Lib.hid g4
    have G5 := Lib.hid g5
    have G6 := Lib.hid g6
    have G7 := Lib.hid g7
    clear g0 g1 g2 g3 g4 g5 g6 g7
    gi_wp2
    refine ⟨by simp, .inl ⟨_, _, rfl, run_takeDeferred HK8.out, ?_⟩⟩
    refine ⟨.agg #[.int .i64 p0, .int .i64 p1, .int .i64 p2, .int .i64 p3, .int .i64 p4, .int .i64 p5, .int .i64 p6, .int .i64 p7], ?_, ?_, HB8.out⟩
    · simp [results, Tryd.f29, go_sem, G0.out, G1.out, G2.out, G3.out, G4.out, G5.out, G6.out, G7.out]
    · rw [HPA.out]
  case body =>
    rintro l pre x Bx W hI hBx hbx hlen
    obtain ⟨q, hq⟩ : ∃ q, pre.map (·.1) = q := ⟨_, rfl⟩
    have HQ : Hid ((pre ++ [x]).map (·.1) = q ++ [x.1]) := by show _ = _; rw [List.map_append, hq]; rfl
    rw [hq] at hI
    obtain ⟨x, hx⟩ := x
    dsimp only at hbx HQ
    have HSN := Lib.hid (parP_snoc ds j q x)
    have hnb := numL_bd HX.out x
    have hpb := parP_bd ds j q
    have hpl := parP_length ds j q
    have hn8 : (numL ds x).length = 8 := by unfold numL; exact numTo_length _ _
    have hl8 := iArr8 (numL ds x) hn8
    have hwt := invT_bd (4 + (x : Int) - j)
    have hx1 : x < n := hx
    have HI := Lib.hid hI
    have HBX := Lib.hid hbx
    obtain ⟨nl, hnl⟩ : ∃ nl, numL ds x = nl := ⟨_, rfl⟩
    obtain ⟨wt, hwtt⟩ : ∃ wt, invT (4 + (x : Int) - j) = wt := ⟨_, rfl⟩
    obtain ⟨pp, hpp⟩ : ∃ pp, parP ds j q = pp := ⟨_, rfl⟩
    have hpar : Hid (Bk W (w.heap.size + 1) 34 (iArr (addP pp wt nl 0))) := by
      show Bk _ _ _ _
      rw [← hpp, addP_zero _ _ _ hpl]
      exact hI.par
    rw [hnl] at hnb hn8 hl8 HBX HSN
    rw [hwtt] at hwt HSN
    rw [hpp] at hpb hpl HSN
    simp only [hnl, hwtt, hl8, List.setIfInBounds_toArray, List.set_cons_zero, List.set_cons_succ]
    have HIX : Hid (∀ k : Nat, k < 8 → ∀ W, (Instr.index 34 (.agg (iArr nl)) (.int .i64 (k : Int))).run Tryd.prog W = .ok (.int .i64 (nl.getD k 0)) W) := fun k hk W => (is8_iArr nl hn8).ix k hk W
    rw [hl8] at HIX HBX
    have HNB := Lib.hid hnb
    have HPB := Lib.hid hpb
    have HPL := Lib.hid hpl
    have hszW := HI.out.size
    have hlp : w.heap.size + 1 < W.heap.size := HI.out.par.lt
    clear hI hbx hq hnl hwtt hpp hl8 hn8 hnb hpb hpl
    generalize nl.getD 0 0 = y0 at *
    generalize nl.getD 1 0 = y1 at *
    generalize nl.getD 2 0 = y2 at *
    generalize nl.getD 3 0 = y3 at *
    generalize nl.getD 4 0 = y4 at *
    generalize nl.getD 5 0 = y5 at *
    generalize nl.getD 6 0 = y6 at *
    generalize nl.getD 7 0 = y7 at *
    have c0 : W.cell? ⟨Bx, 0, none⟩ = some (.int .i64 y0) := by rw [HBX.out.cell]; rfl
    have c1 : W.cell? ⟨Bx, 1, none⟩ = some (.int .i64 y1) := by rw [HBX.out.cell]; rfl
    have c2 : W.cell? ⟨Bx, 2, none⟩ = some (.int .i64 y2) := by rw [HBX.out.cell]; rfl
    have c3 : W.cell? ⟨Bx, 3, none⟩ = some (.int .i64 y3) := by rw [HBX.out.cell]; rfl
    have c4 : W.cell? ⟨Bx, 4, none⟩ = some (.int .i64 y4) := by rw [HBX.out.cell]; rfl
    have c5 : W.cell? ⟨Bx, 5, none⟩ = some (.int .i64 y5) := by rw [HBX.out.cell]; rfl
    have c6 : W.cell? ⟨Bx, 6, none⟩ = some (.int .i64 y6) := by rw [HBX.out.cell]; rfl
    have c7 : W.cell? ⟨Bx, 7, none⟩ = some (.int .i64 y7) := by rw [HBX.out.cell]; rfl
    gi_wp2
    gi_loopw [16] (fun i W' => ∃ m : Nat, m ≤ 8 ∧ i = .int .i64 m ∧ Hid (Bk W' (w.heap.size + 1) 34 (iArr (addP pp wt nl m))) ∧ Hid (Below (w.heap.size + 1) W W' ∧ KeepsOthers W W' ∧ (∀ k, k ≠ w.heap.size + 1 → k < W.heap.size → W'.heap[k]? = W.heap[k]?))) (fun i _ => 8 - (intOf i).toNat)
    case atStart => exact ⟨0, Nat.zero_le _, rfl, hpar, Below.refl _ _, KeepsOthers.refl _, fun _ _ _ => rfl⟩
    case round =>
      clear hpar
      obtain ⟨m, hm8, rfl, hbk, hbe⟩ := hrel
      by_cases hm : m < 8
      · have hold : wr.cell? ⟨w.heap.size + 1, m, none⟩ = some (.int .i64 (pp.getD m 0)) := by
          rw [hbk.out.cell, iArr_at _ _ (by rw [addP_length]; exact hm), addP_at _ _ _ m m hm, if_neg (by omega)]
        have hfr : wr.frozen? ⟨w.heap.size + 1, m, none⟩ = false := hbk.out.frozen _
        have hst := addP_step pp wt nl m hm
        have hyb := HNB.out m
        have hpb := HPB.out m
        have hix := HIX.out m hm
        obtain ⟨y, hy⟩ : ∃ y, nl.getD m 0 = y := ⟨_, rfl⟩
        obtain ⟨o, ho⟩ : ∃ o, pp.getD m 0 = o := ⟨_, rfl⟩
        rw [hy] at hst hyb hix
        rw [ho] at hold hst hpb
        have hmul := mul_bd2 wt y 65536 65536 hwt.1 hyb.1 (by omega) (by omega)
        have CM : Hid (∀ W, Calls Tryd.prog 59 #[.int .i64 (o + wt * y)] W fun e w' => e = .returned (.int .i64 ((o + wt * y) % 65537)) ∧ W = w') := fun W => modPrime_any _ (by omega) (by omega) W
        obtain ⟨z, hz⟩ : ∃ z, (o + wt * y) % 65537 = z := ⟨_, rfl⟩
        rw [hz] at hst CM
        have FIN : Hid (Bk (wr.setCell ⟨w.heap.size + 1, m, none⟩ (.int .i64 z)) (w.heap.size + 1) 34 (iArr (addP pp wt nl (m + 1)))) := by
          show Bk _ _ _ _
          rw [← hst, ← iArr_set]
          exact hbk.out.set_ _ _
        have FIB : Hid (Below (w.heap.size + 1) W (wr.setCell ⟨w.heap.size + 1, m, none⟩ (.int .i64 z)) ∧ KeepsOthers W (wr.setCell ⟨w.heap.size + 1, m, none⟩ (.int .i64 z)) ∧ (∀ k, k ≠ w.heap.size + 1 → k < W.heap.size → (wr.setCell ⟨w.heap.size + 1, m, none⟩ (.int .i64 z)).heap[k]? = W.heap[k]?)) :=
          ⟨hbe.out.1.setCell (by simp) _, hbe.out.2.1.trans (KeepsOthers.setCell _ _ _), fun k h1 h2 => (Below.heap_setCell _ _ _ _ h1).trans (hbe.out.2.2 k h1 h2)⟩
        have hmI : (m : Int) < 8 := by omega
        clear hy ho hz hst hbk hbe
        gi_wp2_with (refine ⟨trivial, ?_⟩; gi_at_call 59; refine (CallsIn.inRound l (callsIn_wide.2 (CM.out _))).mono ?_; rintro e w' ⟨rfl, rfl⟩)
        go_roundw
        case rel => exact ⟨m + 1, by omega, by go_num, FIN.out, FIB.out⟩
        case measure => simp [intOf]; omega
      · obtain rfl : m = 8 := by omega
        have hmI : ¬ ((8 : Nat) : Int) < 8 := by omega
        have HBK := Lib.hid hbk.out
        have HBE := Lib.hid hbe.out
        clear hbk hbe
        gi_wp2
        refine ⟨HBE.out.2.1.from _, ⟨HBE.out.1.size, fun k hk hk2 => HBE.out.2.2 k hk2 (by omega)⟩, ⟨?_, ?_, ?_, ?_⟩⟩
        · rw [show (pre ++ [(⟨x, hx⟩ : Part n)]).unattach = q ++ [x] from HQ.out, HSN.out]; exact HBK.out
        · exact (HBE.out.2.2 w.heap.size (by omega) (by omega)).trans HI.out.res
        · exact HI.out.bel.trans (HBE.out.1.mono (by omega))
        · exact Nat.le_trans hszW HBE.out.1.size

end Go.Proofs.YtjjflbnopphciabDoor

namespace Go.Proofs.YtjjflbnopphciabDoor
open Go.RowKit
open Go.Shelf

theorem dataE_cases (ds : List (List Int)) : dataE ds = 0 ∨ dataE ds = 2 := by
  unfold dataE
  induction ds with
  | nil => exact .inl rfl
  | cons x t ih =>
    simp only [List.map_cons, firstE]
    rcases rangesE_cases x (-32767) 32767 with e | e <;> simp [e, ih]
theorem dataE_bnd {ds : List (List Int)} (h : dataE ds = 0) : BndD ds := by
  intro i k
  unfold dc
  induction ds generalizing i with
  | nil => simp
  | cons x t ih =>
    unfold dataE at h
    simp only [List.map_cons, firstE] at h
    have hx : rangesE x (-32767) 32767 = 0 := by
      by_cases e : rangesE x (-32767) 32767 = 0
      · exact e
      · rw [if_neg e] at h; exact absurd h e
    rw [if_pos hx] at h
    cases i with
    | zero =>
      have := bnd_of_rangesE x hx k
      simp only [List.getD_cons_zero]
      omega
    | succ i => simpa using ih h i
theorem datE_first (n : Nat) (ds : List (List Int)) (count : Int) :
    firstE [whenE ((n : Int) == 0) 10, whenE (decide ((12 : Int) < (n : Int))) 8, dataE ds, rangeE count 1 4] = datE n ds count := by
  unfold datE
  by_cases h0 : n = 0
  · subst h0; simp [whenE, firstE]
  have h0' : ((n : Int) == 0) = false := by simp; omega
  rw [h0', if_neg h0]
  by_cases h1 : 12 < n
  · have h1' : decide ((12 : Int) < (n : Int)) = true := by simp; omega
    rw [h1', if_pos h1]; simp [whenE, firstE]
  have h1' : decide ((12 : Int) < (n : Int)) = false := by simp; omega
  rw [h1', if_neg h1]
  rcases dataE_cases ds with e | e
  · rw [e]
    by_cases h2 : inB count 1 4 = true
    · simp [whenE, firstE, rangeE, h2]
    · have h2' : inB count 1 4 = false := by simpa using h2
      simp [whenE, firstE, rangeE, h2']
  · rw [e]; simp [whenE, firstE]
theorem datE_parts {n : Nat} {ds : List (List Int)} {count : Int} (h : datE n ds count = 0) : 1 ≤ n ∧ n ≤ 12 ∧ BndD ds ∧ 1 ≤ count ∧ count ≤ 4 := by
  unfold datE at h
  split at h
  · cases h
  split at h
  · cases h
  split at h
  · rename_i h2; exact absurd h h2
  rename_i h0 h1 h2
  split at h
  · rename_i h3
    have h3' : 1 ≤ count ∧ count ≤ 4 := by simp [inB] at h3; omega
    exact ⟨by omega, by omega, dataE_bnd (by simpa using h2), h3'.1, h3'.2⟩
  · cases h

set_option maxRecDepth 100000 in
theorem parityOf_err (A : Option Addr) (n c : Nat) (ds : List (List Int)) (count : Int) (w : World) (hr : RdD w A n ds) (hn : n ≤ 1000000) (hE : datE n ds count ≠ 0) :
    Calls Tryd.prog 7 #[.slice A n c, .int .i64 count] w fun e w' => e = .returned (.tuple #[.slice none 0 0, .int .i64 (datE n ds count)]) ∧ Below w.heap.size w w' := by
  have HR := Lib.hid hr
  have HF := Lib.hid (datE_first n ds count)
  have CD : Hid (∀ W : World, RdD W A n ds → Calls Tryd.prog 26 #[.slice A n c, .func (Fn.func 27) #[] #[]] W fun e w' => e = .returned (.int .i64 (dataE ds)) ∧ Below W.heap.size W w') := fun W h => checkEach8_any A n c ds W h hn
  obtain ⟨E, hEE⟩ : ∃ E, datE n ds count = E := ⟨_, rfl⟩
  obtain ⟨r, hrr⟩ : ∃ r, dataE ds = r := ⟨_, rfl⟩
  rw [hEE] at HF hE ⊢
  rw [hrr] at HF CD
  clear hEE hrr hr
  go_enter Tryd.func7, Tryd.ntmps7
  go_wp2_with (first
    | (go_at_call 25; refine (when_any _ _ _).mono ?_; rintro e w' ⟨rfl, rfl⟩)
    | (go_at_call 26; refine (CD.out _ HR.out).mono ?_; rintro e w' ⟨rfl, hb⟩)
    | (go_at_call 28; refine (checkRange_any _ _ _ _).mono ?_; rintro e w' ⟨rfl, rfl⟩)
    | (go_at_call 24; refine (first4 _ _ _ _ _).mono ?_; rw [HF.out]; rintro e w' ⟨rfl, rfl⟩))
  have HB := Lib.hid hb
  clear hb
  all_goals go_ret2
  all_goals exact ⟨rfl, HB.out.alloc HB.out.size _⟩

/-- The row of parities while it is filled. -/
def mixC (ps : List (List Int)) (r : Nat) : Array Value := (dCells ps ++ List.replicate (r * 8) (Value.int .i64 0)).toArray
theorem made8 (n : Nat) : madeCells (Value.agg zero8).cells (n * 8) = mixC [] n := by
  have hz : ∀ k, k < 8 → zero8[k]! = Value.int .i64 0 := by
    intro k hk
    match k, hk with
    | 0, _ => rfl
    | 1, _ => rfl
    | 2, _ => rfl
    | 3, _ => rfl
    | 4, _ => rfl
    | 5, _ => rfl
    | 6, _ => rfl
    | 7, _ => rfl
  unfold madeCells mixC
  apply Array.ext
  · simp [dCells]
  · intro i h1 h2
    have := hz (i % 8) (Nat.mod_lt _ (by omega))
    have e : (Value.agg zero8).cells = zero8 := rfl
    have s : zero8.size = 8 := rfl
    simp only [Array.getElem_map, Array.getElem_range, e, s, this, dCells, List.flatMap_nil, List.nil_append, List.getElem_toArray, List.getElem_replicate]
theorem set_app {α : Type} (A B : List α) (i : Nat) (v : α) : (A ++ B).set (A.length + i) v = A ++ B.set i v := by
  rw [List.set_append_right _ _ (by omega), Nat.add_sub_cancel_left]
theorem mixC_set (ps : List (List Int)) (r : Nat) (h8 : Ok8 ps) (x0 x1 x2 x3 x4 x5 x6 x7 : Int) (o : Nat) (ho : ps.length * 8 = o) :
    (((((((((mixC ps (r + 1)).setIfInBounds (o) (.int .i64 x0)).setIfInBounds (o + 1) (.int .i64 x1)).setIfInBounds (o + 2) (.int .i64 x2)).setIfInBounds (o + 3) (.int .i64 x3)).setIfInBounds (o + 4) (.int .i64 x4)).setIfInBounds (o + 5) (.int .i64 x5)).setIfInBounds (o + 6) (.int .i64 x6)).setIfInBounds (o + 7) (.int .i64 x7)) = mixC (ps ++ [[x0, x1, x2, x3, x4, x5, x6, x7]]) r := by
  have hl : (dCells ps).length = o := by rw [dCells_len ps h8, ho]
  unfold mixC
  rw [show (r + 1) * 8 = 8 + r * 8 by omega, ← List.replicate_append_replicate, dCells_snoc]
  generalize List.replicate (r * 8) (Value.int IntKind.i64 0) = Z
  simp only [List.setIfInBounds_toArray]
  congr 1
  have e : ∀ (q : Nat) (v : Value) (B : List Value), (dCells ps ++ B).set (o + q) v = dCells ps ++ B.set q v := fun q v B => by rw [← hl]; exact set_app _ _ _ _
  have e0 : ∀ (v : Value) (B : List Value), (dCells ps ++ B).set o v = dCells ps ++ B.set 0 v := fun v B => e 0 v B
  rw [e0, e, e, e, e, e, e, e, List.append_assoc]
  rfl

end Go.Proofs.YtjjflbnopphciabDoor

namespace Go.Proofs.YtjjflbnopphciabDoor
open Go.RowKit
open Go.Shelf

/-- The first parities of data. -/
def parL (n : Nat) (ds : List (List Int)) (k : Nat) : List (List Int) := (List.range k).map fun (j : Nat) => parP ds (j : Int) (List.range n)
theorem parL_length (n : Nat) (ds : List (List Int)) (k : Nat) : (parL n ds k).length = k := by simp [parL]
theorem parL_succ (n : Nat) (ds : List (List Int)) (k : Nat) : parL n ds (k + 1) = parL n ds k ++ [parP ds (k : Int) (List.range n)] := by simp [parL, List.range_succ]
theorem parL_ok8 (n : Nat) (ds : List (List Int)) (k : Nat) : Ok8 (parL n ds k) := by
  induction k with
  | zero => exact Ok8.nil
  | succ k ih => rw [parL_succ]; exact ih.snoc (parP_length _ _ _)

theorem mixC_zero (ps : List (List Int)) (h8 : Ok8 ps) (j i : Nat) (r : Nat) (hj : ps.length = j) (hi : i < 8) : (mixC ps (r + 1))[j * 8 + i]? = some (.int .i64 0) := by
  have hl : (dCells ps).length = j * 8 := by rw [dCells_len ps h8, hj]
  unfold mixC
  rw [List.getElem?_toArray, List.getElem?_append_right (by omega), hl, Nat.add_sub_cancel_left, List.getElem?_replicate, if_pos (by omega)]

theorem own_full {w : World} {base g n size : Nat} {t : TypeId} {cs : Array Value} (h : w.ownsRow base t size (.slice (some ⟨g, 0, none⟩) n n) n cs.toList) (hz : cs.size = n * size) : Bk w g t cs := by
  rcases h.2 with ⟨h1, _⟩ | ⟨g', cap, cur, h1, _, hg, _, _, hs, ht⟩
  · cases h1
  · simp only [Value.slice.injEq, Option.some.injEq, Addr.mk.injEq] at h1
    obtain ⟨⟨rfl, _⟩, _, rfl⟩ := h1
    rw [List.take_of_length_le (by rw [Array.length_toList, hs]; exact Nat.le_refl _)] at ht
    have : cur = cs := by cases cur; cases cs; simpa using ht
    rw [← this]; exact hg

theorem RdD.of_bk {w : World} {g n : Nat} {ds : List (List Int)} (h : Bk w g 34 (mixC ds 0)) (hl : ds.length = n) (h8 : Ok8 ds) : RdD w (some ⟨g, 0, none⟩) n ds := by
  refine ⟨hl, h8, fun h0 => ⟨⟨g, 0, none⟩, rfl, h.lt, fun i k hi hk => ?_⟩⟩
  rw [Addr.add_mid, Addr.add_mid, Nat.zero_add, h.cell]
  unfold mixC
  simp only [Nat.zero_mul, List.replicate_zero, List.append_nil, List.getElem?_toArray]
  exact dCells_at ds h8 i k (by omega) hk

set_option maxRecDepth 100000 in
set_option maxHeartbeats 2000000 in
theorem parityOf_ok (A : Option Addr) (n c : Nat) (ds : List (List Int)) (count : Int) (w : World) (hr : RdD w A n ds) (hE : datE n ds count = 0) (K : Nat) (hK : (K : Int) = count) :
    Calls Tryd.prog 7 #[.slice A n c, .int .i64 count] w fun e w' => (∃ A3 c3, e = .returned (.tuple #[.slice A3 K c3, .int .i64 0]) ∧ RdD w' A3 K (parL n ds K)) ∧ Below w.heap.size w w' := by
  obtain ⟨hn1, hn2, hX, hc1, hc2⟩ := datE_parts hE
  subst hK
  have hK4 : K ≤ 4 := by omega
  have HR := Lib.hid hr
  have HF := Lib.hid (datE_first n ds (K : Int))
  have CD : Hid (∀ W : World, RdD W A n ds → Calls Tryd.prog 26 #[.slice A n c, .func (Fn.func 27) #[] #[]] W fun e w' => e = .returned (.int .i64 (dataE ds)) ∧ Below W.heap.size W w') := fun W h => checkEach8_any A n c ds W h (by omega)
  have CP : Hid (∀ (j : Nat) (W : World), j < K → RdD W A n ds → Calls Tryd.prog 29 #[.slice A n c, .int .i64 j] W fun e w' => e = .returned (.agg (iArr (parP ds (j : Int) (List.range n)))) ∧ Below W.heap.size W w') := fun j W hj h => parityOf_any A n c ds j W h hX (by omega) (by omega)
  obtain ⟨i0, hi0, hz0, hz1, hz2⟩ := info_parts arr8Info
  obtain ⟨r, hrr⟩ : ∃ r, dataE ds = r := ⟨_, rfl⟩
  rw [hE] at HF
  rw [hrr] at HF CD
  clear hrr hr hE hX
  go_enter Tryd.func7, Tryd.ntmps7
  go_wp2_with (first
    | (go_at_call 25; refine (when_any _ _ _).mono ?_; rintro e w' ⟨rfl, rfl⟩)
    | (go_at_call 26; refine (CD.out _ HR.out).mono ?_; rintro e w' ⟨rfl, hb⟩)
    | (go_at_call 28; refine (checkRange_any _ _ _ _).mono ?_; rintro e w' ⟨rfl, rfl⟩)
    | (go_at_call 24; refine (first4 _ _ _ _ _).mono ?_; rw [HF.out]; rintro e w' ⟨rfl, rfl⟩)
    | (with_reducible refine wpList_make_full _ rfl (.tmp 26) (.tmp 26) 22 rfl w.heap.size 34 i0 (.agg zero8) 8 Tryd.underlying22 hi0 hz0 hz1 .i64 .i64 (K : Int) (K : Int) K rfl rfl rfl rfl (by rw [hz2]; omega) (by unfold maxLen; omega) (by have := hb.size; simp; omega) ?_; intro w4 ho4 hg4))
  obtain ⟨g, hg⟩ : ∃ g, w'.heap.size + 1 = g := ⟨_, rfl⟩
  have hbk0 : Hid (Bk w4 g 34 (mixC (parL n ds 0) (K - 0))) := by
    show Bk _ _ _ _
    have h1 : Bk w4 (w'.heap.size + 1) 34 (madeCells (Value.agg zero8).cells (K * 8)) := own_full (by simpa using ho4) (by simp [madeCells])
    rw [made8, hg] at h1
    exact h1
  have hbw4 : Hid (Below w.heap.size w w4) := (hb.alloc hb.size _).grown hg4 (by have := hb.size; simp; omega) (fun k e => by cases e)
  have hgw : w.heap.size < g := by have := hb.size; omega
  rw [hg]
  clear ho4 hg4 hb hg
  go_loopw [30] (fun i wr => ∃ j : Nat, j ≤ K ∧ i = .int .i64 j ∧ Hid (Bk wr g 34 (mixC (parL n ds j) (K - j))) ∧ Hid (Below w.heap.size w wr)) (fun i _ => K - (intOf i).toNat)
  case atStart => exact ⟨0, Nat.zero_le _, rfl, hbk0, hbw4⟩
  case round =>
    clear hbk0 hbw4
    obtain ⟨j, hj, rfl, HK, HB⟩ := hrel
    by_cases hlt : j < K
    · have hjI : (j : Int) < (K : Int) := by omega
      have hR2 := HR.out.below HB.out
      obtain ⟨pp, hpp⟩ : ∃ pp, parP ds (j : Int) (List.range n) = pp := ⟨_, rfl⟩
      have CPj := CP.out j wr hlt hR2
      have hp8 : pp.length = 8 := by rw [← hpp]; exact parP_length _ _ _
      have hsu := parL_succ n ds j
      rw [hpp] at CPj hsu
      have hl8 := iArr8 pp hp8
      have hls := list8 pp hp8
      rw [hl8] at CPj
      obtain ⟨ps, hps⟩ : ∃ ps, parL n ds j = ps := ⟨_, rfl⟩
      have hpl : ps.length = j := by rw [← hps]; exact parL_length _ _ _
      have hp8s : Ok8 ps := by rw [← hps]; exact parL_ok8 _ _ _
      rw [hps] at HK hsu
      rw [hls] at hsu
      have HSU := Lib.hid hsu
      have HCP := Lib.hid CPj
      have hgl : g < wr.heap.size := HK.out.lt
      have hszr := HB.out.size
      clear hpp hl8 hls hps hsu CPj hR2
      generalize pp.getD 0 0 = x0 at *
      generalize pp.getD 1 0 = x1 at *
      generalize pp.getD 2 0 = x2 at *
      generalize pp.getD 3 0 = x3 at *
      generalize pp.getD 4 0 = x4 at *
      generalize pp.getD 5 0 = x5 at *
      generalize pp.getD 6 0 = x6 at *
      generalize pp.getD 7 0 = x7 at *
      go_wp2_with fail
      refine HCP.out.mono ?_
      rintro e wB ⟨rfl, hbB⟩
      obtain ⟨q, hq⟩ : ∃ q, K - j = q + 1 := ⟨K - j - 1, by omega⟩
      have hbk : Bk wB g 34 (mixC ps (q + 1)) := by rw [← hq]; exact HK.out.below hbB hgl
      have hbe : Below w.heap.size w wB := HB.out.trans (hbB.mono hszr)
      have hgl : w.heap.size < g := hgw
      have z0 : wB.cell? ⟨g, j * 8, none⟩ = some (.int .i64 0) := by rw [hbk.cell]; exact mixC_zero ps hp8s j 0 q hpl (by omega)
      have f0 : wB.frozen? ⟨g, j * 8, none⟩ = false := hbk.frozen _
      have z1 : wB.cell? ⟨g, j * 8 + 1, none⟩ = some (.int .i64 0) := by rw [hbk.cell]; exact mixC_zero ps hp8s j 1 q hpl (by omega)
      have f1 : wB.frozen? ⟨g, j * 8 + 1, none⟩ = false := hbk.frozen _
      have z2 : wB.cell? ⟨g, j * 8 + 2, none⟩ = some (.int .i64 0) := by rw [hbk.cell]; exact mixC_zero ps hp8s j 2 q hpl (by omega)
      have f2 : wB.frozen? ⟨g, j * 8 + 2, none⟩ = false := hbk.frozen _
      have z3 : wB.cell? ⟨g, j * 8 + 3, none⟩ = some (.int .i64 0) := by rw [hbk.cell]; exact mixC_zero ps hp8s j 3 q hpl (by omega)
      have f3 : wB.frozen? ⟨g, j * 8 + 3, none⟩ = false := hbk.frozen _
      have z4 : wB.cell? ⟨g, j * 8 + 4, none⟩ = some (.int .i64 0) := by rw [hbk.cell]; exact mixC_zero ps hp8s j 4 q hpl (by omega)
      have f4 : wB.frozen? ⟨g, j * 8 + 4, none⟩ = false := hbk.frozen _
      have z5 : wB.cell? ⟨g, j * 8 + 5, none⟩ = some (.int .i64 0) := by rw [hbk.cell]; exact mixC_zero ps hp8s j 5 q hpl (by omega)
      have f5 : wB.frozen? ⟨g, j * 8 + 5, none⟩ = false := hbk.frozen _
      have z6 : wB.cell? ⟨g, j * 8 + 6, none⟩ = some (.int .i64 0) := by rw [hbk.cell]; exact mixC_zero ps hp8s j 6 q hpl (by omega)
      have f6 : wB.frozen? ⟨g, j * 8 + 6, none⟩ = false := hbk.frozen _
      have z7 : wB.cell? ⟨g, j * 8 + 7, none⟩ = some (.int .i64 0) := by rw [hbk.cell]; exact mixC_zero ps hp8s j 7 q hpl (by omega)
      have f7 : wB.frozen? ⟨g, j * 8 + 7, none⟩ = false := hbk.frozen _
      have HFK : Hid (Bk ((((((((wB.setCell ⟨g, (j * 8), none⟩ (.int .i64 x0)).setCell ⟨g, (j * 8) + 1, none⟩ (.int .i64 x1)).setCell ⟨g, (j * 8) + 2, none⟩ (.int .i64 x2)).setCell ⟨g, (j * 8) + 3, none⟩ (.int .i64 x3)).setCell ⟨g, (j * 8) + 4, none⟩ (.int .i64 x4)).setCell ⟨g, (j * 8) + 5, none⟩ (.int .i64 x5)).setCell ⟨g, (j * 8) + 6, none⟩ (.int .i64 x6)).setCell ⟨g, (j * 8) + 7, none⟩ (.int .i64 x7)) g 34 (mixC (parL n ds (j + 1)) (K - (j + 1)))) := by
        show Bk _ _ _ _
        rw [HSU.out, show K - (j + 1) = q by omega, ← mixC_set ps q hp8s x0 x1 x2 x3 x4 x5 x6 x7 (j * 8) (by rw [hpl])]
        exact ((((((((hbk.set_ (j * 8) (.int .i64 x0)).set_ (j * 8 + 1) (.int .i64 x1)).set_ (j * 8 + 2) (.int .i64 x2)).set_ (j * 8 + 3) (.int .i64 x3)).set_ (j * 8 + 4) (.int .i64 x4)).set_ (j * 8 + 5) (.int .i64 x5)).set_ (j * 8 + 6) (.int .i64 x6)).set_ (j * 8 + 7) (.int .i64 x7))
      have HFB : Hid (Below w.heap.size w ((((((((wB.setCell ⟨g, (j * 8), none⟩ (.int .i64 x0)).setCell ⟨g, (j * 8) + 1, none⟩ (.int .i64 x1)).setCell ⟨g, (j * 8) + 2, none⟩ (.int .i64 x2)).setCell ⟨g, (j * 8) + 3, none⟩ (.int .i64 x3)).setCell ⟨g, (j * 8) + 4, none⟩ (.int .i64 x4)).setCell ⟨g, (j * 8) + 5, none⟩ (.int .i64 x5)).setCell ⟨g, (j * 8) + 6, none⟩ (.int .i64 x6)).setCell ⟨g, (j * 8) + 7, none⟩ (.int .i64 x7))) := ((((((((hbe.setCell (p := ⟨g, j * 8, none⟩) (Nat.le_of_lt hgl) (.int .i64 x0)).setCell (p := ⟨g, j * 8 + 1, none⟩) (Nat.le_of_lt hgl) (.int .i64 x1)).setCell (p := ⟨g, j * 8 + 2, none⟩) (Nat.le_of_lt hgl) (.int .i64 x2)).setCell (p := ⟨g, j * 8 + 3, none⟩) (Nat.le_of_lt hgl) (.int .i64 x3)).setCell (p := ⟨g, j * 8 + 4, none⟩) (Nat.le_of_lt hgl) (.int .i64 x4)).setCell (p := ⟨g, j * 8 + 5, none⟩) (Nat.le_of_lt hgl) (.int .i64 x5)).setCell (p := ⟨g, j * 8 + 6, none⟩) (Nat.le_of_lt hgl) (.int .i64 x6)).setCell (p := ⟨g, j * 8 + 7, none⟩) (Nat.le_of_lt hgl) (.int .i64 x7))
      clear hbk hbe HCP hbB
      go_wp2
      go_roundw
      case rel => exact ⟨j + 1, by omega, by go_num, HFK.out, HFB.out⟩
      case measure => simp [intOf]; omega
    · obtain rfl : K = j := by omega
      rw [Nat.sub_self] at HK
      have HRD := Lib.hid (RdD.of_bk HK.out (parL_length _ _ _) (parL_ok8 _ _ _))
      clear HK
      go_wp2
      go_ret2
      exact ⟨⟨_, _, rfl, HRD.out⟩, HB.out⟩

end Go.Proofs.YtjjflbnopphciabDoor

namespace Go.Proofs.YtjjflbnopphciabDoor
open Go.RowKit

theorem eqInfo : (Tryd.prog.info? 74).map (fun i => (i.zero, i.size, i.bytes)) = some (some (.agg eZero), 12, 96) := by kernel_rfl
theorem made12 (n i : Nat) (h : i < n * 12) : (madeCells (Value.agg eZero).cells (n * 12))[i]? = some (.int .i64 0) := by
  have hz : ∀ k, k < 12 → eZero[k]! = Value.int .i64 0 := by
    intro k hk
    rcases j12 hk with rfl | rfl | rfl | rfl | rfl | rfl | rfl | rfl | rfl | rfl | rfl | rfl <;> rfl
  unfold madeCells
  have e : (Value.agg eZero).cells = eZero := rfl
  have s : eZero.size = 12 := rfl
  have := hz (i % 12) (Nat.mod_lt _ (by omega))
  rw [Array.getElem?_map, Array.getElem?_range, if_pos h]
  simp only [Option.map_some, e, s, this]
theorem made12_size (n : Nat) : (madeCells (Value.agg eZero).cells (n * 12)).size = n * 12 := by simp [madeCells]
theorem EqB.made {W : World} {g n : Nat} (h : Bk W g 74 (madeCells (Value.agg eZero).cells (n * 12))) : EqB W g n (fun _ _ => 0) :=
  ⟨_, h, made12_size n, fun r k hr hk => made12 n _ (by omega)⟩
/-- The equations of a group: weights of lost blocks in the parities that are kept, and what they add up to. -/
def eqM (l : Nat) (ld ks : List Int) (ps dd : List (List Int)) (nd : Nat) (r k : Nat) : Int :=
  if k < 4 then (if k < l then invT (4 + ld.getD k 0 - ks.getD r 0) else 0) else (dc ps (ks.getD r 0).toNat (k - 4) - (parP dd (ks.getD r 0) (List.range nd)).getD (k - 4) 0) % 65537
theorem eqM_bd (l : Nat) (ld ks : List Int) (ps dd : List (List Int)) (nd r k : Nat) : 0 ≤ eqM l ld ks ps dd nd r k ∧ eqM l ld ks ps dd nd r k ≤ 65536 := by
  unfold eqM
  split
  · split
    · have := invT_bd (4 + ld.getD k 0 - ks.getD r 0); omega
    · omega
  · exact emod_bd _
/-- The equations while they are written. -/
def eqP (M : Nat → Nat → Int) (r0 a b r k : Nat) : Int :=
  if r < r0 then M r k else if r = r0 then (if k < 4 then (if k < a then M r k else 0) else if k < 4 + b then M r k else 0) else 0

set_option maxRecDepth 100000 in
set_option maxHeartbeats 16000000 in
theorem equationsOf_any (A B C D X Y : Option Addr) (n m l r0 nd q ca cb cc cd cx cy : Nat) (ps dd : List (List Int)) (ld ks : List Int) (w : World)
    (hB : RdD w B m ps) (hC : RdI w C l ld) (hX : RdD w X nd dd) (hY : RdI w Y q ks) (hl : l ≤ 4) (hlq : l ≤ q) (hq : q ≤ 4) (hm : m ≤ 4) (hnd : nd ≤ 12) (hdd : BndD dd)
    (hld : ∀ k, k < l → 0 ≤ ld.getD k 0 ∧ ld.getD k 0 < 12) (hks : ∀ r, r < q → 0 ≤ ks.getD r 0 ∧ ks.getD r 0 < m) (hps : ∀ r k, r < q → k < 8 → 0 ≤ dc ps (ks.getD r 0).toNat k ∧ dc ps (ks.getD r 0).toNat k ≤ 65536) :
    Calls Tryd.prog 32 #[.agg #[.slice A n ca, .slice B m cb, .slice C l cc, .slice D r0 cd], .slice X nd cx, .slice Y q cy] w fun e w' => ∃ g, e = .returned (.slice (some ⟨g, 0, none⟩) l l) ∧ EqB w' g l (eqM l ld ks ps dd nd) ∧ w.heap.size ≤ g ∧ Below w.heap.size w w' := by
  obtain ⟨i0, hi0, hz0, hz1, hz2⟩ := info_parts eqInfo
  obtain ⟨w1, hw1⟩ : ∃ W, w.alloc (.cells #[.slice A n ca, .slice B m cb, .slice C l cc, .slice D r0 cd] 33) = W := ⟨_, rfl⟩
  have b1 : Below w.heap.size w w1 := by rw [← hw1]; exact (Below.refl _ _).alloc (Nat.le_refl _) _
  have HBK : Hid (Bk w1 w.heap.size 33 #[.slice A n ca, .slice B m cb, .slice C l cc, .slice D r0 cd]) := by show Bk _ _ _ _; rw [← hw1]; exact Bk.new _ _ _
  have hs1 : w1.heap.size = w.heap.size + 1 := by rw [← hw1]; simp
  have HB1 := Lib.hid b1
  have HW1 := Lib.hid hw1
  obtain ⟨g, hg⟩ : ∃ g, w1.heap.size = g := ⟨_, rfl⟩
  have KEEP : Hid (∀ W, Below g w1 W → W.cell? ⟨w.heap.size, 1, none⟩ = some (.slice B m cb) ∧ W.cell? ⟨w.heap.size, 2, none⟩ = some (.slice C l cc)) := fun W hW => by
    have := bk4 (HBK.out.below hW (by omega)); exact ⟨this.2.1, this.2.2.1⟩
  have RB : Hid (∀ W, Below g w1 W → RdD W B m ps) := fun W hW => (hB.below HB1.out).below (by rw [hg]; exact hW)
  have RC : Hid (∀ W, Below g w1 W → RdI W C l ld) := fun W hW => (hC.below HB1.out).below (by rw [hg]; exact hW)
  have RX : Hid (∀ W, Below g w1 W → RdD W X nd dd) := fun W hW => (hX.below HB1.out).below (by rw [hg]; exact hW)
  have RY : Hid (∀ W, Below g w1 W → RdI W Y q ks) := fun W hW => (hY.below HB1.out).below (by rw [hg]; exact hW)
  have HLD := Lib.hid hld
  have HKS := Lib.hid hks
  have HPS := Lib.hid hps
  obtain ⟨M, hM⟩ : ∃ M, eqM l ld ks ps dd nd = M := ⟨_, rfl⟩
  have HM := Lib.hid hM
  rw [hM]
  have HDD := Lib.hid hdd
  have c2 := (KEEP.out w1 (Below.refl _ _)).2
  have hgs : w.heap.size < g := by omega
  have HGE := Lib.hid hg
  clear b1 hw1 hB hC hX hY hld hks hps hM hdd hs1 hg
  go_enter Tryd.func32, Tryd.ntmps32
  go_upto_region 1 with fail
  rw [show w.alloc (.cells #[.slice A n ca, .slice B m cb, .slice C l cc, .slice D r0 cd] 33) = w1 from HW1.out]
  clear HW1
  go_wp2_with ((with_reducible refine wpList_make_full _ rfl (.tmp 16) (.tmp 16) 69 rfl w1.heap.size 74 i0 (.agg eZero) 12 Tryd.underlying69 hi0 hz0 hz1 .i64 .i64 (l : Int) (l : Int) l rfl rfl rfl rfl (by rw [hz2]; omega) (by unfold maxLen; omega) (by first | exact Nat.le_refl _ | (simp; done) | (simp; omega)) ?_; intro w4 ho4 hg4))
  have HE0 : Hid (EqB w4 g l (eqP M 0 0 0)) := by
    show EqB _ _ _ _
    have h1 : Bk w4 w1.heap.size 74 (madeCells (Value.agg eZero).cells (l * 12)) := own_full (by simpa using ho4) (made12_size l)
    rw [HGE.out] at h1
    refine (EqB.made h1).congr fun r k _ _ => ?_
    unfold eqP
    repeat' split
    all_goals first | rfl | (exfalso; omega)
  have HB0 : Hid (Below g w1 w4) := by
    show Below _ _ _
    rw [← HGE.out]
    exact (Below.refl w1.heap.size w1).grown hg4 (Nat.le_refl _) (fun k e => by cases e)
  rw [HGE.out]
  clear ho4 hg4 c2
  go_wp2
  go_loopw [20] (fun i wr => ∃ r : Nat, r ≤ l ∧ i = .int .i64 r ∧ Hid (EqB wr g l (eqP M r 0 0)) ∧ Hid (Below g w1 wr)) (fun i _ => l - (intOf i).toNat)
  case atStart => exact ⟨0, Nat.zero_le _, rfl, HE0.out, HB0.out⟩
  case round =>
    clear HE0 HB0
    obtain ⟨r, hrl, rfl, HE, HB⟩ := hrel
    by_cases hr : r < l
    · obtain ⟨ay, hay, _, hcy⟩ := (RY.out wr HB.out).2 (by omega)
      have hkc := hcy r (by omega)
      have hkb := HKS.out r (by omega)
      have hpsr := HPS.out r
      have HMK : Hid (∀ k, M r k = if k < 4 then (if k < l then invT (4 + ld.getD k 0 - ks.getD r 0) else 0) else (dc ps (ks.getD r 0).toNat (k - 4) - (parP dd (ks.getD r 0) (List.range nd)).getD (k - 4) 0) % 65537) := fun k => by rw [← HM.out]; rfl
      clear hcy
      subst hay
      obtain ⟨j, hj⟩ : ∃ j, ks.getD r 0 = j := ⟨_, rfl⟩
      rw [hj] at hkc hkb hpsr HMK
      obtain ⟨jn, rfl⟩ := Int.eq_ofNat_of_zero_le hkb.1
      rw [Int.toNat_natCast] at hpsr HMK
      have HPSR := Lib.hid hpsr
      have hjm : jn < m := by omega
      have hrI : (r : Int) < (l : Int) := by omega
      have hrq : (r : Int) < (q : Int) := by omega
      have c2 := (KEEP.out wr HB.out).2
      clear hj hpsr
      go_wp2
      clear c2
      obtain ⟨wA, hwA⟩ : ∃ Z, Z = wr := ⟨_, rfl⟩
      subst hwA
      clear hkc
      go_loopw [30] (fun i wr => ∃ a : Nat, a ≤ l ∧ i = .int .i64 a ∧ Hid (EqB wr g l (eqP M r a 0)) ∧ Hid (Below g w1 wr)) (fun i _ => l - (intOf i).toNat)
      case atStart => exact ⟨0, Nat.zero_le _, rfl, HE.out, HB.out⟩
      case round =>
        clear HE HB
        obtain ⟨a, hal, rfl, HE, HB⟩ := hrel
        by_cases ha : a < l
        · obtain ⟨ac, hac, _, hcc⟩ := (RC.out wr HB.out).2 (by omega)
          have hlc := hcc a ha
          have hlb := HLD.out a ha
          clear hcc
          subst hac
          obtain ⟨i, hi⟩ : ∃ i, ld.getD a 0 = i := ⟨_, rfl⟩
          rw [hi] at hlc hlb
          have CW : Hid (∀ W, Calls Tryd.prog 61 #[.int .i64 i, .int .i64 (jn : Int)] W fun e w' => e = .returned (.int .i64 (invT (4 + i - (jn : Int)))) ∧ W = w') := fun W => weightOf_any i jn (by omega) (by omega) W
          have haI : (a : Int) < (l : Int) := by omega
          have ha4 : (a : Int) < 4 := by omega
          have hz : wr.cell? ⟨g, r * 12 + a, none⟩ = some (.int .i64 0) := by
            rw [HE.out.cell hr (by omega)]
            unfold eqP
            rw [if_neg (by omega), if_pos rfl, if_pos (by omega), if_neg (by omega)]
          have hf : wr.frozen? ⟨g, r * 12 + a, none⟩ = false := HE.out.frozen _
          have NXT : Hid (EqB (wr.setCell ⟨g, r * 12 + a, none⟩ (.int .i64 (invT (4 + i - (jn : Int))))) g l (eqP M r (a + 1) 0)) := (HE.out.set1 hr (show a < 12 by omega) _).congr fun r' k _ _ => by
            unfold eqP
            by_cases e : r' = r ∧ k = a
            · obtain ⟨rfl, rfl⟩ := e
              rw [if_pos ⟨rfl, rfl⟩, if_neg (by omega), if_pos rfl, if_pos (by omega), if_pos (by omega), HMK.out, if_pos (by omega), if_pos ha, hi]
            · rw [if_neg e]
              repeat' split
              all_goals first | rfl | (exfalso; omega)
          have NB : Hid (Below g w1 (wr.setCell ⟨g, r * 12 + a, none⟩ (.int .i64 (invT (4 + i - (jn : Int)))))) := HB.out.setCell (Nat.le_refl _) _
          clear hi HE HB
          go_upto_region 9 with fail
          go_still_tail 9, (by kernel_rfl)
          refine wpStill_step (fun K hK => ?_)
          go_simp
          refine ⟨_, (CW.out _).mono (fun e w'' h => ⟨h.1, h.2.symm⟩), hK _ ?_⟩
          clear hK K
          repeat still_step
          refine wpStill_nil ?_
          change wpList _ _ _ _ _ wr.drew
          have hz' : wr.drew.cell? ⟨g, r * 12 + a, none⟩ = some (.int .i64 0) := hz
          have hf' : wr.drew.frozen? ⟨g, r * 12 + a, none⟩ = false := hf
          have NXT' : Hid (EqB (wr.drew.setCell ⟨g, r * 12 + a, none⟩ (.int .i64 (invT (4 + i - (jn : Int))))) g l (eqP M r (a + 1) 0)) := NXT.out
          have NB' : Hid (Below g w1 (wr.drew.setCell ⟨g, r * 12 + a, none⟩ (.int .i64 (invT (4 + i - (jn : Int)))))) := NB.out.drew
          clear hz hf NXT NB CW hlc
          generalize wr.drew = w2 at *
          go_wp2
          go_roundw
          case rel => exact ⟨a + 1, by omega, by go_num, NXT'.out, NB'.out⟩
          case measure => simp [intOf]; omega
        · obtain rfl : l = a := by omega
          obtain ⟨pp, hpp⟩ : ∃ pp, parP dd (jn : Int) (List.range nd) = pp := ⟨_, rfl⟩
          have hp8 : pp.length = 8 := by rw [← hpp]; exact parP_length _ _ _
          have hpb : ∀ k, 0 ≤ pp.getD k 0 ∧ pp.getD k 0 ≤ 65536 := fun k => by rw [← hpp]; exact parP_bd _ _ _ _
          have CP0 := parityOf_any X nd cx dd (jn : Int) wr (RX.out wr HB.out) HDD.out (by omega) (by omega)
          have HIX : Hid (∀ k : Nat, k < 8 → ∀ W, (Instr.index 34 (.agg (iArr pp)) (.int .i64 (k : Int))).run Tryd.prog W = .ok (.int .i64 (pp.getD k 0)) W) := fun k hk W => (is8_iArr pp hp8).ix k hk W
          have HMK2 : Hid (∀ k, 4 ≤ k → M r k = (dc ps jn (k - 4) - pp.getD (k - 4) 0) % 65537) := fun k hk => by rw [HMK.out, if_neg (by omega), hpp]
          rw [hpp] at CP0
          obtain ⟨PA, hPA⟩ : ∃ PA, iArr pp = PA := ⟨_, rfl⟩
          rw [hPA] at CP0 HIX
          have CP := Lib.hid CP0
          have HPB := Lib.hid hpb
          have HE1 : Hid (EqB wr g l (eqP M r l 0)) := HE
          clear hpp hp8 hpb CP0 hPA HMK
          go_wp2_with fail
          refine CP.out.mono ?_
          rintro e w5 ⟨rfl, hb⟩
          have HE5 : Hid (EqB w5 g l (eqP M r l 0)) := HE1.out.later hb
          have HB5 : Hid (Below g w1 w5) := HB.out.trans (hb.mono (Nat.le_of_lt HE1.out.lt))
          clear hb CP HE1 HE HB
          go_wp2
          go_loopw [48] (fun i wr => ∃ b : Nat, b ≤ 8 ∧ i = .int .i64 b ∧ Hid (EqB wr g l (eqP M r l b)) ∧ Hid (Below g w1 wr)) (fun i _ => 8 - (intOf i).toNat)
          case atStart => exact ⟨0, Nat.zero_le _, rfl, HE5.out, HB5.out⟩
          case round =>
            clear HE5 HB5
            obtain ⟨b, hb8, rfl, HE, HB⟩ := hrel
            by_cases hb : b < 8
            · have hbI : (b : Int) < 8 := by omega
              have hix := HIX.out b hb
              have hpv := HPB.out b
              have hsv := HPSR.out b (by omega) hb
              obtain ⟨ab, hab, _, hcb⟩ := (RB.out wr HB.out).2.2 (by omega)
              have hpc := hcb jn b hjm hb
              clear hcb
              subst hab
              have hmv := HMK2.out (4 + b) (by omega)
              rw [Nat.add_sub_cancel_left] at hmv
              obtain ⟨y, hy⟩ : ∃ y, pp.getD b 0 = y := ⟨_, rfl⟩
              obtain ⟨x, hx⟩ : ∃ x, dc ps jn b = x := ⟨_, rfl⟩
              rw [hy] at hix hpv hmv
              rw [hx] at hpc hsv hmv
              obtain ⟨z, hzz⟩ : ∃ z, x - y = z := ⟨_, rfl⟩
              rw [hzz] at hmv
              have hw1 : IntKind.i64.wrap (x - y) = z := by rw [hzz]; exact wrapQ z (by omega) (by omega)
              have CMo : Hid (∀ W, Calls Tryd.prog 59 #[.int .i64 z] W fun e w' => e = .returned (.int .i64 (z % 65537)) ∧ W = w') := fun W => modPrime_any z (by omega) (by omega) W
              have c1 := (KEEP.out wr HB.out).1
              have hjI : (jn : Int) < (m : Int) := by omega
              have hz : wr.cell? ⟨g, r * 12 + 4 + b, none⟩ = some (.int .i64 0) := by
                rw [Nat.add_assoc, HE.out.cell hr (show 4 + b < 12 by omega)]
                unfold eqP
                rw [if_neg (by omega), if_pos rfl, if_neg (by omega), if_neg (by omega)]
              have hf : wr.frozen? ⟨g, r * 12 + 4 + b, none⟩ = false := HE.out.frozen _
              have NXT : Hid (EqB (wr.setCell ⟨g, r * 12 + 4 + b, none⟩ (.int .i64 (z % 65537))) g l (eqP M r l (b + 1))) := by
                show EqB _ _ _ _
                rw [Nat.add_assoc]
                refine (HE.out.set1 hr (show 4 + b < 12 by omega) _).congr fun r' k _ _ => ?_
                unfold eqP
                by_cases e : r' = r ∧ k = 4 + b
                · obtain ⟨rfl, rfl⟩ := e
                  rw [if_pos ⟨rfl, rfl⟩, if_neg (by omega), if_pos rfl, if_neg (by omega), if_pos (by omega), hmv]
                · rw [if_neg e]
                  repeat' split
                  all_goals first | rfl | (exfalso; omega)
              have NB : Hid (Below g w1 (wr.setCell ⟨g, r * 12 + 4 + b, none⟩ (.int .i64 (z % 65537)))) := HB.out.setCell (Nat.le_refl _) _
              have HZZ := Lib.hid hzz
              clear hmv hpv hsv hy hx hzz HE HB
              go_upto_region 14 with fail
              go_still_tail 16, (by kernel_rfl)
              refine wpStill_step (fun K hK => ?_)
              go_simp
              first | (refine ⟨_, (CMo.out _).mono (fun e w'' h => ⟨h.1, h.2.symm⟩), hK _ ?_⟩) | (rw [HZZ.out]; refine ⟨_, (CMo.out _).mono (fun e w'' h => ⟨h.1, h.2.symm⟩), hK _ ?_⟩)
              clear hK K
              repeat still_step
              refine wpStill_nil ?_
              change wpList _ _ _ _ _ wr.drew
              have hz' : wr.drew.cell? ⟨g, r * 12 + 4 + b, none⟩ = some (.int .i64 0) := hz
              have hf' : wr.drew.frozen? ⟨g, r * 12 + 4 + b, none⟩ = false := hf
              have NXT' : Hid (EqB (wr.drew.setCell ⟨g, r * 12 + 4 + b, none⟩ (.int .i64 (z % 65537))) g l (eqP M r l (b + 1))) := NXT.out
              have NB' : Hid (Below g w1 (wr.drew.setCell ⟨g, r * 12 + 4 + b, none⟩ (.int .i64 (z % 65537)))) := NB.out.drew
              clear hz hf NXT NB CMo hpc c1 hix
              generalize wr.drew = w2 at *
              go_wp2
              go_roundw
              case rel => exact ⟨b + 1, by omega, by go_num, NXT'.out, NB'.out⟩
              case measure => simp [intOf]; omega
            · obtain rfl : b = 8 := by omega
              have h0 : ∀ k, k < 4 → ¬ k < l → M r k = 0 := fun k h1 h2 => by rw [← HM.out]; unfold eqM; rw [if_pos h1, if_neg h2]
              have NXT : Hid (EqB wr g l (eqP M (r + 1) 0 0)) := HE.out.congr fun r' k _ hk => by
                unfold eqP
                repeat' split
                all_goals first | rfl | (exfalso; omega) | (obtain rfl : r' = r := by omega); exact (h0 k (by omega) (by omega)).symm
              clear h0
              go_wp2
              go_roundw
              case rel => exact ⟨r + 1, by omega, by go_num, NXT.out, HB.out⟩
              case measure => simp [intOf]; omega
    · obtain rfl : l = r := by omega
      have NXT : Hid (EqB wr g l M) := HE.out.congr fun r' k hr' _ => by unfold eqP; rw [if_pos hr']
      have HBF : Hid (Below w.heap.size w wr) := HB1.out.trans (HB.out.mono (by omega))
      go_wp2
      go_ret
      exact ⟨g, rfl, NXT.out, by omega, HBF.out⟩
end Go.Proofs.YtjjflbnopphciabDoor

namespace Go.Proofs.YtjjflbnopphciabDoor
open Go.RowKit

theorem neq8_run (xs ys : List Int) (hx : xs.length = 8) (hy : ys.length = 8) (W : World) : (binOp .neq 34 (.agg (iArr xs)) (.agg (iArr ys))).run Tryd.prog W = .ok (.bool (!decide (xs = ys))) W := by
  have := eq8_run xs ys hx hy W
  rw [run_eql_struct] at this
  rw [run_neq_struct]
  generalize (Op.equalIn 10000 34 (.agg (iArr xs)) (.agg (iArr ys))).run Tryd.prog W = r at this ⊢
  cases r with
  | ok b w' =>
    simp [Result.andThen] at this
    obtain ⟨h1, rfl⟩ := this
    simp [Result.andThen, h1]
  | halt h w' => simp [Result.andThen] at this
/-- Whether data are samples, and the parities that are kept are theirs. -/
def parOk (dd ps : List (List Int)) (nd : Nat) (j : Int) : Bool := decide (parP dd j (List.range nd) = ps.getD j.toNat [])
def expB (dd ps : List (List Int)) (nd : Nat) (ks : List Int) : Bool := decide (dataE dd = 0) && ks.all (parOk dd ps nd)
theorem all_drop (f : Int → Bool) (xs : List Int) (k : Nat) (hk : k < xs.length) : (xs.drop k).all f = (f (xs.getD k 0) && (xs.drop (k + 1)).all f) := by
  rw [List.drop_eq_getElem_cons hk, List.all_cons, List.getD_eq_getElem?_getD, List.getElem?_eq_getElem hk]; rfl

set_option maxRecDepth 100000 in
set_option maxHeartbeats 8000000 in
theorem explains_any (X B Y : Option Addr) (nd m q cx cb cy : Nat) (dd ps : List (List Int)) (ks : List Int) (w : World) (hX : RdD w X nd dd) (hB : RdD w B m ps) (hY : RdI w Y q ks) (hnd : nd ≤ 12) (hm : m ≤ 4) (hq : q ≤ 4)
    (hks : ∀ r, r < q → 0 ≤ ks.getD r 0 ∧ ks.getD r 0 < m) :
    Calls Tryd.prog 34 #[.slice X nd cx, .slice B m cb, .slice Y q cy] w fun e w' => e = .returned (.bool (expB dd ps nd ks)) ∧ Below w.heap.size w w' := by
  have RX := Lib.hid hX
  have RB := Lib.hid hB
  have RY := Lib.hid hY
  have HKS := Lib.hid hks
  have CD := Lib.hid (checkEach8_any X nd cx dd w hX (by omega))
  have HEX : Hid (expB dd ps nd ks = (decide (dataE dd = 0) && ks.all (parOk dd ps nd))) := rfl
  clear hX hB hY hks
  by_cases hE : dataE dd = 0
  · have HBD := Lib.hid (dataE_bnd hE)
    have HEX2 : Hid (expB dd ps nd ks = ks.all (parOk dd ps nd)) := by show _ = _; rw [HEX.out, decide_eq_true hE, Bool.true_and]
    rw [hE] at CD
    clear hE HEX
    go_enter Tryd.func34, Tryd.ntmps34
    go_wp2_with fail
    refine CD.out.mono ?_
    rintro e w2 ⟨rfl, hb⟩
    have B2 := Lib.hid hb
    clear hb CD
    go_wp2
    go_loopw [14] (fun i wr => ∃ k : Nat, k ≤ q ∧ i = .int .i64 k ∧ Hid (ks.all (parOk dd ps nd) = (ks.drop k).all (parOk dd ps nd)) ∧ Hid (Below w.heap.size w wr)) (fun i _ => q - (intOf i).toNat)
    case atStart => exact ⟨0, Nat.zero_le _, rfl, rfl, B2.out⟩
    case round =>
      clear B2
      obtain ⟨k, hk, rfl, HA, HB⟩ := hrel
      by_cases hlt : k < q
      · obtain ⟨ay, hay, _, hcy⟩ := (RY.out.below HB.out).2 (by omega)
        have hkc := hcy k hlt
        have hkb := HKS.out k hlt
        have hs := all_drop (parOk dd ps nd) ks k (by rw [RY.out.1]; exact hlt)
        clear hcy
        subst hay
        obtain ⟨j, hj⟩ : ∃ j, ks.getD k 0 = j := ⟨_, rfl⟩
        rw [hj] at hkc hkb hs
        obtain ⟨jn, rfl⟩ := Int.eq_ofNat_of_zero_le hkb.1
        have hjm : jn < m := by omega
        have hjI : (jn : Int) < (m : Int) := by omega
        have hkI : (k : Int) < (q : Int) := by omega
        obtain ⟨ad, x0, x1, x2, x3, x4, x5, x6, x7, hadE, hbl, hrow, p0, p1, p2, p3, p4, p5, p6, p7⟩ := (RB.out.below HB.out).row hjm
        subst hadE
        obtain ⟨pp, hpp⟩ : ∃ pp, parP dd (jn : Int) (List.range nd) = pp := ⟨_, rfl⟩
        have hp8 : pp.length = 8 := by rw [← hpp]; exact parP_length _ _ _
        have CP0 : ∀ W, Below w.heap.size w W → Calls Tryd.prog 29 #[.slice X nd cx, .int .i64 (jn : Int)] W fun e w' => e = .returned (.agg (iArr pp)) ∧ Below W.heap.size W w' := fun W hW => by
          rw [← hpp]; exact parityOf_any X nd cx dd (jn : Int) W (RX.out.below hW) HBD.out (by omega) (by omega)
        have hpo : parOk dd ps nd (jn : Int) = decide (pp = [x0, x1, x2, x3, x4, x5, x6, x7]) := by
          unfold parOk; rw [hpp, Int.toNat_natCast, hrow]
        have hneq : ∀ W, (binOp .neq 34 (.agg (iArr pp)) (.agg #[.int .i64 x0, .int .i64 x1, .int .i64 x2, .int .i64 x3, .int .i64 x4, .int .i64 x5, .int .i64 x6, .int .i64 x7])).run Tryd.prog W = .ok (.bool (!decide (pp = [x0, x1, x2, x3, x4, x5, x6, x7]))) W := fun W => neq8_run pp [x0, x1, x2, x3, x4, x5, x6, x7] hp8 rfl W
        rw [hpo] at hs
        obtain ⟨PA, hPA⟩ : ∃ PA, iArr pp = PA := ⟨_, rfl⟩
        rw [hPA] at hneq CP0
        obtain ⟨bq, hbq⟩ : ∃ b, decide (pp = [x0, x1, x2, x3, x4, x5, x6, x7]) = b := ⟨_, rfl⟩
        rw [hbq] at hneq hs
        have CP := Lib.hid CP0
        have HS := Lib.hid hs
        obtain ⟨aq, haq⟩ : ∃ a, ad.add (jn * 8) = a := ⟨_, rfl⟩
        rw [haq] at p0 p1 p2 p3 p4 p5 p6 p7
        have hqb : aq.block < wr.heap.size := by rw [← haq, addBlock]; exact hbl
        have KEEP : Hid (∀ W, Below wr.heap.size wr W → W.cell? aq = some (.int .i64 x0) ∧ W.cell? ⟨aq.block, aq.off + 1, none⟩ = some (.int .i64 x1) ∧ W.cell? ⟨aq.block, aq.off + 2, none⟩ = some (.int .i64 x2) ∧ W.cell? ⟨aq.block, aq.off + 3, none⟩ = some (.int .i64 x3) ∧ W.cell? ⟨aq.block, aq.off + 4, none⟩ = some (.int .i64 x4) ∧ W.cell? ⟨aq.block, aq.off + 5, none⟩ = some (.int .i64 x5) ∧ W.cell? ⟨aq.block, aq.off + 6, none⟩ = some (.int .i64 x6) ∧ W.cell? ⟨aq.block, aq.off + 7, none⟩ = some (.int .i64 x7)) := fun W hW =>
          ⟨(hW.cell hqb).trans p0, (hW.cell (p := ⟨aq.block, aq.off + 1, none⟩) hqb).trans p1, (hW.cell (p := ⟨aq.block, aq.off + 2, none⟩) hqb).trans p2, (hW.cell (p := ⟨aq.block, aq.off + 3, none⟩) hqb).trans p3, (hW.cell (p := ⟨aq.block, aq.off + 4, none⟩) hqb).trans p4, (hW.cell (p := ⟨aq.block, aq.off + 5, none⟩) hqb).trans p5, (hW.cell (p := ⟨aq.block, aq.off + 6, none⟩) hqb).trans p6, (hW.cell (p := ⟨aq.block, aq.off + 7, none⟩) hqb).trans p7⟩
        clear hj hkb hs hrow hpp hp8 CP0 hpo hPA hbq p0 p1 p2 p3 p4 p5 p6 p7 hqb hbl
        go_upto_region 6 with fail
        clear hkc
        refine wp_region_held_drew (S := (fun W : World => W.cell? aq = some (.int .i64 x0) ∧ W.cell? ⟨aq.block, aq.off + 1, none⟩ = some (.int .i64 x1) ∧ W.cell? ⟨aq.block, aq.off + 2, none⟩ = some (.int .i64 x2) ∧ W.cell? ⟨aq.block, aq.off + 3, none⟩ = some (.int .i64 x3) ∧ W.cell? ⟨aq.block, aq.off + 4, none⟩ = some (.int .i64 x4) ∧ W.cell? ⟨aq.block, aq.off + 5, none⟩ = some (.int .i64 x5) ∧ W.cell? ⟨aq.block, aq.off + 6, none⟩ = some (.int .i64 x6) ∧ W.cell? ⟨aq.block, aq.off + 7, none⟩ = some (.int .i64 x7))) (by kernel_rfl) (KEEP.out _ (Below.refl _ _).drew) ?_
        intro hHeld
        refine wpAnyH_take (i := 0) (v := ?_) rfl (by kernel_rfl) (by kernel_rfl) (by kernel_rfl) (fun _ _ _ h => h) (Or.inl ⟨by rfl, ?_⟩) (by assumption) ?_
        rotate_left
        · intro w hSw; (try dsimp only at hSw); go_simp; (try (with_reducible rfl))
        try simp only [List.getElem_toArray, List.getElem_cons_succ, List.getElem_cons_zero, Act.put, List.setIfInBounds_toArray, List.set_cons_zero, List.set_cons_succ]
        refine wpAnyH_take (i := 1) (v := ?_) rfl (by kernel_rfl) (by kernel_rfl) (by kernel_rfl) (fun _ _ _ h => h) (Or.inl ⟨by rfl, ?_⟩) (by assumption) ?_
        rotate_left
        · intro w hSw; (try dsimp only at hSw); go_simp; (try (with_reducible rfl))
        try simp only [List.getElem_toArray, List.getElem_cons_succ, List.getElem_cons_zero, Act.put, List.setIfInBounds_toArray, List.set_cons_zero, List.set_cons_succ]
        refine wpAnyH_take (i := 3) (v := ?_) rfl (by kernel_rfl) (by kernel_rfl) (by kernel_rfl) (fun _ _ _ h => h) (Or.inl ⟨by rfl, ?_⟩) (by assumption) ?_
        rotate_left
        · intro w hSw; (try dsimp only at hSw); go_simp; (try (with_reducible rfl))
        try simp only [List.getElem_toArray, List.getElem_cons_succ, List.getElem_cons_zero, Act.put, List.setIfInBounds_toArray, List.set_cons_zero, List.set_cons_succ]
        refine wpAnyH_take (i := 4) (v := ?_) rfl (by kernel_rfl) (by kernel_rfl) (by kernel_rfl) (fun _ _ _ h => h) (Or.inl ⟨by rfl, ?_⟩) (by assumption) ?_
        rotate_left
        · intro w hSw; (try dsimp only at hSw); go_simp; (try (with_reducible rfl))
        try simp only [List.getElem_toArray, List.getElem_cons_succ, List.getElem_cons_zero, Act.put, List.setIfInBounds_toArray, List.set_cons_zero, List.set_cons_succ]
        refine wpAnyH_take (i := 5) (v := ?_) rfl (by kernel_rfl) (by kernel_rfl) (by kernel_rfl) (fun _ _ _ h => h) (Or.inl ⟨by rfl, ?_⟩) (by assumption) ?_
        rotate_left
        · intro w hSw; (try dsimp only at hSw); go_simp; (try (with_reducible rfl))
        try simp only [List.getElem_toArray, List.getElem_cons_succ, List.getElem_cons_zero, Act.put, List.setIfInBounds_toArray, List.set_cons_zero, List.set_cons_succ]
        first | rw [haq] | skip
        refine wpAnyH_take (i := 6) (v := ?_) rfl (by kernel_rfl) (by kernel_rfl) (by kernel_rfl) (fun _ _ _ h => h) (Or.inl ⟨by rfl, ?_⟩) (by assumption) ?_
        rotate_left
        · intro w hSw; (try dsimp only at hSw); go_simp; (try (with_reducible rfl))
        try simp only [List.getElem_toArray, List.getElem_cons_succ, List.getElem_cons_zero, Act.put, List.setIfInBounds_toArray, List.set_cons_zero, List.set_cons_succ]
        refine wpAnyH_ready (rs := [2]) (by kernel_rfl) (by simp) ?_
        refine AllReadyH.cons rfl (fun K hK => ?_) AllReadyH.nil
        go_simp
        go_at_call 29
        refine (CP.out _ HB.out.drew).mono ?_
        rintro e w5 ⟨rfl, hb⟩
        have B5 : Hid (Below wr.heap.size wr w5) := (Below.refl _ _).drew.trans (hb.mono (Nat.le_refl _))
        clear hb
        go_wp2_with fail
        refine hK.out _ _ (KEEP.out _ B5.out) (fun hHeld => ?_)
        clear hK K
        try simp only [List.getElem_toArray, List.getElem_cons_succ, List.getElem_cons_zero, Act.put, List.setIfInBounds_toArray, List.set_cons_zero, List.set_cons_succ]
        refine wpAnyH_take (i := 7) (v := ?_) rfl (by kernel_rfl) (by kernel_rfl) (by kernel_rfl) (fun _ _ _ h => h) (Or.inl ⟨by rfl, ?_⟩) (by assumption) ?_
        rotate_left
        · intro w hSw; (try dsimp only at hSw); go_simp; (try (with_reducible rfl))
        try simp only [List.getElem_toArray, List.getElem_cons_succ, List.getElem_cons_zero, Act.put, List.setIfInBounds_toArray, List.set_cons_zero, List.set_cons_succ]
        refine wpAnyH_done (by kernel_rfl) ?_ _
        clear hHeld
        have BF : Hid (Below w.heap.size w w5) := HB.out.trans (B5.out.mono HB.out.size)
        clear B5 KEEP CP hneq haq
        cases bq with
        | false =>
          have HF : Hid (expB dd ps nd ks = false) := by show _ = _; rw [HEX2.out, HA.out, HS.out, Bool.false_and]
          go_wp2
          go_ret
          exact ⟨by rw [HF.out]; rfl, BF.out⟩
        | true =>
          have HN : Hid (ks.all (parOk dd ps nd) = (ks.drop (k + 1)).all (parOk dd ps nd)) := by show _ = _; rw [HA.out, HS.out, Bool.true_and]
          go_wp2
          go_roundw
          case rel => exact ⟨k + 1, by omega, by go_num, HN.out, BF.out⟩
          case measure => simp [intOf]; omega
      · have HF : Hid (expB dd ps nd ks = true) := by show _ = _; rw [HEX2.out, HA.out, List.drop_of_length_le (by rw [RY.out.1]; omega)]; rfl
        go_wp2
        go_ret
        exact ⟨by rw [HF.out]; rfl, HB.out⟩
  · have HF : Hid (expB dd ps nd ks = false) := by show _ = _; rw [HEX.out, decide_eq_false hE, Bool.false_and]
    obtain ⟨E, hEE⟩ : ∃ E, dataE dd = E := ⟨_, rfl⟩
    rw [hEE] at CD hE
    have hEn : (E != 0) = true := by simpa using hE
    clear hE hEE HEX
    go_enter Tryd.func34, Tryd.ntmps34
    go_wp2_with fail
    refine CD.out.mono ?_
    rintro e w2 ⟨rfl, hb⟩
    have B2 := Lib.hid hb
    clear hb CD
    go_wp2
    go_ret
    exact ⟨by rw [HF.out]; rfl, B2.out⟩
end Go.Proofs.YtjjflbnopphciabDoor

namespace Go.Proofs.YtjjflbnopphciabDoor
open Go.RowKit

/-- Block g holds n blocks of eight whose numbers are F's. -/
def DaB (W : World) (g n : Nat) (F : Nat → Nat → Int) : Prop := ∃ arr, Bk W g 34 arr ∧ n * 8 ≤ arr.size ∧ ∀ r k, r < n → k < 8 → arr[r * 8 + k]? = some (.int .i64 (F r k))
theorem DaB.lt {W : World} {g n : Nat} {F : Nat → Nat → Int} (h : DaB W g n F) : g < W.heap.size := by obtain ⟨a, hb, _⟩ := h; exact hb.lt
theorem DaB.cell {W : World} {g n : Nat} {F : Nat → Nat → Int} (h : DaB W g n F) {r k : Nat} (hr : r < n) (hk : k < 8) : W.cell? ⟨g, r * 8 + k, none⟩ = some (.int .i64 (F r k)) := by
  obtain ⟨a, hb, _, hc⟩ := h
  rw [hb.cell]; exact hc r k hr hk
theorem DaB.frozen {W : World} {g n : Nat} {F : Nat → Nat → Int} (h : DaB W g n F) (i : Nat) : W.frozen? ⟨g, i, none⟩ = false := by
  obtain ⟨a, hb, _⟩ := h; exact hb.frozen i
theorem DaB.below {W W' : World} {g n X : Nat} {F : Nat → Nat → Int} (h : DaB W g n F) (hb : Below X W W') (hg : g < X) : DaB W' g n F := by
  obtain ⟨a, h1, h2⟩ := h; exact ⟨a, h1.below hb hg, h2⟩
theorem DaB.later {W W' : World} {g n : Nat} {F : Nat → Nat → Int} (h : DaB W g n F) (hb : Below W.heap.size W W') : DaB W' g n F := h.below hb h.lt
theorem DaB.congr {W : World} {g n : Nat} {F G : Nat → Nat → Int} (h : DaB W g n F) (e : ∀ r k, r < n → k < 8 → F r k = G r k) : DaB W g n G := by
  obtain ⟨a, h1, h2, h3⟩ := h; exact ⟨a, h1, h2, fun r k hr hk => by rw [← e r k hr hk]; exact h3 r k hr hk⟩
theorem DaB.set1 {W : World} {g n : Nat} {F : Nat → Nat → Int} (h : DaB W g n F) {r k : Nat} (hr : r < n) (hk : k < 8) (v : Int) : DaB (W.setCell ⟨g, r * 8 + k, none⟩ (.int .i64 v)) g n (fun r' k' => if r' = r ∧ k' = k then v else F r' k') := by
  obtain ⟨a, h1, h2, h3⟩ := h
  refine ⟨a.setIfInBounds (r * 8 + k) (.int .i64 v), h1.set_ _ _, by simp [h2], fun r' k' hr' hk' => ?_⟩
  dsimp only
  rw [Array.getElem?_setIfInBounds]
  by_cases e : r' = r ∧ k' = k
  · obtain ⟨rfl, rfl⟩ := e
    rw [if_pos rfl, if_pos (by omega), if_pos ⟨rfl, rfl⟩]
  · rw [if_neg (by omega), if_neg e]; exact h3 r' k' hr' hk'
theorem EqB.far {W : World} {g n : Nat} {M : Nat → Nat → Int} (h : EqB W g n M) (p : Addr) (hp : g ≠ p.block) (v : Value) : EqB (W.setCell p v) g n M := by
  obtain ⟨a, h1, h2⟩ := h; exact ⟨a, h1.far p hp v, h2⟩
/-- The blocks of F as lists. -/
def listD (n : Nat) (F : Nat → Nat → Int) : List (List Int) := (List.range n).map fun i => (List.range 8).map (F i)
theorem listD_len (n : Nat) (F : Nat → Nat → Int) : (listD n F).length = n := by simp [listD]
theorem listD_at (n : Nat) (F : Nat → Nat → Int) (i : Nat) (hi : i < n) : (listD n F).getD i [] = (List.range 8).map (F i) := by
  simp [listD, List.getD_eq_getElem?_getD, hi]
theorem listD_dc (n : Nat) (F : Nat → Nat → Int) (i k : Nat) (hi : i < n) (hk : k < 8) : dc (listD n F) i k = F i k := by
  unfold dc; rw [listD_at n F i hi]; simp [List.getD_eq_getElem?_getD, hk]
theorem listD_dc0 (n : Nat) (F : Nat → Nat → Int) (i k : Nat) (h : ¬ (i < n ∧ k < 8)) : dc (listD n F) i k = 0 := by
  unfold dc
  by_cases hi : i < n
  · rw [listD_at n F i hi]; simp [List.getD_eq_getElem?_getD, show ¬ k < 8 by omega]
  · have e : (listD n F).getD i [] = [] := by rw [List.getD_eq_getElem?_getD, List.getElem?_eq_none (by rw [listD_len]; omega)]; rfl
    rw [e]; rfl
theorem listD_ok8 (n : Nat) (F : Nat → Nat → Int) : Ok8 (listD n F) := fun i hi => by
  rw [listD_len] at hi; rw [listD_at n F i hi]; simp
theorem listD_congr {n : Nat} {F G : Nat → Nat → Int} (h : ∀ i k, i < n → k < 8 → F i k = G i k) : listD n F = listD n G := by
  unfold listD
  apply List.map_congr_left
  intro i hi
  apply List.map_congr_left
  intro k hk
  exact h i k (List.mem_range.1 hi) (List.mem_range.1 hk)
theorem DaB.toRd {W : World} {g n : Nat} {F : Nat → Nat → Int} (h : DaB W g n F) : RdD W (some ⟨g, 0, none⟩) n (listD n F) := by
  refine ⟨listD_len n F, listD_ok8 n F, fun h0 => ⟨⟨g, 0, none⟩, rfl, h.lt, fun i k hi hk => ?_⟩⟩
  rw [Addr.add_mid, Addr.add_mid, Nat.zero_add, h.cell hi hk, listD_dc n F i k hi hk]
theorem DaB.of_own {w : World} {base n : Nat} {v : Value} {ds : List (List Int)} (h : w.ownsRow base 34 8 v n (dCells ds)) (hl : ds.length = n) (h8 : Ok8 ds) (h0 : 0 < n) : ∃ g cap, v = .slice (some ⟨g, 0, none⟩) n cap ∧ n ≤ cap ∧ cap ≤ 9223372036854775807 ∧ base ≤ g ∧ DaB w g n (dc ds) := by
  rcases h.2 with ⟨_, e⟩ | ⟨g, cap, cur, e, hb, hg, h1, h2, h3, h4⟩
  · omega
  · refine ⟨g, cap, e, h1, by unfold maxLen at h2; omega, hb, cur, hg, by rw [h3]; exact Nat.mul_le_mul_right 8 h1, fun r k hr hk => ?_⟩
    have e1 : (cur.toList.take (n * 8))[r * 8 + k]? = some (.int .i64 (dc ds r k)) := by rw [h4]; exact dCells_at ds h8 r k (by omega) hk
    rw [List.getElem?_take, if_pos (by omega)] at e1
    rw [← Array.getElem?_toList]; exact e1

theorem nilCmp8 (a : Option Addr) (n c : Nat) (W : World) : (binOp .eql 22 (.slice a n c) (.slice none 0 0)).run Tryd.prog W = .ok (.bool a.isNone) W := by
  have h := run_equal_slice_nil (P := Tryd.prog) W 22 34 a n c Tryd.underlying22
  simp only [binOp]
  simp [h]
/-- What is written over the blocks that are lost, one after another. -/
def updF (V : Nat → Nat → Int) (ld : List Int) (F : Nat → Nat → Int) : Nat → Nat → Nat → Int
  | 0 => F
  | r + 1 => fun i k => if (i : Int) = ld.getD r 0 then V r k else updF V ld F r i k

set_option maxRecDepth 100000 in
set_option maxHeartbeats 2000000 in
theorem clone8_any (ad : Addr) (n c : Nat) (ds : List (List Int)) (w : World) (hr : RdD w (some ad) n ds) (hn : n ≤ 100000) :
    Calls Tryd.prog 31 #[.slice (some ad) n c] w fun e w' => ∃ v, e = .returned v ∧ w'.ownsRow w.heap.size 34 8 v n (dCells ds) ∧ Below w.heap.size w w' := by
  have ho : Hid ((w.alloc (.cells #[] 34)).ownsRow w.heap.size 34 8 (.slice (some ⟨w.heap.size, 0, none⟩) 0 0) 0 []) := World.ownsRow_lit w #[] 0 (Nat.le_refl _) (by unfold maxLen; omega) rfl
  obtain ⟨i0, hi, hz0, hz1, hz2⟩ := info_parts arr8Info
  have hlen : Hid ((dCells ds).length = n * 8) := by show List.length _ = _; rw [dCells_len ds hr.2.1, hr.1]
  have hsrc : Hid (∀ j u, (dCells ds)[j]? = some u → (w.alloc (.cells #[] 34)).cell? (ad.add j) = some u) := (hr.below ((Below.refl _ _).alloc (Nat.le_refl _) _)).src
  have hone := Lib.hid (dCells_one ds)
  obtain ⟨news, hnews⟩ : ∃ news, dCells ds = news := ⟨_, rfl⟩
  rw [hnews] at hlen hsrc hone ⊢
  have hnc := nilCmp8 (some ad) n
  clear hnews hr
  go_enter Tryd.func31, Tryd.ntmps31
  go_wp2_with (at_builtin; refine wpList_append_own _ rfl (.tmp 5) (.tmp 6) 22 rfl w.heap.size 34 i0 _ 8 64 Tryd.underlying22 hi hz0 hz1 hz2 rfl (by decide) _ _ _ rfl ho.out ad n c news rfl hlen.out hsrc.out hone.out (by unfold maxLen; omega) (by omega) (by simp) ?_)
  intro v w2 ho2 hg2 _
  have b2 : Below w.heap.size w w2 := ((Below.refl _ _).alloc (Nat.le_refl _) _).grown hg2 (by simp) (fun g hg => (ho.out.lt g hg).1)
  have o2 := Lib.hid ho2
  have B2 := Lib.hid b2
  clear ho2 hg2 b2
  go_wp2
  go_ret
  refine ⟨_, rfl, ?_, B2.out⟩
  have := o2.out
  simpa using this

/-- The data without those that are lost. -/
def clrD (ds : List (List Int)) (ld : List Int) (l n : Nat) : Nat → Nat → Int := updF (fun _ _ => -32768) ld (dc ds) l
/-- What the equations give. -/
def solE (ds ps : List (List Int)) (ld ks : List Int) (l n : Nat) : Nat → Nat → Int := slvF (eqM l ld ks ps (listD n (clrD ds ld l n)) n) l
/-- The data with what was lost. -/
def resF (ds ps : List (List Int)) (ld ks : List Int) (l n : Nat) : Nat → Nat → Int := updF (fun r k => solE ds ps ld ks l n r (4 + k) - 32768) ld (clrD ds ld l n) l
def resD (ds ps : List (List Int)) (ld ks : List Int) (l n : Nat) : List (List Int) := listD n (resF ds ps ld ks l n)
/-- What Restored answers. -/
def rstR (n m l : Nat) (ds ps : List (List Int)) (ld lp : List Int) : List (List Int) × Int :=
  if grpE n m ds ps ld lp = 0 then
    (if (kepL lp m).length < l then ([], 28) else if expB (resD ds ps ld (kepL lp m) l n) ps n (kepL lp m) = true then (resD ds ps ld (kepL lp m) l n, 0) else ([], 13))
  else ([], grpE n m ds ps ld lp)
def RstRes (w : World) (r : List (List Int) × Int) (e : Ending) (w' : World) : Prop :=
  (∃ A c, e = .returned (.tuple #[.slice A r.1.length c, .int .i64 r.2]) ∧ RdD w' A r.1.length r.1) ∧ Below w.heap.size w w'
theorem rstNil {w w' : World} {r : List (List Int) × Int} {E : Int} (h : r = ([], E)) (hb : Below w.heap.size w w') : RstRes w r (.returned (.tuple #[.slice none 0 0, .int .i64 E])) w' := by
  subst h; exact ⟨⟨none, 0, rfl, rfl, fun i hi => by simp at hi, fun h => absurd h (by simp)⟩, hb⟩
theorem lostE_in (count : Int) (last : Int) (xs : List Int) (h : lostE count last xs = 0) : ∀ x ∈ xs, 0 ≤ x ∧ x < count := by
  induction xs generalizing last with
  | nil => intro x hx; cases hx
  | cons y t ih =>
    unfold lostE at h
    by_cases e : ascE count last y = 0
    · rw [if_pos e] at h
      intro x hx
      rcases List.mem_cons.1 hx with rfl | hx
      · unfold ascE at e
        by_cases e1 : (decide (x < 0) || decide (count ≤ x)) = true
        · rw [if_pos e1] at e; omega
        · have := Bool.or_eq_false_iff.1 (by simpa using e1 : (decide (x < 0) || decide (count ≤ x)) = false)
          simp only [decide_eq_false_iff_not] at this
          omega
      · exact ih y h x hx
    · rw [if_neg e] at h; exact absurd h e
theorem rowsE_in {ds : List (List Int)} {lo hi : Int} {ks : List Int} (h : rowsE ds lo hi ks = 0) : ∀ x ∈ ks, rangesE (ds.getD x.toNat []) lo hi = 0 := by
  unfold rowsE at h
  induction ks with
  | nil => intro x hx; cases hx
  | cons y t ih =>
    simp only [List.map_cons, firstE] at h
    by_cases e : rangesE (ds.getD y.toNat []) lo hi = 0
    · rw [if_pos e] at h
      intro x hx
      rcases List.mem_cons.1 hx with rfl | hx
      · exact e
      · exact ih h x hx
    · rw [if_neg e] at h; exact absurd h e
theorem grp_parts {n m : Nat} {ds ps : List (List Int)} {ld lp : List Int} (h : grpE n m ds ps ld lp = 0) : grp1E n m ld lp = 0 ∧ rowsE ds (-32767) 32767 (kepL ld n) = 0 ∧ rowsE ps 0 65536 (kepL lp m) = 0 := by
  unfold grpE at h
  by_cases e : grp1E n m ld lp = 0
  · rw [if_pos e] at h
    refine ⟨e, ?_⟩
    simp only [firstE] at h
    by_cases e2 : rowsE ds (-32767) 32767 (kepL ld n) = 0
    · rw [if_pos e2] at h
      by_cases e3 : rowsE ps 0 65536 (kepL lp m) = 0
      · exact ⟨e2, e3⟩
      · rw [if_neg e3] at h; exact absurd h e3
    · rw [if_neg e2] at h; exact absurd h e2
  · rw [if_neg e] at h; exact absurd h e
theorem getD_mem' (xs : List Int) (k : Nat) (h : k < xs.length) : xs.getD k 0 ∈ xs := by
  rw [List.getD_eq_getElem?_getD, List.getElem?_eq_getElem h]; exact List.getElem_mem h
/-- A number of numbers in bounds. -/
theorem ranges_at {xs : List Int} {lo hi : Int} (h : rangesE xs lo hi = 0) (k : Nat) (hk : k < xs.length) : lo ≤ xs.getD k 0 ∧ xs.getD k 0 ≤ hi := by
  induction xs generalizing k with
  | nil => simp at hk
  | cons x t ih =>
    unfold rangesE at h
    simp only [List.map_cons, firstE] at h
    by_cases e : rangeE x lo hi = 0
    · rw [if_pos e] at h
      cases k with
      | zero => exact (rangeE_zero _ _ _).1 e
      | succ k => simpa using ih h k (by simpa using hk)
    · rw [if_neg e] at h; exact absurd h e
theorem updF_const (v : Int) (ld : List Int) (F : Nat → Nat → Int) (l i k : Nat) (hl : l ≤ ld.length) : updF (fun _ _ => v) ld F l i k = if hasB (ld.take l) i then v else F i k := by
  induction l with
  | zero => simp [updF, hasB]
  | succ l ih =>
    show (if (i : Int) = ld.getD l 0 then v else updF _ ld F l i k) = _
    rw [ih (by omega)]
    have e : ld.take (l + 1) = ld.take l ++ [ld.getD l 0] := by rw [List.take_add_one, List.getD_eq_getElem?_getD, List.getElem?_eq_getElem (show l < ld.length by omega)]; rfl
    have hm : hasB (ld.take (l + 1)) i = (decide ((i : Int) = ld.getD l 0) || hasB (ld.take l) i) := by
      apply Bool.eq_iff_iff.2
      rw [hasB_mem, e, List.mem_append, List.mem_singleton, Bool.or_eq_true, hasB_mem, decide_eq_true_iff]
      exact Or.comm
    rw [hm]
    by_cases h : (i : Int) = ld.getD l 0
    · rw [if_pos h, decide_eq_true h, Bool.true_or, if_pos rfl]
    · rw [if_neg h, decide_eq_false h, Bool.false_or]
/-- The cleared data are small. -/
theorem clr_bnd {n m : Nat} {ds ps : List (List Int)} {ld lp : List Int} (h8 : Ok8 ds) (hn : ds.length = n) (h : grpE n m ds ps ld lp = 0) : BndD (listD n (clrD ds ld ld.length n)) := by
  obtain ⟨h1, h2, h3⟩ := grp_parts h
  intro i k
  by_cases hik : i < n ∧ k < 8
  · rw [listD_dc n _ i k hik.1 hik.2]
    unfold clrD
    rw [updF_const _ _ _ _ _ _ (Nat.le_refl _), List.take_length]
    cases hh : hasB ld i with
    | true => rw [if_pos rfl]; omega
    | false =>
      rw [if_neg (by decide)]
      have hm : (i : Int) ∈ kepL ld n := (kepL_mem ld n i).2 ⟨by omega, by omega, hh⟩
      have := ranges_at (rowsE_in h2 _ hm) k (by rw [Int.toNat_natCast, h8 i (by omega)]; exact hik.2)
      rw [Int.toNat_natCast] at this
      unfold dc
      omega
  · rw [listD_dc0 n _ i k hik]; omega
theorem sol_bd (ds ps : List (List Int)) (ld ks : List Int) (l n r k : Nat) : 0 ≤ solE ds ps ld ks l n r k ∧ solE ds ps ld ks l n r k ≤ 65536 :=
  slvF_bd _ (eqM_bd l ld ks ps _ n) l r k
theorem ps_kept {n m : Nat} {ds ps : List (List Int)} {ld lp : List Int} (h8 : Ok8 ps) (hm : ps.length = m) (h : grpE n m ds ps ld lp = 0) (r k : Nat) (hr : r < (kepL lp m).length) (hk : k < 8) : 0 ≤ dc ps ((kepL lp m).getD r 0).toNat k ∧ dc ps ((kepL lp m).getD r 0).toNat k ≤ 65536 := by
  obtain ⟨h1, h2, h3⟩ := grp_parts h
  have hmem := getD_mem' _ r hr
  have hb := (kepL_mem lp m _).1 hmem
  exact ranges_at (rowsE_in h3 _ hmem) k (by rw [h8 _ (by omega)]; exact hk)
end Go.Proofs.YtjjflbnopphciabDoor

