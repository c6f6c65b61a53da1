import Derived.Test.YtmeddnpahkigeaaDoorW83
import Derived.Test.YtmeddnpahkigeaaDoorW76
namespace Go.Proofs.YtmeddnpahkigeaaDoor
open Go.RowKit
open Go.Shelf
attribute [local go_sem] Oper.semAt_some

/-- A block whose first m samples are numbers already. -/
def numTo (r : List Int) (m : Nat) : List Int := (List.range 8).map fun k => r.getD k 0 + if k < m then 32768 else 0
theorem numTo_length (r : List Int) (m : Nat) : (numTo r m).length = 8 := by simp [numTo]
theorem numTo_zero (r : List Int) (h : r.length = 8) : numTo r 0 = r := by
  match r, h with
  | [_, _, _, _, _, _, _, _], _ => simp [numTo, List.range, List.range.loop]
theorem numTo_at (r : List Int) (m k : Nat) (hk : k < 8) : (numTo r m).getD k 0 = r.getD k 0 + if k < m then 32768 else 0 := by
  simp [numTo, List.getD_eq_getElem?_getD, hk]
theorem numTo_step (r : List Int) (m : Nat) (hm : m < 8) : (numTo r m).set m (r.getD m 0 + 32768) = numTo r (m + 1) := by
  apply List.ext_getElem (by simp [numTo])
  intro i h1 h2
  have hi : i < 8 := by simpa [numTo] using h2
  rw [List.getElem_set]
  by_cases e : m = i
  · subst e; simp [numTo]
  · rw [if_neg e]
    simp only [numTo, List.getElem_map, List.getElem_range]
    by_cases h : i < m
    · rw [if_pos h, if_pos (by omega)]
    · rw [if_neg h, if_neg (by omega)]
/-- The numbers of block x. -/
def numL (ds : List (List Int)) (x : Nat) : List Int := numTo (ds.getD x []) 8
theorem grown_of_below {W W' : World} (h : Below W.heap.size W W') : W.grownBy W' none := ⟨h.os, h.tape, h.output, h.size, fun k hk _ => h.block k hk⟩
theorem iArr8 (l : List Int) (h : l.length = 8) : iArr l = #[.int .i64 (l.getD 0 0), .int .i64 (l.getD 1 0), .int .i64 (l.getD 2 0), .int .i64 (l.getD 3 0), .int .i64 (l.getD 4 0), .int .i64 (l.getD 5 0), .int .i64 (l.getD 6 0), .int .i64 (l.getD 7 0)] := by
  match l, h with
  | [_, _, _, _, _, _, _, _], _ => rfl
/-- All numbers of all blocks are samples. -/
def BndD (ds : List (List Int)) : Prop := ∀ i k, -32767 ≤ dc ds i k ∧ dc ds i k ≤ 32767

/-- Of what lay below B all but block X is as it was. -/
structure KX (X B : Nat) (W W' : World) : Prop where
  size : W.heap.size ≤ W'.heap.size
  block : ∀ k, k < B → k ≠ X → W'.heap[k]? = W.heap[k]?
theorem KX.trans {X B : Nat} {U V W : World} (h : KX X B U V) (k : KX X B V W) : KX X B U W := ⟨Nat.le_trans h.size k.size, fun i h1 h2 => (k.block i h1 h2).trans (h.block i h1 h2)⟩
theorem KX.of_below {X B B' : Nat} {W W' : World} (h : Below B' W W') (hb : B ≤ B') : KX X B W W' := ⟨h.size, fun k h1 _ => h.block k (by omega)⟩
theorem KX.cell {X B : Nat} {W W' : World} (h : KX X B W W') {p : Addr} (h1 : p.block < B) (h2 : p.block ≠ X) : W'.cell? p = W.cell? p := World.cell?_of_block (w := W) (h.block p.block h1 h2)
theorem RdD.kx {w w' : World} {A : Option Addr} {n X : Nat} {ds : List (List Int)} (h : RdD w A n ds) (hk : KX X w.heap.size w w') (hX : 0 < n → ∀ ad, A = some ad → ad.block ≠ X) : RdD w' A n ds := by
  refine ⟨h.1, h.2.1, fun h0 => ?_⟩
  obtain ⟨ad, hA, hg, hc⟩ := h.2.2 h0
  have hne := hX h0 ad hA
  exact ⟨ad, hA, Nat.lt_of_lt_of_le hg hk.size, fun i k hi hk' => (hk.cell (by rw [addBlock, addBlock]; exact hg) (by rw [addBlock, addBlock]; exact hne)).trans (hc i k hi hk')⟩

set_option maxRecDepth 100000 in
set_option maxHeartbeats 4000000 in
theorem weighted1_in (nf : Nat) (hn : 1 ≤ nf) (l Bd Bj X : Nat) (A : Option Addr) (n cp : Nat) (ds : List (List Int)) (j : Int) (hj : 0 ≤ j ∧ j ≤ 3) (hn2 : n ≤ 1000) (w0 : World) (hbd : Bd < w0.heap.size) (hbj : Bj < w0.heap.size) (hxd : Bd ≠ X) (hxj : Bj ≠ X) (hxa : 0 < n → ∀ ad, A = some ad → ad.block ≠ X)
    (hRd : RdD w0 A n ds) (hBd : w0.cell? ⟨Bd, 0, none⟩ = some (.slice A n cp)) (hBj : w0.cell? ⟨Bj, 0, none⟩ = some (.int .i64 j)) (hX : BndD ds) (J Jx : List Nat → World → Prop)
    (hY : ∀ pre (x : Nat) W, J pre W → pre ++ [x] <+: List.range n → YieldAt Fence.wide (nf - 1) Tryd.prog l #[.int .i64 (invT (4 + (x : Int) - j)), .agg (iArr (numL ds x))] W fun e W' =>
      (e = .returned (.bool true) ∧ J (pre ++ [x]) W' ∧ KX X w0.heap.size W W') ∨ (e = .returned (.bool false) ∧ Jx (pre ++ [x]) W'))
    (hd : ∀ pre W W', J pre W → Below W.heap.size W W' → J pre W')
    (W : World) (hW : KX X w0.heap.size w0 W) (h0 : J [] W) :
    CallsIn Fence.wide nf Tryd.prog 94 #[.func (.yield l) #[] #[], .pointer (some ⟨Bd, 0, none⟩), .pointer (some ⟨Bj, 0, none⟩)] W fun e W' => (∃ v, e = .returned v) ∧
      ((∃ ys, ys = List.range n ∧ J ys W') ∨ (∃ pre, pre <+: List.range n ∧ Jx pre W')) := by
  have HY := Lib.hid hY
  have H0 := Lib.hid h0
  have HD := Lib.hid hd
  have HR := Lib.hid hRd
  have HBD := Lib.hid hBd
  have HBJ := Lib.hid hBj
  have HW := Lib.hid hW
  have HX := Lib.hid hX
  clear hY h0 hRd hBd hBj hW hd hX
  refine callsIn_of_wp Tryd.func94 rfl trivial ?_ rfl
  simp only [Tryd.ntmps94, List.size_toArray, List.length_cons, List.length_nil, Nat.reduceAdd, Nat.reduceSub, Array.replicate_succ, Array.replicate_zero, List.push_toArray, List.append_toArray, List.nil_append, List.cons_append]
  have hBd0 : W.cell? ⟨Bd, 0, none⟩ = some (.slice A n cp) := (HW.out.cell (p := ⟨Bd, 0, none⟩) hbd hxd).trans HBD.out
  gi_wp2
  clear hBd0
  gi_loopw [9] (fun i wr => ∃ k : Nat, k ≤ n ∧ i = .int .i64 (k : Int) ∧ J ((List.range n).take k) wr ∧ Hid (KX X w0.heap.size w0 wr)) (fun i _ => (n - (intOf i).toNat))
  case atStart =>
    exact ⟨0, Nat.zero_le _, rfl, by simpa using H0.out, HW⟩
  case round =>
    obtain ⟨k, hk, rfl, hJ, HB⟩ := hrel
    by_cases hlt : k < n
    · obtain ⟨wA, hwA⟩ : ∃ X, X = wr := ⟨_, rfl⟩
      subst hwA
      have hR2 := HR.out.kx HB.out hxa
      have hdc : ∀ m, (ds.getD k []).getD m 0 = dc ds k m := fun m => rfl
      have hl8 : (ds.getD k []).length = 8 := HR.out.2.1 k (by rw [HR.out.1]; exact hlt)
      obtain ⟨ad, x0, x1, x2, x3, x4, x5, x6, x7, hAe, hbl, hrow, p0, p1, p2, p3, p4, p5, p6, p7⟩ := hR2.row hlt
      subst hAe
      have HJ := Lib.hid hJ
      have hjW : Hid (Bj < wA.heap.size) := Nat.lt_of_lt_of_le hbj HB.out.size
      have hkI : (k : Int) < (n : Int) := by omega
      have HNL : Hid (numL ds k = numTo (ds.getD k []) 8) := rfl
      have hxb : ∀ m, -32767 ≤ (ds.getD k []).getD m 0 ∧ (ds.getD k []).getD m 0 ≤ 32767 := fun m => HX.out k m
      have HXB := Lib.hid hxb
      obtain ⟨r, hr⟩ : ∃ r, ds.getD k [] = r := ⟨_, rfl⟩
      rw [hr] at hl8 hrow HNL HXB
      obtain ⟨w2, hw2⟩ : ∃ X, wA.alloc (.cells #[.int .i64 x0, .int .i64 x1, .int .i64 x2, .int .i64 x3, .int .i64 x4, .int .i64 x5, .int .i64 x6, .int .i64 x7] 65) = X := ⟨_, rfl⟩
      have hbk2 : Hid (Bk w2 wA.heap.size 65 (iArr (numTo r 0))) := by
        show Bk _ _ _ _
        rw [numTo_zero r hl8, hrow, ← hw2]
        exact Bk.new _ _ _
      have hbe2 : Hid (Below wA.heap.size wA w2) := by show Below _ _ _; rw [← hw2]; exact (Below.refl _ _).alloc (Nat.le_refl _) _
      have HW2 := Lib.hid hw2
      clear hw2 hJ hR2 hdc hr hrow hxb
      gi_wp2_with fail
      rw [HW2.out]
      clear HW2 p0 p1 p2 p3 p4 p5 p6 p7
      obtain ⟨g, hg⟩ : ∃ g, wA.heap.size = g := ⟨_, rfl⟩
      rw [hg] at hbk2 hjW ⊢
      have HG := Lib.hid hg
      clear hg
      gi_loopw [14] (fun i W => ∃ m : Nat, m ≤ 8 ∧ i = .int .i64 m ∧ Hid (Bk W g 65 (iArr (numTo r m))) ∧ Hid (Below wA.heap.size wA W)) (fun i _ => 8 - (intOf i).toNat)
      case atStart => exact ⟨0, Nat.zero_le _, rfl, hbk2, hbe2⟩
      case round =>
        obtain ⟨m, hm8, rfl, hbk, hbe⟩ := hrel
        clear hbk2 hbe2
        by_cases hm : m < 8
        · have hold : wr.cell? ⟨g, m, none⟩ = some (.int .i64 (r.getD m 0)) := by
            rw [hbk.out.cell, iArr_at _ _ (by rw [numTo_length]; exact hm), numTo_at r m m hm, if_neg (by omega), Int.add_zero]
          have hfr : wr.frozen? ⟨g, m, none⟩ = false := hbk.out.frozen _
          have hst := numTo_step r m hm
          have hxm := HXB.out m
          obtain ⟨o, ho⟩ : ∃ o, r.getD m 0 = o := ⟨_, rfl⟩
          rw [ho] at hold hst hxm
          have FIN : Hid (Bk (wr.setCell ⟨g, m, none⟩ (.int .i64 (o + 32768))) g 65 (iArr (numTo r (m + 1))) ∧ Below wA.heap.size wA (wr.setCell ⟨g, m, none⟩ (.int .i64 (o + 32768)))) := by
            refine ⟨?_, hbe.out.setCell (by rw [HG.out]; exact Nat.le_refl _) _⟩
            rw [← hst, ← iArr_set]
            exact hbk.out.set_ _ _
          have hmI : (m : Int) < 8 := by omega
          clear ho hst hbk hbe
          gi_wp2
          go_roundw
          case rel => exact ⟨m + 1, by omega, by go_num, FIN.out.1, FIN.out.2⟩
          case measure => simp [intOf]; omega
        · obtain rfl : m = 8 := by omega
          have HB8 : Hid (Bk wr g 65 (iArr (numL ds k))) := by show Bk _ _ _ _; rw [HNL.out]; exact hbk.out
          have hn8 : (numL ds k).length = 8 := by rw [HNL.out]; exact numTo_length _ _
          have hBW : KX X w0.heap.size w0 wr := HB.out.trans (KX.of_below hbe.out HB.out.size)
          have hbj2 : wr.cell? ⟨Bj, 0, none⟩ = some (.int .i64 j) := (hBW.cell (p := ⟨Bj, 0, none⟩) hbj hxj).trans HBJ.out
          have hltb : Bj < wr.heap.size := Nat.lt_of_lt_of_le hbj hBW.size
          have hgl : g < wr.heap.size := HB8.out.lt
          obtain ⟨fn, tmps, assign, body, hy, hR⟩ := HY.out _ k wr.drew (HD.out _ _ _ HJ.out (hbe.out.drew)) ⟨(List.range n).drop (k + 1), by rw [← range_takeT hlt, List.take_append_drop]⟩
          have CW : Hid (∀ W, Calls Tryd.prog 95 #[.int .i64 k, .int .i64 j] W fun e w' => e = .returned (.int .i64 (invT (4 + (k : Int) - j))) ∧ W = w') := fun W => weightOf_any k j (by omega) hj W
          obtain ⟨wt, hwt⟩ : ∃ wt, invT (4 + (k : Int) - j) = wt := ⟨_, rfl⟩
          rw [hwt] at hy CW
          obtain ⟨nl, hnl⟩ : ∃ nl, numL ds k = nl := ⟨_, rfl⟩
          rw [hnl] at hn8 HB8 hy
          rw [iArr8 nl hn8] at hy HB8
          have HW5 : Hid (KX X w0.heap.size w0 wr.drew) := ⟨hBW.size, hBW.block⟩
          have HRB := Lib.hid (hR.mono (R' := fun e W' => ∃ b : Bool, e = .returned (.bool b) ∧ ((b = true ∧ J ((List.range n).take k ++ [k]) W' ∧ KX X w0.heap.size wr.drew W') ∨ (b = false ∧ Jx ((List.range n).take k ++ [k]) W'))) (by
            rintro e W' (⟨rfl, h1, h2⟩ | ⟨rfl, h1⟩)
            · exact ⟨true, rfl, .inl ⟨rfl, h1, h2⟩⟩
            · exact ⟨false, rfl, .inr ⟨rfl, h1⟩⟩))
          clear hR
          clear hwt hnl hn8 hbk hbe hBW HNL
          generalize nl.getD 0 0 = y0 at *
          generalize nl.getD 1 0 = y1 at *
          generalize nl.getD 2 0 = y2 at *
          generalize nl.getD 3 0 = y3 at *
          generalize nl.getD 4 0 = y4 at *
          generalize nl.getD 5 0 = y5 at *
          generalize nl.getD 6 0 = y6 at *
          generalize nl.getD 7 0 = y7 at *
          have e0 : wr.cell? ⟨g, 0, none⟩ = some (.int .i64 y0) := by rw [HB8.out.cell]; rfl
          have e1 : wr.cell? ⟨g, 1, none⟩ = some (.int .i64 y1) := by rw [HB8.out.cell]; rfl
          have e2 : wr.cell? ⟨g, 2, none⟩ = some (.int .i64 y2) := by rw [HB8.out.cell]; rfl
          have e3 : wr.cell? ⟨g, 3, none⟩ = some (.int .i64 y3) := by rw [HB8.out.cell]; rfl
          have e4 : wr.cell? ⟨g, 4, none⟩ = some (.int .i64 y4) := by rw [HB8.out.cell]; rfl
          have e5 : wr.cell? ⟨g, 5, none⟩ = some (.int .i64 y5) := by rw [HB8.out.cell]; rfl
          have e6 : wr.cell? ⟨g, 6, none⟩ = some (.int .i64 y6) := by rw [HB8.out.cell]; rfl
          have e7 : wr.cell? ⟨g, 7, none⟩ = some (.int .i64 y7) := by rw [HB8.out.cell]; rfl
          gi_wp2
          gi_region_with (first
            | (refine ⟨trivial, ?_⟩; gi_at_call 95; refine (callsIn_wide.2 (CW.out _)).mono ?_; rintro e w' ⟨rfl, rfl⟩)
            | (refine HRB.out.mono ?_; rintro e W3 ⟨bb, rfl, hbb⟩))
          all_goals
            rcases hbb with ⟨rfl, hJ3, hk3⟩ | ⟨rfl, hJx3⟩
            · gi_wp2
              go_roundw
              case rel => exact ⟨k + 1, by omega, by go_num, by rw [range_takeT hlt]; exact hJ3, HW5.out.trans hk3⟩
              case measure => simp [intOf]; omega
            · gi_wp2
              refine bodyPost_ret (results_none rfl _ _ _) rfl ?_
              exact ⟨⟨_, rfl⟩, .inr ⟨_, ⟨(List.range n).drop (k + 1), by rw [← range_takeT hlt, List.take_append_drop]⟩, hJx3⟩⟩
    · obtain rfl : n = k := by omega
      gi_wp2
      go_end0
      exact ⟨⟨_, rfl⟩, .inl (by rw [List.take_of_length_le (by simp)] at hJ; first | exact hJ | exact ⟨_, rfl, hJ⟩)⟩

end Go.Proofs.YtmeddnpahkigeaaDoor
