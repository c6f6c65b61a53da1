import Derived.Test.YtepcciodhppbnaaP14
import Derived.Test.YtepcciodhppbnaaE23
import Derived.Test.YtepcciodhppbnaaE52
import Derived.Test.YtepcciodhppbnaaE70

namespace Go.Proofs.Ytepcciodhppbnaa
open Go.RowKit

/-! ### a delay by one sample -/
theorem seqF_late (l : List Int) (m : Int) : seqF (0 :: l) m = seqF l (m - 1) := by
  unfold seqF
  by_cases h : 0 ≤ m
  · rw [if_pos h]
    by_cases h1 : 0 ≤ m - 1
    · rw [if_pos h1, show m.toNat = (m - 1).toNat + 1 by omega]
      rfl
    · rw [if_neg h1, show m.toNat = 0 by omega]
      rfl
  · rw [if_neg h, if_neg (by omega)]
theorem fsum_late0 (cs l : List Int) : fsum cs (0 :: l) 0 = 0 := by
  rw [fsum_dot]
  have e : seqF (0 :: l) = fun m => seqF l (m - 1) := funext (seqF_late l)
  rw [e, dotF_shift]
  exact dotF_neg cs (seqF l) _ (fun m hm => seqF_neg l m hm) (by simp)
/-- A filter's output of a signal that is late by one sample is late by one sample. -/
theorem fsum_late (cs xs : List Int) (n i : Nat) (hn : xs.length = n) (hi : i + 1 < n) : fsum cs (0 :: xs.take (n - 1)) (i + 1) = fsum cs xs i := by
  rw [fsum_dot, fsum_dot]
  have e : seqF (0 :: xs.take (n - 1)) = fun m => seqF (xs.take (n - 1)) (m - 1) := funext (seqF_late _)
  rw [e, dotF_shift, show (((i + 1 : Nat) : Int) - 1) = (i : Int) by omega]
  apply dotF_congr
  intro m hm
  unfold seqF
  by_cases h : 0 ≤ m
  · rw [if_pos h, if_pos h, List.getD_eq_getElem?_getD, List.getD_eq_getElem?_getD, List.getElem?_take, if_pos (by omega)]
  · rw [if_neg h, if_neg h]
theorem filt_late (cs : List Int) (b : Int) (xs : List Int) (n i : Nat) (hn : xs.length = n) (hi : i + 1 < n) : (filt cs b (0 :: xs.take (n - 1))).getD (i + 1) 0 = (filt cs b xs).getD i 0 := by
  rw [filt_at _ _ _ _ (by simp; omega), filt_at _ _ _ _ (by omega), fsum_late cs xs n i hn hi]
theorem filt_late0 (cs : List Int) (b : Int) (l : List Int) : (filt cs b (0 :: l)).getD 0 0 = 0 := by
  rw [filt_at _ _ _ _ (by simp), fsum_late0]
  simp

end Go.Proofs.Ytepcciodhppbnaa


namespace Go.Proofs.Ytepcciodhppbnaa
open Go.RowKit

set_option maxRecDepth 100000 in
set_option maxHeartbeats 2000000 in
theorem rAwake_any (w : World) : Calls Try.prog 27 #[] w fun e w' => e = .returned (.bool true) ∧ Below w.heap.size w w' := by
  go_enter Try.func27, Try.ntmps27
  go_wp2_with fail
  refine (Signal_any _).mono ?_
  rintro e w1 ⟨⟨B1, rfl, h1⟩, hb1⟩
  have l1 := Lib.hid hb1
  have C1 := Lib.hid (ex_value B1 w1 h1)
  clear hb1 h1
  go_wp2_with fail
  refine C1.out.mono ?_
  rintro e w2 ⟨rfl, hb2⟩
  have l2 := Lib.hid (l1.out.trans (hb2.mono l1.out.size))
  clear hb2 l1 C1
  go_wp2_with fail
  refine (ex_stb _).mono ?_
  rintro e w3 ⟨rfl, hb3⟩
  have l3 := Lib.hid (l2.out.trans (hb3.mono l2.out.size))
  clear hb3 l2
  go_wp2
  go_ret
  exact ⟨rfl, l3.out⟩

end Go.Proofs.Ytepcciodhppbnaa


namespace Go.Proofs.Ytepcciodhppbnaa
open Go.RowKit

theorem rd_news {W : World} {az : Addr} {q : Nat} {ys : List Int} (h : RdI W (some az) q ys) : ∀ j u, (ys.map (Value.int .i64))[j]? = some u → W.cell? (az.add j) = some u := by
  intro j u hu
  have hj : j < ys.length := by
    have := (List.getElem?_eq_some_iff.1 hu).1
    simpa using this
  have hl := h.1
  obtain ⟨ad', ha, hlt, hc⟩ := h.2 (by omega)
  obtain rfl := Option.some.inj ha
  rw [hc j (by omega)]
  rw [List.getElem?_map, List.getElem?_eq_getElem hj] at hu
  simp at hu
  rw [← hu]
  simp [List.getD_eq_getElem?_getD, List.getElem?_eq_getElem hj]
theorem one_news (ys : List Int) : ∀ u ∈ ys.map (Value.int .i64), u.oneCell' = true := by
  intro u hu
  obtain ⟨x, _, rfl⟩ := List.mem_map.1 hu
  rfl
theorem sigE_of3 {xs : List Int} (hl : xs.length ≤ 400) (h : ∀ x ∈ xs, -32767 ≤ x ∧ x ≤ 32767) : sigE xs = 0 := sigE_of hl h
set_option maxRecDepth 100000 in
set_option maxHeartbeats 8000000 in
theorem tcw_Z (A : Option Addr) (n c : Nat) (xs : List Int) (f s d : Int) (B : Option Addr) (m e : Nat) (b : Int) (cs : List Int) (w : World) (h : n = 0)
    : Calls Try.prog 6 #[.slice A n c, .agg #[.int .i64 f, .int .i64 s, .int .i64 d], .agg #[.slice B m e, .int .i64 b]] w fun e w' => e = .returned (.bool true) ∧ Below w.heap.size w w' := by
  have hn1 : ((n : Int) == 0) = true := by simp; omega
  have K0 : Hid (Bk ((w.alloc (.cells #[.int .i64 f, .int .i64 s, .int .i64 d] 50)).alloc (.cells #[.slice B m e, .int .i64 b] 52)) w.heap.size 50 #[.int .i64 f, .int .i64 s, .int .i64 d]) := Lib.hid ((Bk.new _ _ _).alloc _)
  have G0 : Hid (Bk ((w.alloc (.cells #[.int .i64 f, .int .i64 s, .int .i64 d] 50)).alloc (.cells #[.slice B m e, .int .i64 b] 52)) (w.heap.size + 1) 52 #[.slice B m e, .int .i64 b]) := Lib.hid (by simpa using Bk.new (w.alloc (.cells #[.int .i64 f, .int .i64 s, .int .i64 d] 50)) 52 #[.slice B m e, .int .i64 b])
  have B0 : Hid (Below w.heap.size w ((w.alloc (.cells #[.int .i64 f, .int .i64 s, .int .i64 d] 50)).alloc (.cells #[.slice B m e, .int .i64 b] 52))) := Lib.hid (below2 _ _ _)
  clear h
  go_enter Try.func6, Try.ntmps6
  go_wp2_with fail
  refine (rAwake_any _).mono ?_
  rintro e w1 ⟨rfl, hb⟩
  have K1 := Lib.hid (K0.out.later hb)
  have G1 := Lib.hid (G0.out.later hb)
  have B1 := Lib.hid (B0.out.trans (hb.mono B0.out.size))
  clear K0 G0 B0 hb
  go_wp2
  go_ret
  exact ⟨by simp, B1.out⟩
set_option maxRecDepth 100000 in
set_option maxHeartbeats 8000000 in
theorem tcw_L (A : Option Addr) (n c : Nat) (xs : List Int) (f s d : Int) (B : Option Addr) (m e : Nat) (b : Int) (cs : List Int) (w : World) (hn : n ≤ 9223372036854775807) (hm : m ≤ 9223372036854775807) (h : 20 < n)
    : Calls Try.prog 6 #[.slice A n c, .agg #[.int .i64 f, .int .i64 s, .int .i64 d], .agg #[.slice B m e, .int .i64 b]] w fun e w' => e = .returned (.bool true) ∧ Below w.heap.size w w' := by
  have hn1 : ((n : Int) == 0) = false := by simp; omega
  have h20 : (20 : Int) < (n : Int) := by omega
  have K0 : Hid (Bk ((w.alloc (.cells #[.int .i64 f, .int .i64 s, .int .i64 d] 50)).alloc (.cells #[.slice B m e, .int .i64 b] 52)) w.heap.size 50 #[.int .i64 f, .int .i64 s, .int .i64 d]) := Lib.hid ((Bk.new _ _ _).alloc _)
  have G0 : Hid (Bk ((w.alloc (.cells #[.int .i64 f, .int .i64 s, .int .i64 d] 50)).alloc (.cells #[.slice B m e, .int .i64 b] 52)) (w.heap.size + 1) 52 #[.slice B m e, .int .i64 b]) := Lib.hid (by simpa using Bk.new (w.alloc (.cells #[.int .i64 f, .int .i64 s, .int .i64 d] 50)) 52 #[.slice B m e, .int .i64 b])
  have B0 : Hid (Below w.heap.size w ((w.alloc (.cells #[.int .i64 f, .int .i64 s, .int .i64 d] 50)).alloc (.cells #[.slice B m e, .int .i64 b] 52))) := Lib.hid (below2 _ _ _)
  clear h
  go_enter Try.func6, Try.ntmps6
  go_wp2_with fail
  refine (rAwake_any _).mono ?_
  rintro e w1 ⟨rfl, hb⟩
  have K1 := Lib.hid (K0.out.later hb)
  have G1 := Lib.hid (G0.out.later hb)
  have B1 := Lib.hid (B0.out.trans (hb.mono B0.out.size))
  clear K0 G0 B0 hb
  go_wp2
  go_ret
  exact ⟨by simp, B1.out⟩
set_option maxRecDepth 100000 in
set_option maxHeartbeats 8000000 in
theorem tcw_S (A : Option Addr) (n c : Nat) (xs : List Int) (f s d : Int) (B : Option Addr) (m e : Nat) (b : Int) (cs : List Int) (w : World) (hn : n ≤ 9223372036854775807) (hm : m ≤ 9223372036854775807) (h0 : ¬ n = 0) (h : n ≤ 20) (hr : RdI w A n xs) (D : Int) (hD : ¬ D = 0)
    (CSg : ∀ W, RdI W A n xs → Calls Try.prog 25 #[.slice A n c] W fun e w' => e = .returned (.int .i64 D) ∧ W = w')
    : Calls Try.prog 6 #[.slice A n c, .agg #[.int .i64 f, .int .i64 s, .int .i64 d], .agg #[.slice B m e, .int .i64 b]] w fun e w' => e = .returned (.bool true) ∧ Below w.heap.size w w' := by
  have CSg := Lib.hid CSg
  have hn1 : ((n : Int) == 0) = false := by simp; omega
  have h20 : ¬ (20 : Int) < (n : Int) := by omega
  have dD1 := neT hD
  clear hD
  have X0 : Hid (RdI ((w.alloc (.cells #[.int .i64 f, .int .i64 s, .int .i64 d] 50)).alloc (.cells #[.slice B m e, .int .i64 b] 52)) A n xs) := Lib.hid (hr.below (below2 _ _ _))
  clear hr
  have K0 : Hid (Bk ((w.alloc (.cells #[.int .i64 f, .int .i64 s, .int .i64 d] 50)).alloc (.cells #[.slice B m e, .int .i64 b] 52)) w.heap.size 50 #[.int .i64 f, .int .i64 s, .int .i64 d]) := Lib.hid ((Bk.new _ _ _).alloc _)
  have G0 : Hid (Bk ((w.alloc (.cells #[.int .i64 f, .int .i64 s, .int .i64 d] 50)).alloc (.cells #[.slice B m e, .int .i64 b] 52)) (w.heap.size + 1) 52 #[.slice B m e, .int .i64 b]) := Lib.hid (by simpa using Bk.new (w.alloc (.cells #[.int .i64 f, .int .i64 s, .int .i64 d] 50)) 52 #[.slice B m e, .int .i64 b])
  have B0 : Hid (Below w.heap.size w ((w.alloc (.cells #[.int .i64 f, .int .i64 s, .int .i64 d] 50)).alloc (.cells #[.slice B m e, .int .i64 b] 52))) := Lib.hid (below2 _ _ _)
  clear h h0
  go_enter Try.func6, Try.ntmps6
  go_wp2_with fail
  refine (rAwake_any _).mono ?_
  rintro e w1 ⟨rfl, hb⟩
  have X1 := Lib.hid (X0.out.below hb)
  have K1 := Lib.hid (K0.out.later hb)
  have G1 := Lib.hid (G0.out.later hb)
  have B1 := Lib.hid (B0.out.trans (hb.mono B0.out.size))
  clear X0 K0 G0 B0 hb
  go_wp2_with fail
  refine (CSg.out _ X1.out).mono ?_
  rintro e w' ⟨rfl, rfl⟩
  go_wp2
  go_ret
  exact ⟨by simp, B1.out⟩
set_option maxRecDepth 100000 in
set_option maxHeartbeats 8000000 in
theorem tcw_Q (A : Option Addr) (n c : Nat) (xs : List Int) (f s d : Int) (B : Option Addr) (m e : Nat) (b : Int) (cs : List Int) (w : World) (hn : n ≤ 9223372036854775807) (hm : m ≤ 9223372036854775807) (h0 : ¬ n = 0) (h : n ≤ 20) (hr : RdI w A n xs) (D : Int) (hD : ¬ D = 0)
    (CSg : ∀ W, RdI W A n xs → Calls Try.prog 25 #[.slice A n c] W fun e w' => e = .returned (.int .i64 0) ∧ W = w')
    (CQ : ∀ W, Calls Try.prog 28 #[.agg #[.int .i64 f, .int .i64 s, .int .i64 d]] W fun e w' => e = .returned (.int .i64 D) ∧ Below W.heap.size W w')
    : Calls Try.prog 6 #[.slice A n c, .agg #[.int .i64 f, .int .i64 s, .int .i64 d], .agg #[.slice B m e, .int .i64 b]] w fun e w' => e = .returned (.bool true) ∧ Below w.heap.size w w' := by
  have CSg := Lib.hid CSg
  have CQ := Lib.hid CQ
  have hn1 : ((n : Int) == 0) = false := by simp; omega
  have h20 : ¬ (20 : Int) < (n : Int) := by omega
  have dD1 := neT hD
  clear hD
  have X0 : Hid (RdI ((w.alloc (.cells #[.int .i64 f, .int .i64 s, .int .i64 d] 50)).alloc (.cells #[.slice B m e, .int .i64 b] 52)) A n xs) := Lib.hid (hr.below (below2 _ _ _))
  clear hr
  have K0 : Hid (Bk ((w.alloc (.cells #[.int .i64 f, .int .i64 s, .int .i64 d] 50)).alloc (.cells #[.slice B m e, .int .i64 b] 52)) w.heap.size 50 #[.int .i64 f, .int .i64 s, .int .i64 d]) := Lib.hid ((Bk.new _ _ _).alloc _)
  have G0 : Hid (Bk ((w.alloc (.cells #[.int .i64 f, .int .i64 s, .int .i64 d] 50)).alloc (.cells #[.slice B m e, .int .i64 b] 52)) (w.heap.size + 1) 52 #[.slice B m e, .int .i64 b]) := Lib.hid (by simpa using Bk.new (w.alloc (.cells #[.int .i64 f, .int .i64 s, .int .i64 d] 50)) 52 #[.slice B m e, .int .i64 b])
  have B0 : Hid (Below w.heap.size w ((w.alloc (.cells #[.int .i64 f, .int .i64 s, .int .i64 d] 50)).alloc (.cells #[.slice B m e, .int .i64 b] 52))) := Lib.hid (below2 _ _ _)
  clear h h0
  go_enter Try.func6, Try.ntmps6
  go_wp2_with fail
  refine (rAwake_any _).mono ?_
  rintro e w1 ⟨rfl, hb⟩
  have X1 := Lib.hid (X0.out.below hb)
  have K1 := Lib.hid (K0.out.later hb)
  have G1 := Lib.hid (G0.out.later hb)
  have B1 := Lib.hid (B0.out.trans (hb.mono B0.out.size))
  clear X0 K0 G0 B0 hb
  go_wp2_with fail
  refine (CSg.out _ X1.out).mono ?_
  rintro e w' ⟨rfl, rfl⟩
  obtain ⟨d0, d1, d2⟩ := bk3 K1.out
  go_wp2_with fail
  refine (CQ.out _).mono ?_
  rintro e w2 ⟨rfl, hb⟩
  have X2 := Lib.hid (X1.out.below hb)
  have K2 := Lib.hid (K1.out.later hb)
  have G2 := Lib.hid (G1.out.later hb)
  have B2 := Lib.hid (B1.out.trans (hb.mono B1.out.size))
  clear X1 K1 G1 B1 hb
  clear d0 d1 d2
  go_wp2
  go_ret
  exact ⟨by simp, B2.out⟩
set_option maxRecDepth 100000 in
set_option maxHeartbeats 8000000 in
theorem tcw_T (A : Option Addr) (n c : Nat) (xs : List Int) (f s d : Int) (B : Option Addr) (m e : Nat) (b : Int) (cs : List Int) (w : World) (hn : n ≤ 9223372036854775807) (hm : m ≤ 9223372036854775807) (h0 : ¬ n = 0) (h : n ≤ 20) (hr : RdI w A n xs) (h8 : 8 < m)
    (CSg : ∀ W, RdI W A n xs → Calls Try.prog 25 #[.slice A n c] W fun e w' => e = .returned (.int .i64 0) ∧ W = w')
    (CQ : ∀ W, Calls Try.prog 28 #[.agg #[.int .i64 f, .int .i64 s, .int .i64 d]] W fun e w' => e = .returned (.int .i64 0) ∧ Below W.heap.size W w')
    : Calls Try.prog 6 #[.slice A n c, .agg #[.int .i64 f, .int .i64 s, .int .i64 d], .agg #[.slice B m e, .int .i64 b]] w fun e w' => e = .returned (.bool true) ∧ Below w.heap.size w w' := by
  have CSg := Lib.hid CSg
  have CQ := Lib.hid CQ
  have hn1 : ((n : Int) == 0) = false := by simp; omega
  have h20 : ¬ (20 : Int) < (n : Int) := by omega
  have h8I : (8 : Int) < (m : Int) := by omega
  clear h8
  have X0 : Hid (RdI ((w.alloc (.cells #[.int .i64 f, .int .i64 s, .int .i64 d] 50)).alloc (.cells #[.slice B m e, .int .i64 b] 52)) A n xs) := Lib.hid (hr.below (below2 _ _ _))
  clear hr
  have K0 : Hid (Bk ((w.alloc (.cells #[.int .i64 f, .int .i64 s, .int .i64 d] 50)).alloc (.cells #[.slice B m e, .int .i64 b] 52)) w.heap.size 50 #[.int .i64 f, .int .i64 s, .int .i64 d]) := Lib.hid ((Bk.new _ _ _).alloc _)
  have G0 : Hid (Bk ((w.alloc (.cells #[.int .i64 f, .int .i64 s, .int .i64 d] 50)).alloc (.cells #[.slice B m e, .int .i64 b] 52)) (w.heap.size + 1) 52 #[.slice B m e, .int .i64 b]) := Lib.hid (by simpa using Bk.new (w.alloc (.cells #[.int .i64 f, .int .i64 s, .int .i64 d] 50)) 52 #[.slice B m e, .int .i64 b])
  have B0 : Hid (Below w.heap.size w ((w.alloc (.cells #[.int .i64 f, .int .i64 s, .int .i64 d] 50)).alloc (.cells #[.slice B m e, .int .i64 b] 52))) := Lib.hid (below2 _ _ _)
  clear h h0
  go_enter Try.func6, Try.ntmps6
  go_wp2_with fail
  refine (rAwake_any _).mono ?_
  rintro e w1 ⟨rfl, hb⟩
  have X1 := Lib.hid (X0.out.below hb)
  have K1 := Lib.hid (K0.out.later hb)
  have G1 := Lib.hid (G0.out.later hb)
  have B1 := Lib.hid (B0.out.trans (hb.mono B0.out.size))
  clear X0 K0 G0 B0 hb
  go_wp2_with fail
  refine (CSg.out _ X1.out).mono ?_
  rintro e w' ⟨rfl, rfl⟩
  obtain ⟨d0, d1, d2⟩ := bk3 K1.out
  go_wp2_with fail
  refine (CQ.out _).mono ?_
  rintro e w2 ⟨rfl, hb⟩
  have X2 := Lib.hid (X1.out.below hb)
  have K2 := Lib.hid (K1.out.later hb)
  have G2 := Lib.hid (G1.out.later hb)
  have B2 := Lib.hid (B1.out.trans (hb.mono B1.out.size))
  clear X1 K1 G1 B1 hb
  clear d0 d1 d2
  obtain ⟨e0, e1⟩ := bkf2 G2.out
  go_wp2
  go_ret
  exact ⟨by simp, B2.out⟩
set_option maxRecDepth 100000 in
set_option maxHeartbeats 8000000 in
theorem tcw_D (A : Option Addr) (n c : Nat) (xs : List Int) (f s d : Int) (B : Option Addr) (m e : Nat) (b : Int) (cs : List Int) (w : World) (hn : n ≤ 9223372036854775807) (hm : m ≤ 9223372036854775807) (h0 : ¬ n = 0) (h : n ≤ 20) (hr : RdI w A n xs) (D : Int) (hD : ¬ D = 0) (h8 : m ≤ 8) (hx : RdI w B m cs)
    (CSg : ∀ W, RdI W A n xs → Calls Try.prog 25 #[.slice A n c] W fun e w' => e = .returned (.int .i64 0) ∧ W = w')
    (CQ : ∀ W, Calls Try.prog 28 #[.agg #[.int .i64 f, .int .i64 s, .int .i64 d]] W fun e w' => e = .returned (.int .i64 0) ∧ Below W.heap.size W w')
    (CFe : ∀ W, RdI W B m cs → Calls Try.prog 29 #[.agg #[.slice B m e, .int .i64 b]] W fun e w' => e = .returned (.int .i64 D) ∧ Below W.heap.size W w')
    : Calls Try.prog 6 #[.slice A n c, .agg #[.int .i64 f, .int .i64 s, .int .i64 d], .agg #[.slice B m e, .int .i64 b]] w fun e w' => e = .returned (.bool true) ∧ Below w.heap.size w w' := by
  have CSg := Lib.hid CSg
  have CQ := Lib.hid CQ
  have CFe := Lib.hid CFe
  have hn1 : ((n : Int) == 0) = false := by simp; omega
  have h20 : ¬ (20 : Int) < (n : Int) := by omega
  have dD1 := neT hD
  clear hD
  have h8I : ¬ (8 : Int) < (m : Int) := by omega
  clear h8
  have X0 : Hid (RdI ((w.alloc (.cells #[.int .i64 f, .int .i64 s, .int .i64 d] 50)).alloc (.cells #[.slice B m e, .int .i64 b] 52)) A n xs) := Lib.hid (hr.below (below2 _ _ _))
  clear hr
  have Y0 : Hid (RdI ((w.alloc (.cells #[.int .i64 f, .int .i64 s, .int .i64 d] 50)).alloc (.cells #[.slice B m e, .int .i64 b] 52)) B m cs) := Lib.hid (hx.below (below2 _ _ _))
  clear hx
  have K0 : Hid (Bk ((w.alloc (.cells #[.int .i64 f, .int .i64 s, .int .i64 d] 50)).alloc (.cells #[.slice B m e, .int .i64 b] 52)) w.heap.size 50 #[.int .i64 f, .int .i64 s, .int .i64 d]) := Lib.hid ((Bk.new _ _ _).alloc _)
  have G0 : Hid (Bk ((w.alloc (.cells #[.int .i64 f, .int .i64 s, .int .i64 d] 50)).alloc (.cells #[.slice B m e, .int .i64 b] 52)) (w.heap.size + 1) 52 #[.slice B m e, .int .i64 b]) := Lib.hid (by simpa using Bk.new (w.alloc (.cells #[.int .i64 f, .int .i64 s, .int .i64 d] 50)) 52 #[.slice B m e, .int .i64 b])
  have B0 : Hid (Below w.heap.size w ((w.alloc (.cells #[.int .i64 f, .int .i64 s, .int .i64 d] 50)).alloc (.cells #[.slice B m e, .int .i64 b] 52))) := Lib.hid (below2 _ _ _)
  clear h h0
  go_enter Try.func6, Try.ntmps6
  go_wp2_with fail
  refine (rAwake_any _).mono ?_
  rintro e w1 ⟨rfl, hb⟩
  have X1 := Lib.hid (X0.out.below hb)
  have Y1 := Lib.hid (Y0.out.below hb)
  have K1 := Lib.hid (K0.out.later hb)
  have G1 := Lib.hid (G0.out.later hb)
  have B1 := Lib.hid (B0.out.trans (hb.mono B0.out.size))
  clear X0 Y0 K0 G0 B0 hb
  go_wp2_with fail
  refine (CSg.out _ X1.out).mono ?_
  rintro e w' ⟨rfl, rfl⟩
  obtain ⟨d0, d1, d2⟩ := bk3 K1.out
  go_wp2_with fail
  refine (CQ.out _).mono ?_
  rintro e w2 ⟨rfl, hb⟩
  have X2 := Lib.hid (X1.out.below hb)
  have Y2 := Lib.hid (Y1.out.below hb)
  have K2 := Lib.hid (K1.out.later hb)
  have G2 := Lib.hid (G1.out.later hb)
  have B2 := Lib.hid (B1.out.trans (hb.mono B1.out.size))
  clear X1 Y1 K1 G1 B1 hb
  clear d0 d1 d2
  obtain ⟨e0, e1⟩ := bkf2 G2.out
  go_wp2_with fail
  refine (CFe.out _ Y2.out).mono ?_
  rintro e w3 ⟨rfl, hb⟩
  have X3 := Lib.hid (X2.out.below hb)
  have Y3 := Lib.hid (Y2.out.below hb)
  have K3 := Lib.hid (K2.out.later hb)
  have G3 := Lib.hid (G2.out.later hb)
  have B3 := Lib.hid (B2.out.trans (hb.mono B2.out.size))
  clear X2 Y2 K2 G2 B2 hb
  clear e0 e1
  go_wp2
  go_ret
  exact ⟨by simp, B3.out⟩
set_option maxRecDepth 100000 in
set_option maxHeartbeats 8000000 in
theorem tcw_br (ax az : Addr) (n c : Nat) (xs : List Int) (f s d : Int) (B : Option Addr) (m e : Nat) (b : Int) (cs : List Int) (w : World) (haz : cutA (some ax) 0 c = some az) (hr : RdI w (some ax) n xs) (hx : RdI w B m cs) (hnc : n ≤ c) (hn : n ≤ 20) (hm : m ≤ 8) (hB : B = none → m = 0 ∧ e = 0) (hxs : ∀ x ∈ xs, -32767 ≤ x ∧ x ≤ 32767)
    (q l : Nat) (hq : n = q + 1) (hl : l = 8 * q + 1) (us zs ws : List Int) (mo : Int) (hmo : mxB xs 0 = mo) (hmb : 0 ≤ mo ∧ mo ≤ 32767) (x y C : Int) (hCb : 0 ≤ C ∧ C ≤ 1000000000000)
    (CSg : ∀ W, RdI W (some ax) n xs → Calls Try.prog 25 #[.slice (some ax) n c] W fun e w' => e = .returned (.int .i64 0) ∧ W = w')
    (CQ : ∀ W, Calls Try.prog 28 #[.agg #[.int .i64 f, .int .i64 s, .int .i64 d]] W fun e w' => e = .returned (.int .i64 0) ∧ Below W.heap.size W w')
    (CFe : ∀ W, RdI W B m cs → Calls Try.prog 29 #[.agg #[.slice B m e, .int .i64 b]] W fun e w' => e = .returned (.int .i64 0) ∧ Below W.heap.size W w')
    (CR1 : ∀ B' d' W, RdI W B' n xs → Calls Try.prog 22 #[.agg #[.int .i64 0, .int .i64 3, .int .i64 1, .int .i64 8, .int .i64 0, .slice none 0 0], .slice B' n d'] W (RdResN W 0 l us))
    (CR2 : ∀ B' d' W, RdI W B' l us → Calls Try.prog 22 #[.agg #[.int .i64 0, .int .i64 3, .int .i64 8, .int .i64 1, .int .i64 0, .slice none 0 0], .slice B' l d'] W (RdResN W 0 n xs))
    (CEx : ∀ B' d' W, RdI W B' n xs → Calls Try.prog 30 #[.agg #[.int .i64 f, .int .i64 s, .int .i64 d], .slice B' n d'] W (RdResN W 23 0 []))
    (CMo : ∀ A' c' W, RdI W A' m cs → Calls Try.prog 32 #[.agg #[.slice A' m c', .int .i64 b], .int .i64 mo] W fun e w' => e = .returned (.tuple #[.agg #[.int .i64 x, .int .i64 y], .int .i64 0]) ∧ Below W.heap.size W w')
    (CFl : ∀ A' c' B' d' W, RdI W A' m cs → RdI W B' n xs → Calls Try.prog 34 #[.agg #[.slice A' m c', .int .i64 b], .slice B' n d'] W (RdRes W 0 n zs))
    (CIs : ∀ W, Calls Try.prog 35 #[.agg #[.int .i64 x, .int .i64 y]] W fun e w' => e = .returned (.bool true) ∧ Below W.heap.size W w')
    (CWx : ∀ W, Calls Try.prog 18 #[.int .i64 x, .int .i64 0, .int .i64 1000000000] W fun e w' => e = .returned (.bool true) ∧ W = w')
    (CCe : ∀ W, Calls Try.prog 36 #[.int .i64 x, .int .i64 y] W fun e w' => e = .returned (.int .i64 C) ∧ W = w')
    (CFw : ∀ A' c' B' d' W, RdI W A' m cs → RdI W B' n (0 :: xs.take q) → Calls Try.prog 34 #[.agg #[.slice A' m c', .int .i64 b], .slice B' n d'] W (RdRes W 0 n ws))
    (HZB : ∀ k, k < n → fromB (-C) C [zs.getD k 0] = true)
    (HW0 : ws.getD 0 0 = 0)
    (HWZ : ∀ i, i + 1 < n → ws.getD (i + 1) 0 = zs.getD i 0)
    : Calls Try.prog 6 #[.slice (some ax) n c, .agg #[.int .i64 f, .int .i64 s, .int .i64 d], .agg #[.slice B m e, .int .i64 b]] w fun e w' => e = .returned (.bool true) ∧ Below w.heap.size w w' := by
  have CCF : Hid (∀ W, RdI W B m cs → Calls Try.prog 33 #[.agg #[.slice B m e, .int .i64 b]] W (CpF W m b cs)) := fun W h => copyFilter_any B m e b cs W hB h (by omega)
  have CCO : Hid (∀ B' d' xs W, (B' = none → n = 0 ∧ d' = 0) → RdI W B' n xs → Calls Try.prog 23 #[.slice B' n d'] W (RdOne W n xs)) := fun B' d' xs W hN h => (copyInts_any B' n d' xs W hN h (by omega)).mono fun e w' ho => ho.rd h.1
  have CCY : Hid (∀ B' d' xs W, (B' = none → l = 0 ∧ d' = 0) → RdI W B' l xs → Calls Try.prog 23 #[.slice B' l d'] W (RdOne W l xs)) := fun B' d' xs W hN h => (copyInts_any B' l d' xs W hN h (by omega)).mono fun e w' ho => ho.rd h.1
  have CP : Hid (∀ B cb xs W, (B = none → n = 0 ∧ cb = 0) → RdI W B n xs → Calls Try.prog 23 #[.slice B n cb] W (OwnS W xs)) := fun B cb xs W hB h => copyInts_any B n cb xs W hB h (by omega)
  have CCL : Hid (xs.length = n) := hr.1
  have CSg := Lib.hid CSg
  have CQ := Lib.hid CQ
  have CFe := Lib.hid CFe
  have CR1 := Lib.hid CR1
  have CR2 := Lib.hid CR2
  have CEx := Lib.hid CEx
  have CMo := Lib.hid CMo
  have CFl := Lib.hid CFl
  have CIs := Lib.hid CIs
  have CWx := Lib.hid CWx
  have CCe := Lib.hid CCe
  have CFw := Lib.hid CFw
  have HZB := Lib.hid HZB
  have HW0 := Lib.hid HW0
  have HWZ := Lib.hid HWZ
  have HXS := Lib.hid (fun k => getD_bd (xs := xs) (A := 32767) (by omega) hxs k)
  have HMO := Lib.hid hmo
  have NA : Hid ((some ax : Option Addr) = none → n = 0 ∧ c = 0) := Lib.hid (fun h => by cases h)
  have HQ := Lib.hid (And.intro hq hl)
  have hsl : ∀ W, (Instr.slice 29 (.slice (some ax) n c) none (some (.int .i64 (q : Int))) none).run Try.prog W = .ok (.slice (some az) q c) W := fun W => by rw [← haz]; exact cutTo_run (some ax) n c q q rfl (by omega) W
  have HSL := Lib.hid hsl
  have HTK : Hid (∀ W, RdI W (some ax) n xs → RdI W (some az) q (xs.take q)) := Lib.hid (fun W h => by have := rd_take h c q (by omega) hnc; rwa [haz] at this)
  have HTL : Hid ((xs.take q).length = q) := Lib.hid (by rw [List.length_take, hr.1]; omega)
  have wC : IntKind.i64.wrap (-C) = -C := IntWalk.i64_in _ (by omega)
  have hn0 : (0 : Int) < (n : Int) := by omega
  have hn0N : 0 < n := by omega
  have hn1 : ((n : Int) == 0) = false := by simp; omega
  have w1 : IntKind.i64.wrap ((n : Int) - 1) = (q : Int) := by rw [show (n : Int) - 1 = (q : Int) by omega]; exact IntWalk.i64_in _ (by omega)
  have w2 : IntKind.i64.wrap (8 * (q : Int)) = 8 * (q : Int) := IntWalk.i64_in _ (by omega)
  have w3 : IntKind.i64.wrap (8 * (q : Int) + 1) = (l : Int) := by rw [show 8 * (q : Int) + 1 = (l : Int) by omega]; exact IntWalk.i64_in _ (by omega)
  have h20 : ¬ (20 : Int) < (n : Int) := by omega
  have h8I : ¬ (8 : Int) < (m : Int) := by omega
  have X0 : Hid (RdI ((w.alloc (.cells #[.int .i64 f, .int .i64 s, .int .i64 d] 50)).alloc (.cells #[.slice B m e, .int .i64 b] 52)) (some ax) n xs) := Lib.hid (hr.below (below2 _ _ _))
  have Y0 : Hid (RdI ((w.alloc (.cells #[.int .i64 f, .int .i64 s, .int .i64 d] 50)).alloc (.cells #[.slice B m e, .int .i64 b] 52)) B m cs) := Lib.hid (hx.below (below2 _ _ _))
  have K0 : Hid (Bk ((w.alloc (.cells #[.int .i64 f, .int .i64 s, .int .i64 d] 50)).alloc (.cells #[.slice B m e, .int .i64 b] 52)) w.heap.size 50 #[.int .i64 f, .int .i64 s, .int .i64 d]) := Lib.hid ((Bk.new _ _ _).alloc _)
  have G0 : Hid (Bk ((w.alloc (.cells #[.int .i64 f, .int .i64 s, .int .i64 d] 50)).alloc (.cells #[.slice B m e, .int .i64 b] 52)) (w.heap.size + 1) 52 #[.slice B m e, .int .i64 b]) := Lib.hid (by simpa using Bk.new (w.alloc (.cells #[.int .i64 f, .int .i64 s, .int .i64 d] 50)) 52 #[.slice B m e, .int .i64 b])
  have B0 : Hid (Below w.heap.size w ((w.alloc (.cells #[.int .i64 f, .int .i64 s, .int .i64 d] 50)).alloc (.cells #[.slice B m e, .int .i64 b] 52))) := Lib.hid (below2 _ _ _)
  have HNN := Lib.hid hnc
  have hl4 : l ≤ 400 := by omega
  have hq1 : q + 1 ≤ 20 := by omega
  clear hr hx hB hxs hmo hq hl hsl haz hnc
  go_enter Try.func6, Try.ntmps6
  go_wp2_with fail
  refine (rAwake_any _).mono ?_
  rintro e w1 ⟨rfl, hb⟩
  have X1 := Lib.hid (X0.out.below hb)
  have Y1 := Lib.hid (Y0.out.below hb)
  have K1 := Lib.hid (K0.out.later hb)
  have G1 := Lib.hid (G0.out.later hb)
  have B1 := Lib.hid (B0.out.trans (hb.mono B0.out.size))
  clear X0 Y0 K0 G0 B0 hb
  go_wp2_with fail
  refine (CSg.out _ X1.out).mono ?_
  rintro e w' ⟨rfl, rfl⟩
  obtain ⟨d0, d1, d2⟩ := bk3 K1.out
  go_wp2_with fail
  refine (CQ.out _).mono ?_
  rintro e w2 ⟨rfl, hb⟩
  have X2 := Lib.hid (X1.out.below hb)
  have Y2 := Lib.hid (Y1.out.below hb)
  have K2 := Lib.hid (K1.out.later hb)
  have G2 := Lib.hid (G1.out.later hb)
  have B2 := Lib.hid (B1.out.trans (hb.mono B1.out.size))
  clear X1 Y1 K1 G1 B1 hb
  clear d0 d1 d2
  obtain ⟨e0, e1⟩ := bkf2 G2.out
  go_wp2_with fail
  refine (CFe.out _ Y2.out).mono ?_
  rintro e w3 ⟨rfl, hb⟩
  have X3 := Lib.hid (X2.out.below hb)
  have Y3 := Lib.hid (Y2.out.below hb)
  have K3 := Lib.hid (K2.out.later hb)
  have G3 := Lib.hid (G2.out.later hb)
  have B3 := Lib.hid (B2.out.trans (hb.mono B2.out.size))
  clear X2 Y2 K2 G2 B2 hb
  clear e0 e1
  go_wp2_with fail
  refine (CCO.out _ _ _ _ NA.out X3.out).mono ?_
  rintro e w4 ⟨⟨AXa, cXa, rfl, hrXa⟩, hb⟩
  have X4 := Lib.hid (X3.out.below hb)
  have Y4 := Lib.hid (Y3.out.below hb)
  have K4 := Lib.hid (K3.out.later hb)
  have G4 := Lib.hid (G3.out.later hb)
  have B4 := Lib.hid (B3.out.trans (hb.mono B3.out.size))
  clear X3 Y3 K3 G3 B3 hb
  have Xa4 := Lib.hid hrXa
  clear hrXa
  go_wp2_with fail
  refine (CR1.out _ _ _ Xa4.out).mono ?_
  rintro e w5 ⟨⟨AUa, cUa, rfl, hrUa, _, hNUa⟩, hb⟩
  have X5 := Lib.hid (X4.out.below hb)
  have Y5 := Lib.hid (Y4.out.below hb)
  have K5 := Lib.hid (K4.out.later hb)
  have G5 := Lib.hid (G4.out.later hb)
  have B5 := Lib.hid (B4.out.trans (hb.mono B4.out.size))
  have Xa5 := Lib.hid (Xa4.out.below hb)
  clear X4 Y4 K4 G4 B4 Xa4 hb
  have Ua5 := Lib.hid hrUa
  have NUa := Lib.hid hNUa
  clear hrUa hNUa
  go_wp2_with fail
  refine (CCY.out _ _ _ _ NUa.out Ua5.out).mono ?_
  rintro e w6 ⟨⟨AUb, cUb, rfl, hrUb⟩, hb⟩
  have X6 := Lib.hid (X5.out.below hb)
  have Y6 := Lib.hid (Y5.out.below hb)
  have K6 := Lib.hid (K5.out.later hb)
  have G6 := Lib.hid (G5.out.later hb)
  have B6 := Lib.hid (B5.out.trans (hb.mono B5.out.size))
  have Ua6 := Lib.hid (Ua5.out.below hb)
  clear X5 Y5 K5 G5 B5 Ua5 hb
  have Ub6 := Lib.hid hrUb
  clear hrUb
  go_wp2_with fail
  refine (CR2.out _ _ _ Ub6.out).mono ?_
  rintro e w7 ⟨⟨ADa, cDa, rfl, hrDa, _, hNDa⟩, hb⟩
  have X7 := Lib.hid (X6.out.below hb)
  have Y7 := Lib.hid (Y6.out.below hb)
  have K7 := Lib.hid (K6.out.later hb)
  have G7 := Lib.hid (G6.out.later hb)
  have B7 := Lib.hid (B6.out.trans (hb.mono B6.out.size))
  have Ub7 := Lib.hid (Ub6.out.below hb)
  clear X6 Y6 K6 G6 B6 Ub6 hb
  have Da7 := Lib.hid hrDa
  have NDa := Lib.hid hNDa
  clear hrDa hNDa
  go_wp2_with fail
  refine (ints_same _ _ _ _ _ _ _ Da7.out X7.out (by omega)).mono ?_
  rintro e w' ⟨rfl, kk, rfl⟩
  have X8 := Lib.hid (X7.out.drewN kk)
  have Y8 := Lib.hid (Y7.out.drewN kk)
  have K8 := Lib.hid (K7.out.drewN kk)
  have G8 := Lib.hid (G7.out.drewN kk)
  have B8 := Lib.hid (belowDrewN B7.out kk)
  have Da8 := Lib.hid (Da7.out.drewN kk)
  clear X7 Y7 K7 G7 B7 Da7
  obtain ⟨w8, hw8⟩ : ∃ W, w7.drewN kk = W := ⟨_, rfl⟩
  rw [hw8] at X8 Y8 K8 G8 B8 Da8 ⊢
  clear hw8
  obtain ⟨d0, d1, d2⟩ := bk3 K8.out
  go_wp2
  go_region_held3 (fun w' : World => w'.cell? ⟨w.heap.size, 0, none⟩ = some (.int .i64 f) ∧ w'.cell? ⟨w.heap.size, 1, none⟩ = some (.int .i64 s) ∧ w'.cell? ⟨w.heap.size, 2, none⟩ = some (.int .i64 d)) ((go_split_ands; simp [go_sem, *])) (first
    | (go_at_call 23; refine (CP.out _ _ xs _ NDa.out Da8.out.drew).mono ?_; rintro e wq ⟨⟨vq, rfl, hrowq⟩, hbq⟩; obtain ⟨Aq, cq, rfl, _, hrq⟩ := rd_of_own hrowq; have hxl := CCL.out; rw [hxl] at hrq ⊢; have Kq := (K8.out.drew).later hbq; obtain ⟨d0, d1, d2⟩ := bk3 Kq)
    | (go_at_call 30; refine (CEx.out Aq cq _ hrq).mono ?_; rintro e w9 ⟨⟨APy, cPy, rfl, hrPy, hcPy, hNPy⟩, hbp⟩; have Kp := Kq.later hbp; obtain ⟨d0, d1, d2⟩ := bk3 Kp))
  have hb : Below w8.drew.heap.size w8.drew w9 := hbq.trans (hbp.mono hbq.size)
  clear d0 d1 d2 hbq hbp Kq Kp hrq hrowq hxl
  have X9 := Lib.hid (X8.out.drew.below hb)
  have Y9 := Lib.hid (Y8.out.drew.below hb)
  have K9 := Lib.hid (K8.out.drew.later hb)
  have G9 := Lib.hid (G8.out.drew.later hb)
  have B9 := Lib.hid (B8.out.drew.trans (hb.mono B8.out.drew.size))
  have Da9 := Lib.hid (Da8.out.drew.below hb)
  clear hb X8 Y8 K8 G8 B8 Da8
  have Py9 := Lib.hid hrPy
  have NPy := Lib.hid hNPy
  clear hrPy hNPy
  go_wp2
  go_loop [15, 16] (fun u i => ∃ (k : Nat) (z : Int), k ≤ n ∧ i = .int .i64 k ∧ u = .int .i64 z ∧ (0 ≤ z ∧ z ≤ 32767) ∧ Hid (mxB xs 0 = mxB (xs.drop k) z)) (fun _ i => n - (intOf i).toNat)
  case atStart => exact ⟨0, 0, Nat.zero_le _, rfl, rfl, by omega, rfl⟩
  case round =>
    obtain ⟨k, z, hk, rfl, rfl, hz, HI⟩ := hrel
    by_cases hlt : k < n
    · obtain ⟨ad, had, hlt2, hc⟩ := X9.out.2 (by omega)
      obtain rfl := Option.some.inj had
      have hck := hc k hlt
      have hxb := HXS.out k
      have hs := mxB_step xs k z (by have := CCL.out; omega)
      obtain ⟨p, hx⟩ : ∃ x, xs.getD k 0 = x := ⟨_, rfl⟩
      rw [hx] at hck hxb hs
      have ha := absF_bd p 32767 hxb
      have CZ := Lib.hid (fun w => bsize_any p w (by omega))
      obtain ⟨y2, hy⟩ : ∃ y, absF p = y := ⟨_, rfl⟩
      rw [hy] at ha CZ hs
      have hkI : (k : Int) < (n : Int) := by omega
      clear hc hx hy had
      by_cases hm : z < y2
      · rw [if_pos hm] at hs
        have HS := Lib.hid hs
        clear hs
        go_wp2_with fail
        refine (CZ.out _).mono ?_
        rintro e w' ⟨rfl, rfl⟩
        go_wp2
        go_round
        case rel => exact ⟨k + 1, y2, by omega, by go_num, by simp [hm], by omega, by show _ = _; rw [HI.out, HS.out]⟩
        case measure => simp [intOf]; omega
      · rw [if_neg hm] at hs
        have HS := Lib.hid hs
        clear hs
        go_wp2_with fail
        refine (CZ.out _).mono ?_
        rintro e w' ⟨rfl, rfl⟩
        go_wp2
        go_round
        case rel => exact ⟨k + 1, z, by omega, by go_num, by simp [hm], by omega, by show _ = _; rw [HI.out, HS.out]⟩
        case measure => simp [intOf]; omega
    · obtain rfl : n = k := by omega
      have hzm : mo = z := by
        have := HI.out
        rw [List.drop_eq_nil_of_le (by have := CCL.out; omega), HMO.out] at this
        exact this
      subst hzm
      have hkI : ¬ (n : Int) < (n : Int) := by omega
      clear HI hlt
      obtain ⟨e0, e1⟩ := bkf2 G9.out
      go_wp2_with fail
      refine (CCF.out _ Y9.out).mono ?_
      rintro e w10 ⟨⟨AFa, cFa, rfl, hrFa, hcFa, hNFa⟩, hb⟩
      have X10 := Lib.hid (X9.out.below hb)
      have Y10 := Lib.hid (Y9.out.below hb)
      have K10 := Lib.hid (K9.out.later hb)
      have G10 := Lib.hid (G9.out.later hb)
      have B10 := Lib.hid (B9.out.trans (hb.mono B9.out.size))
      have Da10 := Lib.hid (Da9.out.below hb)
      clear X9 Y9 K9 G9 B9 Da9 hb
      have Fa10 := Lib.hid hrFa
      have NFa := Lib.hid hNFa
      clear hrFa hcFa hNFa
      clear e0 e1
      go_wp2_with fail
      refine (CMo.out _ _ _ Fa10.out).mono ?_
      rintro e w11 ⟨rfl, hb⟩
      have X11 := Lib.hid (X10.out.below hb)
      have Y11 := Lib.hid (Y10.out.below hb)
      have K11 := Lib.hid (K10.out.later hb)
      have G11 := Lib.hid (G10.out.later hb)
      have B11 := Lib.hid (B10.out.trans (hb.mono B10.out.size))
      have Da11 := Lib.hid (Da10.out.below hb)
      have Fa11 := Lib.hid (Fa10.out.below hb)
      clear X10 Y10 K10 G10 B10 Da10 Fa10 hb
      have X12 := Lib.hid (X11.out.below (below1 w11 (.cells #[.int .i64 x, .int .i64 y] 57)))
      have Y12 := Lib.hid (Y11.out.below (below1 w11 (.cells #[.int .i64 x, .int .i64 y] 57)))
      have K12 := Lib.hid (K11.out.alloc (.cells #[.int .i64 x, .int .i64 y] 57))
      have G12 := Lib.hid (G11.out.alloc (.cells #[.int .i64 x, .int .i64 y] 57))
      have B12 := Lib.hid (B11.out.alloc B11.out.size (.cells #[.int .i64 x, .int .i64 y] 57))
      have Da12 := Lib.hid (Da11.out.below (below1 w11 (.cells #[.int .i64 x, .int .i64 y] 57)))
      have Fa12 := Lib.hid (Fa11.out.below (below1 w11 (.cells #[.int .i64 x, .int .i64 y] 57)))
      clear X11 Y11 K11 G11 B11 Da11 Fa11
      have M12 := Lib.hid (Bk.new w11 57 #[.int .i64 x, .int .i64 y])
      obtain ⟨e0, e1⟩ := bkf2 G12.out
      go_wp2_with fail
      refine (CCF.out _ Y12.out).mono ?_
      rintro e w13 ⟨⟨AFb, cFb, rfl, hrFb, hcFb, hNFb⟩, hb⟩
      have X13 := Lib.hid (X12.out.below hb)
      have Y13 := Lib.hid (Y12.out.below hb)
      have K13 := Lib.hid (K12.out.later hb)
      have G13 := Lib.hid (G12.out.later hb)
      have B13 := Lib.hid (B12.out.trans (hb.mono B12.out.size))
      have Da13 := Lib.hid (Da12.out.below hb)
      have M13 := Lib.hid (M12.out.later hb)
      clear X12 Y12 K12 G12 B12 Da12 M12 hb
      have Fb13 := Lib.hid hrFb
      have NFb := Lib.hid hNFb
      clear hrFb hcFb hNFb
      clear e0 e1
      go_wp2_with fail
      refine (CCO.out _ _ _ _ NDa.out Da13.out).mono ?_
      rintro e w14 ⟨⟨AXc, cXc, rfl, hrXc⟩, hb⟩
      have X14 := Lib.hid (X13.out.below hb)
      have Y14 := Lib.hid (Y13.out.below hb)
      have K14 := Lib.hid (K13.out.later hb)
      have G14 := Lib.hid (G13.out.later hb)
      have B14 := Lib.hid (B13.out.trans (hb.mono B13.out.size))
      have Da14 := Lib.hid (Da13.out.below hb)
      have M14 := Lib.hid (M13.out.later hb)
      have Fb14 := Lib.hid (Fb13.out.below hb)
      clear X13 Y13 K13 G13 B13 Da13 M13 Fb13 hb
      have Xc14 := Lib.hid hrXc
      clear hrXc
      go_wp2_with fail
      refine (CFl.out _ _ _ _ _ Fb14.out Xc14.out).mono ?_
      rintro e w15 ⟨⟨AYa, cYa, rfl, hrYa⟩, hb⟩
      have X15 := Lib.hid (X14.out.below hb)
      have Y15 := Lib.hid (Y14.out.below hb)
      have K15 := Lib.hid (K14.out.later hb)
      have G15 := Lib.hid (G14.out.later hb)
      have B15 := Lib.hid (B14.out.trans (hb.mono B14.out.size))
      have M15 := Lib.hid (M14.out.later hb)
      have Fb15 := Lib.hid (Fb14.out.below hb)
      have Xc15 := Lib.hid (Xc14.out.below hb)
      clear X14 Y14 K14 G14 B14 M14 Fb14 Xc14 hb
      have Ya15 := Lib.hid hrYa
      clear hrYa
      obtain ⟨q0, q1, _, _⟩ := cell2 M15.out
      go_wp2_with fail
      refine (CIs.out _).mono ?_
      rintro e w16 ⟨rfl, hb⟩
      have X16 := Lib.hid (X15.out.below hb)
      have Y16 := Lib.hid (Y15.out.below hb)
      have K16 := Lib.hid (K15.out.later hb)
      have G16 := Lib.hid (G15.out.later hb)
      have B16 := Lib.hid (B15.out.trans (hb.mono B15.out.size))
      have M16 := Lib.hid (M15.out.later hb)
      have Ya16 := Lib.hid (Ya15.out.below hb)
      clear X15 Y15 K15 G15 B15 M15 Ya15 hb
      clear q0 q1
      obtain ⟨q0, q1, _, _⟩ := cell2 M16.out
      go_wp2_with fail
      refine (CWx.out _).mono ?_
      rintro e w' ⟨rfl, rfl⟩
      clear q0 q1
      go_wp2
      go_loopw [21] (fun i wr => ∃ k : Nat, k ≤ n ∧ i = .int .i64 k ∧ Hid (∃ j, wr = w16.drewN j)) (fun i _ => n - (intOf i).toNat)
      case atStart => exact ⟨0, Nat.zero_le _, rfl, 0, rfl⟩
      case round =>
        obtain ⟨k, hk, rfl, HJ⟩ := hrel
        obtain ⟨j, hj⟩ := HJ.out
        by_cases hlt : k < n
        · obtain ⟨ay, rfl, _, hc⟩ := (Ya16.out.drewN j).2 (by omega)
          have hck := hc k hlt
          have cM := cell2 (M16.out.drewN j)
          rw [← hj] at hck cM
          obtain ⟨q0, q1, _, _⟩ := cM
          have CY := Lib.hid (fun w => within_any (zs.getD k 0) (-C) C w)
          rw [HZB.out k hlt] at CY
          obtain ⟨yk, hyk⟩ : ∃ y, zs.getD k 0 = y := ⟨_, rfl⟩
          rw [hyk] at hck CY
          have hkI : (k : Int) < (n : Int) := by omega
          have HJ' := Lib.hid hj
          clear hc hyk hj HJ
          go_wp2
          go_quiet ((first | (go_at_call 36; exact quietP (CCe.out _)) | (go_at_call 18; exact quietP (CY.out _))))
          go_wp2
          go_roundw
          case rel => exact ⟨k + 1, by omega, by go_num, by rw [HJ'.out]; exact ⟨_, World.drewN_drewN _ _ _⟩⟩
          case measure => simp [intOf]; omega
        · obtain rfl : n = k := by omega
          have hkI : ¬ (n : Int) < (n : Int) := by omega
          clear hlt
          have X17 := Lib.hid (X16.out.drewN j)
          have Y17 := Lib.hid (Y16.out.drewN j)
          have K17 := Lib.hid (K16.out.drewN j)
          have G17 := Lib.hid (G16.out.drewN j)
          have B17 := Lib.hid (belowDrewN B16.out j)
          have M17 := Lib.hid (M16.out.drewN j)
          have Ya17 := Lib.hid (Ya16.out.drewN j)
          clear X16 Y16 K16 G16 B16 M16 Ya16
          rw [← hj] at X17 Y17 K17 G17 B17 M17 Ya17
          clear hj HJ
          obtain ⟨w17, hw17⟩ : ∃ W, W = wr := ⟨_, rfl⟩
          subst hw17
          have hsl := HSL.out
          obtain ⟨i0, hi, hz0, hz1, hz2⟩ := info_parts intInfo'
          have ho : Hid ((w17.alloc (.cells #[.int .i64 0] 3)).ownsRow w17.heap.size 3 1 (.slice (some ⟨w17.heap.size, 0, none⟩) 1 1) 1 [.int .i64 0]) := World.ownsRow_lit w17 #[.int .i64 0] 1 (Nat.le_refl _) (by unfold maxLen; omega) rfl
          have RN : Hid (RdI (w17.alloc (.cells #[.int .i64 0] 3)) (some az) q (xs.take q)) := Lib.hid (HTK.out _ (X17.out.below (below1 _ _)))
          have hsrc := Lib.hid (rd_news RN.out)
          have hone := Lib.hid (one_news (xs.take q))
          have hlen : Hid (((xs.take q).map (Value.int .i64)).length = q * 1) := Lib.hid (by rw [List.length_map, HTL.out]; omega)
          obtain ⟨news, hnews⟩ : ∃ news, (xs.take q).map (Value.int .i64) = news := ⟨_, rfl⟩
          rw [hnews] at hlen hsrc hone
          have HNW := Lib.hid hnews
          clear hnews
          go_wp2_with (at_builtin; refine wpList_append_own _ rfl (.tmp 192) (.tmp 197) 29 rfl w17.heap.size 3 i0 _ 1 8 Try.underlying29 hi hz0 hz1 hz2 rfl (by decide) _ _ _ rfl ho.out az q c news rfl hlen.out hsrc.out hone.out (by unfold maxLen; omega) (by omega) (by simp) ?_)
          intro v w18 ho2 hg2 _
          have hb : Below w17.heap.size w17 w18 := ((Below.refl _ _).alloc (Nat.le_refl _) _).grown hg2 (by simp) (fun g hg => (ho.out.lt g hg).1)
          have ho3 : w18.ownsRow w17.heap.size 3 1 v n ((0 :: xs.take q).map (Value.int .i64)) := by rw [HQ.out.1, Nat.add_comm q 1]; rw [← HNW.out] at ho2; exact ho2
          obtain ⟨ALa, cLa, rfl, _, hrLa, hNLa⟩ := rd_ownN ho3
          clear ho2 ho3 hg2 hsl ho RN hsrc hone hlen HNW
          have X18 := Lib.hid (X17.out.below hb)
          have Y18 := Lib.hid (Y17.out.below hb)
          have K18 := Lib.hid (K17.out.later hb)
          have G18 := Lib.hid (G17.out.later hb)
          have B18 := Lib.hid (B17.out.trans (hb.mono B17.out.size))
          have M18 := Lib.hid (M17.out.later hb)
          have Ya18 := Lib.hid (Ya17.out.below hb)
          clear X17 Y17 K17 G17 B17 M17 Ya17 hb
          have La18 := Lib.hid hrLa
          have NLa := Lib.hid hNLa
          clear hrLa hNLa
          obtain ⟨e0, e1⟩ := bkf2 G18.out
          go_wp2_with fail
          refine (CCF.out _ Y18.out).mono ?_
          rintro e w19 ⟨⟨AFc, cFc, rfl, hrFc, hcFc, hNFc⟩, hb⟩
          have X19 := Lib.hid (X18.out.below hb)
          have Y19 := Lib.hid (Y18.out.below hb)
          have K19 := Lib.hid (K18.out.later hb)
          have G19 := Lib.hid (G18.out.later hb)
          have B19 := Lib.hid (B18.out.trans (hb.mono B18.out.size))
          have M19 := Lib.hid (M18.out.later hb)
          have Ya19 := Lib.hid (Ya18.out.below hb)
          have La19 := Lib.hid (La18.out.below hb)
          clear X18 Y18 K18 G18 B18 M18 Ya18 La18 hb
          have Fc19 := Lib.hid hrFc
          have NFc := Lib.hid hNFc
          clear hrFc hcFc hNFc
          clear e0 e1
          go_wp2_with fail
          refine (CCO.out _ _ _ _ NLa.out La19.out).mono ?_
          rintro e w20 ⟨⟨ALb, cLb, rfl, hrLb⟩, hb⟩
          have X20 := Lib.hid (X19.out.below hb)
          have Y20 := Lib.hid (Y19.out.below hb)
          have K20 := Lib.hid (K19.out.later hb)
          have G20 := Lib.hid (G19.out.later hb)
          have B20 := Lib.hid (B19.out.trans (hb.mono B19.out.size))
          have M20 := Lib.hid (M19.out.later hb)
          have Ya20 := Lib.hid (Ya19.out.below hb)
          have La20 := Lib.hid (La19.out.below hb)
          have Fc20 := Lib.hid (Fc19.out.below hb)
          clear X19 Y19 K19 G19 B19 M19 Ya19 La19 Fc19 hb
          have Lb20 := Lib.hid hrLb
          clear hrLb
          go_wp2_with fail
          refine (CFw.out _ _ _ _ _ Fc20.out Lb20.out).mono ?_
          rintro e w21 ⟨⟨AWa, cWa, rfl, hrWa⟩, hb⟩
          have X21 := Lib.hid (X20.out.below hb)
          have Y21 := Lib.hid (Y20.out.below hb)
          have K21 := Lib.hid (K20.out.later hb)
          have G21 := Lib.hid (G20.out.later hb)
          have B21 := Lib.hid (B20.out.trans (hb.mono B20.out.size))
          have M21 := Lib.hid (M20.out.later hb)
          have Ya21 := Lib.hid (Ya20.out.below hb)
          have Fc21 := Lib.hid (Fc20.out.below hb)
          have Lb21 := Lib.hid (Lb20.out.below hb)
          clear X20 Y20 K20 G20 B20 M20 Ya20 Fc20 Lb20 hb
          have Wa21 := Lib.hid hrWa
          clear hrWa
          obtain ⟨aw, rfl, _, hcw⟩ := Wa21.out.2 (by omega)
          have hw0 := hcw 0 hn0N
          rw [HW0.out] at hw0
          clear hcw
          have hw0b := hw0
          rw [show aw.add 0 = aw from by unfold Addr.add; split <;> simp_all] at hw0b
          go_wp2
          clear hw0 hw0b
          go_loopw [25] (fun i wr => ∃ k : Nat, k ≤ n ∧ 1 ≤ k ∧ i = .int .i64 k ∧ Hid (∃ j, wr = w21.drewN j)) (fun i _ => n - (intOf i).toNat)
          case atStart => exact ⟨1, by omega, Nat.le_refl _, rfl, 0, rfl⟩
          case round =>
            obtain ⟨k, hk, hk1, rfl, HJ⟩ := hrel
            obtain ⟨j, hj⟩ := HJ.out
            by_cases hlt : k < n
            · obtain ⟨i, hi⟩ : ∃ i, k = i + 1 := ⟨k - 1, by omega⟩
              have hwz := HWZ.out i (by omega)
              rw [← hi] at hwz
              obtain ⟨ay, rfl, _, hcy⟩ := (Ya21.out.drewN j).2 (by omega)
              have hcz := hcy i (by omega)
              obtain ⟨aw2, haw, _, hcw⟩ := (Wa21.out.drewN j).2 (by omega)
              obtain rfl := Option.some.inj haw
              have hck := hcw k hlt
              rw [← hj] at hcz hck
              rw [hwz] at hck
              obtain ⟨v, hv⟩ : ∃ v, zs.getD i 0 = v := ⟨_, rfl⟩
              rw [hv] at hck hcz
              have w4 : IntKind.i64.wrap ((k : Int) - 1) = (i : Int) := by rw [show (k : Int) - 1 = (i : Int) by omega]; exact IntWalk.i64_in _ (by omega)
              have hiI : (i : Int) < (n : Int) := by omega
              have hiN : i < n := by omega
              have hkI : (k : Int) < (n : Int) := by omega
              have HJ' := Lib.hid hj
              clear hcy hcw hwz hv hi hj HJ haw
              go_wp2
              go_quiet (fail)
              go_wp2
              go_roundw
              case rel => exact ⟨k + 1, by omega, by omega, by go_num, by rw [HJ'.out]; exact ⟨_, World.drewN_drewN _ _ _⟩⟩
              case measure => simp [intOf]; omega
            · obtain rfl : n = k := by omega
              have hkI : ¬ (n : Int) < (n : Int) := by omega
              have BB := belowDrewN B21.out j
              rw [← hj] at BB
              clear hlt hj HJ
              go_wp2
              go_ret
              exact ⟨by simp, BB⟩
set_option maxRecDepth 100000 in
set_option maxHeartbeats 8000000 in
theorem tcw_ok (ax az : Addr) (n c : Nat) (xs : List Int) (f s d : Int) (B : Option Addr) (m e : Nat) (b : Int) (cs : List Int) (w : World) (haz : cutA (some ax) 0 c = some az) (hr : RdI w (some ax) n xs) (hx : RdI w B m cs) (hnc : n ≤ c) (hn : n ≤ 20) (hm : m ≤ 8) (hB : B = none → m = 0 ∧ e = 0) (hxs : ∀ x ∈ xs, -32767 ≤ x ∧ x ≤ 32767)
    (q l : Nat) (hq : n = q + 1) (hl : l = 8 * q + 1) (us ys zs ws : List Int) (hyl : ys.length = n) (mo : Int) (hmo : mxB xs 0 = mo) (hmb : 0 ≤ mo ∧ mo ≤ 32767) (x y C : Int) (hCb : 0 ≤ C ∧ C ≤ 1000000000000)
    (CSg : ∀ W, RdI W (some ax) n xs → Calls Try.prog 25 #[.slice (some ax) n c] W fun e w' => e = .returned (.int .i64 0) ∧ W = w')
    (CQ : ∀ W, Calls Try.prog 28 #[.agg #[.int .i64 f, .int .i64 s, .int .i64 d]] W fun e w' => e = .returned (.int .i64 0) ∧ Below W.heap.size W w')
    (CFe : ∀ W, RdI W B m cs → Calls Try.prog 29 #[.agg #[.slice B m e, .int .i64 b]] W fun e w' => e = .returned (.int .i64 0) ∧ Below W.heap.size W w')
    (CR1 : ∀ B' d' W, RdI W B' n xs → Calls Try.prog 22 #[.agg #[.int .i64 0, .int .i64 3, .int .i64 1, .int .i64 8, .int .i64 0, .slice none 0 0], .slice B' n d'] W (RdResN W 0 l us))
    (CR2 : ∀ B' d' W, RdI W B' l us → Calls Try.prog 22 #[.agg #[.int .i64 0, .int .i64 3, .int .i64 8, .int .i64 1, .int .i64 0, .slice none 0 0], .slice B' l d'] W (RdResN W 0 n xs))
    (CEx : ∀ B' d' W, RdI W B' n xs → Calls Try.prog 30 #[.agg #[.int .i64 f, .int .i64 s, .int .i64 d], .slice B' n d'] W (RdResN W 0 n ys))
    (CRy : ∀ B' d' W, RdI W B' n ys → Calls Try.prog 31 #[.agg #[.int .i64 f, .int .i64 s, .int .i64 d], .slice B' n d'] W (RdResN W 0 n xs))
    (CMo : ∀ A' c' W, RdI W A' m cs → Calls Try.prog 32 #[.agg #[.slice A' m c', .int .i64 b], .int .i64 mo] W fun e w' => e = .returned (.tuple #[.agg #[.int .i64 x, .int .i64 y], .int .i64 0]) ∧ Below W.heap.size W w')
    (CFl : ∀ A' c' B' d' W, RdI W A' m cs → RdI W B' n xs → Calls Try.prog 34 #[.agg #[.slice A' m c', .int .i64 b], .slice B' n d'] W (RdRes W 0 n zs))
    (CIs : ∀ W, Calls Try.prog 35 #[.agg #[.int .i64 x, .int .i64 y]] W fun e w' => e = .returned (.bool true) ∧ Below W.heap.size W w')
    (CWx : ∀ W, Calls Try.prog 18 #[.int .i64 x, .int .i64 0, .int .i64 1000000000] W fun e w' => e = .returned (.bool true) ∧ W = w')
    (CCe : ∀ W, Calls Try.prog 36 #[.int .i64 x, .int .i64 y] W fun e w' => e = .returned (.int .i64 C) ∧ W = w')
    (CFw : ∀ A' c' B' d' W, RdI W A' m cs → RdI W B' n (0 :: xs.take q) → Calls Try.prog 34 #[.agg #[.slice A' m c', .int .i64 b], .slice B' n d'] W (RdRes W 0 n ws))
    (HZB : ∀ k, k < n → fromB (-C) C [zs.getD k 0] = true)
    (HW0 : ws.getD 0 0 = 0)
    (HWZ : ∀ i, i + 1 < n → ws.getD (i + 1) 0 = zs.getD i 0)
    : Calls Try.prog 6 #[.slice (some ax) n c, .agg #[.int .i64 f, .int .i64 s, .int .i64 d], .agg #[.slice B m e, .int .i64 b]] w fun e w' => e = .returned (.bool true) ∧ Below w.heap.size w w' := by
  have CCF : Hid (∀ W, RdI W B m cs → Calls Try.prog 33 #[.agg #[.slice B m e, .int .i64 b]] W (CpF W m b cs)) := fun W h => copyFilter_any B m e b cs W hB h (by omega)
  have CCO : Hid (∀ B' d' xs W, (B' = none → n = 0 ∧ d' = 0) → RdI W B' n xs → Calls Try.prog 23 #[.slice B' n d'] W (RdOne W n xs)) := fun B' d' xs W hN h => (copyInts_any B' n d' xs W hN h (by omega)).mono fun e w' ho => ho.rd h.1
  have CCY : Hid (∀ B' d' xs W, (B' = none → l = 0 ∧ d' = 0) → RdI W B' l xs → Calls Try.prog 23 #[.slice B' l d'] W (RdOne W l xs)) := fun B' d' xs W hN h => (copyInts_any B' l d' xs W hN h (by omega)).mono fun e w' ho => ho.rd h.1
  have CP : Hid (∀ B cb xs W, (B = none → n = 0 ∧ cb = 0) → RdI W B n xs → Calls Try.prog 23 #[.slice B n cb] W (OwnS W xs)) := fun B cb xs W hB h => copyInts_any B n cb xs W hB h (by omega)
  have CCL : Hid (xs.length = n) := hr.1
  have CYL : Hid (ys.length = n) := hyl
  clear hyl
  have CSg := Lib.hid CSg
  have CQ := Lib.hid CQ
  have CFe := Lib.hid CFe
  have CR1 := Lib.hid CR1
  have CR2 := Lib.hid CR2
  have CEx := Lib.hid CEx
  have CRy := Lib.hid CRy
  have CMo := Lib.hid CMo
  have CFl := Lib.hid CFl
  have CIs := Lib.hid CIs
  have CWx := Lib.hid CWx
  have CCe := Lib.hid CCe
  have CFw := Lib.hid CFw
  have HZB := Lib.hid HZB
  have HW0 := Lib.hid HW0
  have HWZ := Lib.hid HWZ
  have HXS := Lib.hid (fun k => getD_bd (xs := xs) (A := 32767) (by omega) hxs k)
  have HMO := Lib.hid hmo
  have NA : Hid ((some ax : Option Addr) = none → n = 0 ∧ c = 0) := Lib.hid (fun h => by cases h)
  have HQ := Lib.hid (And.intro hq hl)
  have hsl : ∀ W, (Instr.slice 29 (.slice (some ax) n c) none (some (.int .i64 (q : Int))) none).run Try.prog W = .ok (.slice (some az) q c) W := fun W => by rw [← haz]; exact cutTo_run (some ax) n c q q rfl (by omega) W
  have HSL := Lib.hid hsl
  have HTK : Hid (∀ W, RdI W (some ax) n xs → RdI W (some az) q (xs.take q)) := Lib.hid (fun W h => by have := rd_take h c q (by omega) hnc; rwa [haz] at this)
  have HTL : Hid ((xs.take q).length = q) := Lib.hid (by rw [List.length_take, hr.1]; omega)
  have wC : IntKind.i64.wrap (-C) = -C := IntWalk.i64_in _ (by omega)
  have hn0 : (0 : Int) < (n : Int) := by omega
  have hn0N : 0 < n := by omega
  have hn1 : ((n : Int) == 0) = false := by simp; omega
  have w1 : IntKind.i64.wrap ((n : Int) - 1) = (q : Int) := by rw [show (n : Int) - 1 = (q : Int) by omega]; exact IntWalk.i64_in _ (by omega)
  have w2 : IntKind.i64.wrap (8 * (q : Int)) = 8 * (q : Int) := IntWalk.i64_in _ (by omega)
  have w3 : IntKind.i64.wrap (8 * (q : Int) + 1) = (l : Int) := by rw [show 8 * (q : Int) + 1 = (l : Int) by omega]; exact IntWalk.i64_in _ (by omega)
  have h20 : ¬ (20 : Int) < (n : Int) := by omega
  have h8I : ¬ (8 : Int) < (m : Int) := by omega
  have X0 : Hid (RdI ((w.alloc (.cells #[.int .i64 f, .int .i64 s, .int .i64 d] 50)).alloc (.cells #[.slice B m e, .int .i64 b] 52)) (some ax) n xs) := Lib.hid (hr.below (below2 _ _ _))
  have Y0 : Hid (RdI ((w.alloc (.cells #[.int .i64 f, .int .i64 s, .int .i64 d] 50)).alloc (.cells #[.slice B m e, .int .i64 b] 52)) B m cs) := Lib.hid (hx.below (below2 _ _ _))
  have K0 : Hid (Bk ((w.alloc (.cells #[.int .i64 f, .int .i64 s, .int .i64 d] 50)).alloc (.cells #[.slice B m e, .int .i64 b] 52)) w.heap.size 50 #[.int .i64 f, .int .i64 s, .int .i64 d]) := Lib.hid ((Bk.new _ _ _).alloc _)
  have G0 : Hid (Bk ((w.alloc (.cells #[.int .i64 f, .int .i64 s, .int .i64 d] 50)).alloc (.cells #[.slice B m e, .int .i64 b] 52)) (w.heap.size + 1) 52 #[.slice B m e, .int .i64 b]) := Lib.hid (by simpa using Bk.new (w.alloc (.cells #[.int .i64 f, .int .i64 s, .int .i64 d] 50)) 52 #[.slice B m e, .int .i64 b])
  have B0 : Hid (Below w.heap.size w ((w.alloc (.cells #[.int .i64 f, .int .i64 s, .int .i64 d] 50)).alloc (.cells #[.slice B m e, .int .i64 b] 52))) := Lib.hid (below2 _ _ _)
  have HNN := Lib.hid hnc
  have hl4 : l ≤ 400 := by omega
  have hq1 : q + 1 ≤ 20 := by omega
  clear hr hx hB hxs hmo hq hl hsl haz hnc
  go_enter Try.func6, Try.ntmps6
  go_wp2_with fail
  refine (rAwake_any _).mono ?_
  rintro e w1 ⟨rfl, hb⟩
  have X1 := Lib.hid (X0.out.below hb)
  have Y1 := Lib.hid (Y0.out.below hb)
  have K1 := Lib.hid (K0.out.later hb)
  have G1 := Lib.hid (G0.out.later hb)
  have B1 := Lib.hid (B0.out.trans (hb.mono B0.out.size))
  clear X0 Y0 K0 G0 B0 hb
  go_wp2_with fail
  refine (CSg.out _ X1.out).mono ?_
  rintro e w' ⟨rfl, rfl⟩
  obtain ⟨d0, d1, d2⟩ := bk3 K1.out
  go_wp2_with fail
  refine (CQ.out _).mono ?_
  rintro e w2 ⟨rfl, hb⟩
  have X2 := Lib.hid (X1.out.below hb)
  have Y2 := Lib.hid (Y1.out.below hb)
  have K2 := Lib.hid (K1.out.later hb)
  have G2 := Lib.hid (G1.out.later hb)
  have B2 := Lib.hid (B1.out.trans (hb.mono B1.out.size))
  clear X1 Y1 K1 G1 B1 hb
  clear d0 d1 d2
  obtain ⟨e0, e1⟩ := bkf2 G2.out
  go_wp2_with fail
  refine (CFe.out _ Y2.out).mono ?_
  rintro e w3 ⟨rfl, hb⟩
  have X3 := Lib.hid (X2.out.below hb)
  have Y3 := Lib.hid (Y2.out.below hb)
  have K3 := Lib.hid (K2.out.later hb)
  have G3 := Lib.hid (G2.out.later hb)
  have B3 := Lib.hid (B2.out.trans (hb.mono B2.out.size))
  clear X2 Y2 K2 G2 B2 hb
  clear e0 e1
  go_wp2_with fail
  refine (CCO.out _ _ _ _ NA.out X3.out).mono ?_
  rintro e w4 ⟨⟨AXa, cXa, rfl, hrXa⟩, hb⟩
  have X4 := Lib.hid (X3.out.below hb)
  have Y4 := Lib.hid (Y3.out.below hb)
  have K4 := Lib.hid (K3.out.later hb)
  have G4 := Lib.hid (G3.out.later hb)
  have B4 := Lib.hid (B3.out.trans (hb.mono B3.out.size))
  clear X3 Y3 K3 G3 B3 hb
  have Xa4 := Lib.hid hrXa
  clear hrXa
  go_wp2_with fail
  refine (CR1.out _ _ _ Xa4.out).mono ?_
  rintro e w5 ⟨⟨AUa, cUa, rfl, hrUa, _, hNUa⟩, hb⟩
  have X5 := Lib.hid (X4.out.below hb)
  have Y5 := Lib.hid (Y4.out.below hb)
  have K5 := Lib.hid (K4.out.later hb)
  have G5 := Lib.hid (G4.out.later hb)
  have B5 := Lib.hid (B4.out.trans (hb.mono B4.out.size))
  have Xa5 := Lib.hid (Xa4.out.below hb)
  clear X4 Y4 K4 G4 B4 Xa4 hb
  have Ua5 := Lib.hid hrUa
  have NUa := Lib.hid hNUa
  clear hrUa hNUa
  go_wp2_with fail
  refine (CCY.out _ _ _ _ NUa.out Ua5.out).mono ?_
  rintro e w6 ⟨⟨AUb, cUb, rfl, hrUb⟩, hb⟩
  have X6 := Lib.hid (X5.out.below hb)
  have Y6 := Lib.hid (Y5.out.below hb)
  have K6 := Lib.hid (K5.out.later hb)
  have G6 := Lib.hid (G5.out.later hb)
  have B6 := Lib.hid (B5.out.trans (hb.mono B5.out.size))
  have Ua6 := Lib.hid (Ua5.out.below hb)
  clear X5 Y5 K5 G5 B5 Ua5 hb
  have Ub6 := Lib.hid hrUb
  clear hrUb
  go_wp2_with fail
  refine (CR2.out _ _ _ Ub6.out).mono ?_
  rintro e w7 ⟨⟨ADa, cDa, rfl, hrDa, _, hNDa⟩, hb⟩
  have X7 := Lib.hid (X6.out.below hb)
  have Y7 := Lib.hid (Y6.out.below hb)
  have K7 := Lib.hid (K6.out.later hb)
  have G7 := Lib.hid (G6.out.later hb)
  have B7 := Lib.hid (B6.out.trans (hb.mono B6.out.size))
  have Ub7 := Lib.hid (Ub6.out.below hb)
  clear X6 Y6 K6 G6 B6 Ub6 hb
  have Da7 := Lib.hid hrDa
  have NDa := Lib.hid hNDa
  clear hrDa hNDa
  go_wp2_with fail
  refine (ints_same _ _ _ _ _ _ _ Da7.out X7.out (by omega)).mono ?_
  rintro e w' ⟨rfl, kk, rfl⟩
  have X8 := Lib.hid (X7.out.drewN kk)
  have Y8 := Lib.hid (Y7.out.drewN kk)
  have K8 := Lib.hid (K7.out.drewN kk)
  have G8 := Lib.hid (G7.out.drewN kk)
  have B8 := Lib.hid (belowDrewN B7.out kk)
  have Da8 := Lib.hid (Da7.out.drewN kk)
  clear X7 Y7 K7 G7 B7 Da7
  obtain ⟨w8, hw8⟩ : ∃ W, w7.drewN kk = W := ⟨_, rfl⟩
  rw [hw8] at X8 Y8 K8 G8 B8 Da8 ⊢
  clear hw8
  obtain ⟨d0, d1, d2⟩ := bk3 K8.out
  go_wp2
  go_region_held3 (fun w' : World => w'.cell? ⟨w.heap.size, 0, none⟩ = some (.int .i64 f) ∧ w'.cell? ⟨w.heap.size, 1, none⟩ = some (.int .i64 s) ∧ w'.cell? ⟨w.heap.size, 2, none⟩ = some (.int .i64 d)) ((go_split_ands; simp [go_sem, *])) (first
    | (go_at_call 23; refine (CP.out _ _ xs _ NDa.out Da8.out.drew).mono ?_; rintro e wq ⟨⟨vq, rfl, hrowq⟩, hbq⟩; obtain ⟨Aq, cq, rfl, _, hrq⟩ := rd_of_own hrowq; have hxl := CCL.out; rw [hxl] at hrq ⊢; have Kq := (K8.out.drew).later hbq; obtain ⟨d0, d1, d2⟩ := bk3 Kq)
    | (go_at_call 30; refine (CEx.out Aq cq _ hrq).mono ?_; rintro e w9 ⟨⟨APy, cPy, rfl, hrPy, hcPy, hNPy⟩, hbp⟩; have Kp := Kq.later hbp; obtain ⟨d0, d1, d2⟩ := bk3 Kp))
  have hb : Below w8.drew.heap.size w8.drew w9 := hbq.trans (hbp.mono hbq.size)
  clear d0 d1 d2 hbq hbp Kq Kp hrq hrowq hxl
  have X9 := Lib.hid (X8.out.drew.below hb)
  have Y9 := Lib.hid (Y8.out.drew.below hb)
  have K9 := Lib.hid (K8.out.drew.later hb)
  have G9 := Lib.hid (G8.out.drew.later hb)
  have B9 := Lib.hid (B8.out.drew.trans (hb.mono B8.out.drew.size))
  have Da9 := Lib.hid (Da8.out.drew.below hb)
  clear hb X8 Y8 K8 G8 B8 Da8
  have Py9 := Lib.hid hrPy
  have NPy := Lib.hid hNPy
  clear hrPy hNPy
  obtain ⟨d0, d1, d2⟩ := bk3 K9.out
  go_wp2
  go_region_held3 (fun w' : World => w'.cell? ⟨w.heap.size, 0, none⟩ = some (.int .i64 f) ∧ w'.cell? ⟨w.heap.size, 1, none⟩ = some (.int .i64 s) ∧ w'.cell? ⟨w.heap.size, 2, none⟩ = some (.int .i64 d)) ((go_split_ands; simp [go_sem, *])) (first
    | (go_at_call 23; refine (CP.out _ _ ys _ NPy.out Py9.out.drew).mono ?_; rintro e wq ⟨⟨vq, rfl, hrowq⟩, hbq⟩; obtain ⟨Aq, cq, rfl, _, hrq⟩ := rd_of_own hrowq; have hxl := CYL.out; rw [hxl] at hrq ⊢; have Kq := (K9.out.drew).later hbq; obtain ⟨d0, d1, d2⟩ := bk3 Kq)
    | (go_at_call 31; refine (CRy.out Aq cq _ hrq).mono ?_; rintro e w10 ⟨⟨APb, cPb, rfl, hrPb, hcPb, hNPb⟩, hbp⟩; have Kp := Kq.later hbp; obtain ⟨d0, d1, d2⟩ := bk3 Kp))
  have hb : Below w9.drew.heap.size w9.drew w10 := hbq.trans (hbp.mono hbq.size)
  clear d0 d1 d2 hbq hbp Kq Kp hrq hrowq hxl
  have X10 := Lib.hid (X9.out.drew.below hb)
  have Y10 := Lib.hid (Y9.out.drew.below hb)
  have K10 := Lib.hid (K9.out.drew.later hb)
  have G10 := Lib.hid (G9.out.drew.later hb)
  have B10 := Lib.hid (B9.out.drew.trans (hb.mono B9.out.drew.size))
  have Da10 := Lib.hid (Da9.out.drew.below hb)
  have Py10 := Lib.hid (Py9.out.drew.below hb)
  clear hb X9 Y9 K9 G9 B9 Da9 Py9
  have Pb10 := Lib.hid hrPb
  have NPb := Lib.hid hNPb
  clear hrPb hNPb
  go_wp2_with fail
  refine (ints_same _ _ _ _ _ _ _ Pb10.out X10.out (by omega)).mono ?_
  rintro e w' ⟨rfl, kk, rfl⟩
  have X11 := Lib.hid (X10.out.drewN kk)
  have Y11 := Lib.hid (Y10.out.drewN kk)
  have K11 := Lib.hid (K10.out.drewN kk)
  have G11 := Lib.hid (G10.out.drewN kk)
  have B11 := Lib.hid (belowDrewN B10.out kk)
  have Da11 := Lib.hid (Da10.out.drewN kk)
  have Py11 := Lib.hid (Py10.out.drewN kk)
  have Pb11 := Lib.hid (Pb10.out.drewN kk)
  clear X10 Y10 K10 G10 B10 Da10 Py10 Pb10
  obtain ⟨w11, hw11⟩ : ∃ W, w10.drewN kk = W := ⟨_, rfl⟩
  rw [hw11] at X11 Y11 K11 G11 B11 Da11 Py11 Pb11 ⊢
  clear hw11
  go_wp2
  go_loop [15, 16] (fun u i => ∃ (k : Nat) (z : Int), k ≤ n ∧ i = .int .i64 k ∧ u = .int .i64 z ∧ (0 ≤ z ∧ z ≤ 32767) ∧ Hid (mxB xs 0 = mxB (xs.drop k) z)) (fun _ i => n - (intOf i).toNat)
  case atStart => exact ⟨0, 0, Nat.zero_le _, rfl, rfl, by omega, rfl⟩
  case round =>
    obtain ⟨k, z, hk, rfl, rfl, hz, HI⟩ := hrel
    by_cases hlt : k < n
    · obtain ⟨ad, had, hlt2, hc⟩ := X11.out.2 (by omega)
      obtain rfl := Option.some.inj had
      have hck := hc k hlt
      have hxb := HXS.out k
      have hs := mxB_step xs k z (by have := CCL.out; omega)
      obtain ⟨p, hx⟩ : ∃ x, xs.getD k 0 = x := ⟨_, rfl⟩
      rw [hx] at hck hxb hs
      have ha := absF_bd p 32767 hxb
      have CZ := Lib.hid (fun w => bsize_any p w (by omega))
      obtain ⟨y2, hy⟩ : ∃ y, absF p = y := ⟨_, rfl⟩
      rw [hy] at ha CZ hs
      have hkI : (k : Int) < (n : Int) := by omega
      clear hc hx hy had
      by_cases hm : z < y2
      · rw [if_pos hm] at hs
        have HS := Lib.hid hs
        clear hs
        go_wp2_with fail
        refine (CZ.out _).mono ?_
        rintro e w' ⟨rfl, rfl⟩
        go_wp2
        go_round
        case rel => exact ⟨k + 1, y2, by omega, by go_num, by simp [hm], by omega, by show _ = _; rw [HI.out, HS.out]⟩
        case measure => simp [intOf]; omega
      · rw [if_neg hm] at hs
        have HS := Lib.hid hs
        clear hs
        go_wp2_with fail
        refine (CZ.out _).mono ?_
        rintro e w' ⟨rfl, rfl⟩
        go_wp2
        go_round
        case rel => exact ⟨k + 1, z, by omega, by go_num, by simp [hm], by omega, by show _ = _; rw [HI.out, HS.out]⟩
        case measure => simp [intOf]; omega
    · obtain rfl : n = k := by omega
      have hzm : mo = z := by
        have := HI.out
        rw [List.drop_eq_nil_of_le (by have := CCL.out; omega), HMO.out] at this
        exact this
      subst hzm
      have hkI : ¬ (n : Int) < (n : Int) := by omega
      clear HI hlt
      obtain ⟨e0, e1⟩ := bkf2 G11.out
      go_wp2_with fail
      refine (CCF.out _ Y11.out).mono ?_
      rintro e w12 ⟨⟨AFa, cFa, rfl, hrFa, hcFa, hNFa⟩, hb⟩
      have X12 := Lib.hid (X11.out.below hb)
      have Y12 := Lib.hid (Y11.out.below hb)
      have K12 := Lib.hid (K11.out.later hb)
      have G12 := Lib.hid (G11.out.later hb)
      have B12 := Lib.hid (B11.out.trans (hb.mono B11.out.size))
      have Da12 := Lib.hid (Da11.out.below hb)
      clear X11 Y11 K11 G11 B11 Da11 hb
      have Fa12 := Lib.hid hrFa
      have NFa := Lib.hid hNFa
      clear hrFa hcFa hNFa
      clear e0 e1
      go_wp2_with fail
      refine (CMo.out _ _ _ Fa12.out).mono ?_
      rintro e w13 ⟨rfl, hb⟩
      have X13 := Lib.hid (X12.out.below hb)
      have Y13 := Lib.hid (Y12.out.below hb)
      have K13 := Lib.hid (K12.out.later hb)
      have G13 := Lib.hid (G12.out.later hb)
      have B13 := Lib.hid (B12.out.trans (hb.mono B12.out.size))
      have Da13 := Lib.hid (Da12.out.below hb)
      have Fa13 := Lib.hid (Fa12.out.below hb)
      clear X12 Y12 K12 G12 B12 Da12 Fa12 hb
      have X14 := Lib.hid (X13.out.below (below1 w13 (.cells #[.int .i64 x, .int .i64 y] 57)))
      have Y14 := Lib.hid (Y13.out.below (below1 w13 (.cells #[.int .i64 x, .int .i64 y] 57)))
      have K14 := Lib.hid (K13.out.alloc (.cells #[.int .i64 x, .int .i64 y] 57))
      have G14 := Lib.hid (G13.out.alloc (.cells #[.int .i64 x, .int .i64 y] 57))
      have B14 := Lib.hid (B13.out.alloc B13.out.size (.cells #[.int .i64 x, .int .i64 y] 57))
      have Da14 := Lib.hid (Da13.out.below (below1 w13 (.cells #[.int .i64 x, .int .i64 y] 57)))
      have Fa14 := Lib.hid (Fa13.out.below (below1 w13 (.cells #[.int .i64 x, .int .i64 y] 57)))
      clear X13 Y13 K13 G13 B13 Da13 Fa13
      have M14 := Lib.hid (Bk.new w13 57 #[.int .i64 x, .int .i64 y])
      obtain ⟨e0, e1⟩ := bkf2 G14.out
      go_wp2_with fail
      refine (CCF.out _ Y14.out).mono ?_
      rintro e w15 ⟨⟨AFb, cFb, rfl, hrFb, hcFb, hNFb⟩, hb⟩
      have X15 := Lib.hid (X14.out.below hb)
      have Y15 := Lib.hid (Y14.out.below hb)
      have K15 := Lib.hid (K14.out.later hb)
      have G15 := Lib.hid (G14.out.later hb)
      have B15 := Lib.hid (B14.out.trans (hb.mono B14.out.size))
      have Da15 := Lib.hid (Da14.out.below hb)
      have M15 := Lib.hid (M14.out.later hb)
      clear X14 Y14 K14 G14 B14 Da14 M14 hb
      have Fb15 := Lib.hid hrFb
      have NFb := Lib.hid hNFb
      clear hrFb hcFb hNFb
      clear e0 e1
      go_wp2_with fail
      refine (CCO.out _ _ _ _ NDa.out Da15.out).mono ?_
      rintro e w16 ⟨⟨AXc, cXc, rfl, hrXc⟩, hb⟩
      have X16 := Lib.hid (X15.out.below hb)
      have Y16 := Lib.hid (Y15.out.below hb)
      have K16 := Lib.hid (K15.out.later hb)
      have G16 := Lib.hid (G15.out.later hb)
      have B16 := Lib.hid (B15.out.trans (hb.mono B15.out.size))
      have Da16 := Lib.hid (Da15.out.below hb)
      have M16 := Lib.hid (M15.out.later hb)
      have Fb16 := Lib.hid (Fb15.out.below hb)
      clear X15 Y15 K15 G15 B15 Da15 M15 Fb15 hb
      have Xc16 := Lib.hid hrXc
      clear hrXc
      go_wp2_with fail
      refine (CFl.out _ _ _ _ _ Fb16.out Xc16.out).mono ?_
      rintro e w17 ⟨⟨AYa, cYa, rfl, hrYa⟩, hb⟩
      have X17 := Lib.hid (X16.out.below hb)
      have Y17 := Lib.hid (Y16.out.below hb)
      have K17 := Lib.hid (K16.out.later hb)
      have G17 := Lib.hid (G16.out.later hb)
      have B17 := Lib.hid (B16.out.trans (hb.mono B16.out.size))
      have M17 := Lib.hid (M16.out.later hb)
      have Fb17 := Lib.hid (Fb16.out.below hb)
      have Xc17 := Lib.hid (Xc16.out.below hb)
      clear X16 Y16 K16 G16 B16 M16 Fb16 Xc16 hb
      have Ya17 := Lib.hid hrYa
      clear hrYa
      obtain ⟨q0, q1, _, _⟩ := cell2 M17.out
      go_wp2_with fail
      refine (CIs.out _).mono ?_
      rintro e w18 ⟨rfl, hb⟩
      have X18 := Lib.hid (X17.out.below hb)
      have Y18 := Lib.hid (Y17.out.below hb)
      have K18 := Lib.hid (K17.out.later hb)
      have G18 := Lib.hid (G17.out.later hb)
      have B18 := Lib.hid (B17.out.trans (hb.mono B17.out.size))
      have M18 := Lib.hid (M17.out.later hb)
      have Ya18 := Lib.hid (Ya17.out.below hb)
      clear X17 Y17 K17 G17 B17 M17 Ya17 hb
      clear q0 q1
      obtain ⟨q0, q1, _, _⟩ := cell2 M18.out
      go_wp2_with fail
      refine (CWx.out _).mono ?_
      rintro e w' ⟨rfl, rfl⟩
      clear q0 q1
      go_wp2
      go_loopw [21] (fun i wr => ∃ k : Nat, k ≤ n ∧ i = .int .i64 k ∧ Hid (∃ j, wr = w18.drewN j)) (fun i _ => n - (intOf i).toNat)
      case atStart => exact ⟨0, Nat.zero_le _, rfl, 0, rfl⟩
      case round =>
        obtain ⟨k, hk, rfl, HJ⟩ := hrel
        obtain ⟨j, hj⟩ := HJ.out
        by_cases hlt : k < n
        · obtain ⟨ay, rfl, _, hc⟩ := (Ya18.out.drewN j).2 (by omega)
          have hck := hc k hlt
          have cM := cell2 (M18.out.drewN j)
          rw [← hj] at hck cM
          obtain ⟨q0, q1, _, _⟩ := cM
          have CY := Lib.hid (fun w => within_any (zs.getD k 0) (-C) C w)
          rw [HZB.out k hlt] at CY
          obtain ⟨yk, hyk⟩ : ∃ y, zs.getD k 0 = y := ⟨_, rfl⟩
          rw [hyk] at hck CY
          have hkI : (k : Int) < (n : Int) := by omega
          have HJ' := Lib.hid hj
          clear hc hyk hj HJ
          go_wp2
          go_quiet ((first | (go_at_call 36; exact quietP (CCe.out _)) | (go_at_call 18; exact quietP (CY.out _))))
          go_wp2
          go_roundw
          case rel => exact ⟨k + 1, by omega, by go_num, by rw [HJ'.out]; exact ⟨_, World.drewN_drewN _ _ _⟩⟩
          case measure => simp [intOf]; omega
        · obtain rfl : n = k := by omega
          have hkI : ¬ (n : Int) < (n : Int) := by omega
          clear hlt
          have X19 := Lib.hid (X18.out.drewN j)
          have Y19 := Lib.hid (Y18.out.drewN j)
          have K19 := Lib.hid (K18.out.drewN j)
          have G19 := Lib.hid (G18.out.drewN j)
          have B19 := Lib.hid (belowDrewN B18.out j)
          have M19 := Lib.hid (M18.out.drewN j)
          have Ya19 := Lib.hid (Ya18.out.drewN j)
          clear X18 Y18 K18 G18 B18 M18 Ya18
          rw [← hj] at X19 Y19 K19 G19 B19 M19 Ya19
          clear hj HJ
          obtain ⟨w19, hw19⟩ : ∃ W, W = wr := ⟨_, rfl⟩
          subst hw19
          have hsl := HSL.out
          obtain ⟨i0, hi, hz0, hz1, hz2⟩ := info_parts intInfo'
          have ho : Hid ((w19.alloc (.cells #[.int .i64 0] 3)).ownsRow w19.heap.size 3 1 (.slice (some ⟨w19.heap.size, 0, none⟩) 1 1) 1 [.int .i64 0]) := World.ownsRow_lit w19 #[.int .i64 0] 1 (Nat.le_refl _) (by unfold maxLen; omega) rfl
          have RN : Hid (RdI (w19.alloc (.cells #[.int .i64 0] 3)) (some az) q (xs.take q)) := Lib.hid (HTK.out _ (X19.out.below (below1 _ _)))
          have hsrc := Lib.hid (rd_news RN.out)
          have hone := Lib.hid (one_news (xs.take q))
          have hlen : Hid (((xs.take q).map (Value.int .i64)).length = q * 1) := Lib.hid (by rw [List.length_map, HTL.out]; omega)
          obtain ⟨news, hnews⟩ : ∃ news, (xs.take q).map (Value.int .i64) = news := ⟨_, rfl⟩
          rw [hnews] at hlen hsrc hone
          have HNW := Lib.hid hnews
          clear hnews
          go_wp2_with (at_builtin; refine wpList_append_own _ rfl (.tmp 192) (.tmp 197) 29 rfl w19.heap.size 3 i0 _ 1 8 Try.underlying29 hi hz0 hz1 hz2 rfl (by decide) _ _ _ rfl ho.out az q c news rfl hlen.out hsrc.out hone.out (by unfold maxLen; omega) (by omega) (by simp) ?_)
          intro v w20 ho2 hg2 _
          have hb : Below w19.heap.size w19 w20 := ((Below.refl _ _).alloc (Nat.le_refl _) _).grown hg2 (by simp) (fun g hg => (ho.out.lt g hg).1)
          have ho3 : w20.ownsRow w19.heap.size 3 1 v n ((0 :: xs.take q).map (Value.int .i64)) := by rw [HQ.out.1, Nat.add_comm q 1]; rw [← HNW.out] at ho2; exact ho2
          obtain ⟨ALa, cLa, rfl, _, hrLa, hNLa⟩ := rd_ownN ho3
          clear ho2 ho3 hg2 hsl ho RN hsrc hone hlen HNW
          have X20 := Lib.hid (X19.out.below hb)
          have Y20 := Lib.hid (Y19.out.below hb)
          have K20 := Lib.hid (K19.out.later hb)
          have G20 := Lib.hid (G19.out.later hb)
          have B20 := Lib.hid (B19.out.trans (hb.mono B19.out.size))
          have M20 := Lib.hid (M19.out.later hb)
          have Ya20 := Lib.hid (Ya19.out.below hb)
          clear X19 Y19 K19 G19 B19 M19 Ya19 hb
          have La20 := Lib.hid hrLa
          have NLa := Lib.hid hNLa
          clear hrLa hNLa
          obtain ⟨e0, e1⟩ := bkf2 G20.out
          go_wp2_with fail
          refine (CCF.out _ Y20.out).mono ?_
          rintro e w21 ⟨⟨AFc, cFc, rfl, hrFc, hcFc, hNFc⟩, hb⟩
          have X21 := Lib.hid (X20.out.below hb)
          have Y21 := Lib.hid (Y20.out.below hb)
          have K21 := Lib.hid (K20.out.later hb)
          have G21 := Lib.hid (G20.out.later hb)
          have B21 := Lib.hid (B20.out.trans (hb.mono B20.out.size))
          have M21 := Lib.hid (M20.out.later hb)
          have Ya21 := Lib.hid (Ya20.out.below hb)
          have La21 := Lib.hid (La20.out.below hb)
          clear X20 Y20 K20 G20 B20 M20 Ya20 La20 hb
          have Fc21 := Lib.hid hrFc
          have NFc := Lib.hid hNFc
          clear hrFc hcFc hNFc
          clear e0 e1
          go_wp2_with fail
          refine (CCO.out _ _ _ _ NLa.out La21.out).mono ?_
          rintro e w22 ⟨⟨ALb, cLb, rfl, hrLb⟩, hb⟩
          have X22 := Lib.hid (X21.out.below hb)
          have Y22 := Lib.hid (Y21.out.below hb)
          have K22 := Lib.hid (K21.out.later hb)
          have G22 := Lib.hid (G21.out.later hb)
          have B22 := Lib.hid (B21.out.trans (hb.mono B21.out.size))
          have M22 := Lib.hid (M21.out.later hb)
          have Ya22 := Lib.hid (Ya21.out.below hb)
          have La22 := Lib.hid (La21.out.below hb)
          have Fc22 := Lib.hid (Fc21.out.below hb)
          clear X21 Y21 K21 G21 B21 M21 Ya21 La21 Fc21 hb
          have Lb22 := Lib.hid hrLb
          clear hrLb
          go_wp2_with fail
          refine (CFw.out _ _ _ _ _ Fc22.out Lb22.out).mono ?_
          rintro e w23 ⟨⟨AWa, cWa, rfl, hrWa⟩, hb⟩
          have X23 := Lib.hid (X22.out.below hb)
          have Y23 := Lib.hid (Y22.out.below hb)
          have K23 := Lib.hid (K22.out.later hb)
          have G23 := Lib.hid (G22.out.later hb)
          have B23 := Lib.hid (B22.out.trans (hb.mono B22.out.size))
          have M23 := Lib.hid (M22.out.later hb)
          have Ya23 := Lib.hid (Ya22.out.below hb)
          have Fc23 := Lib.hid (Fc22.out.below hb)
          have Lb23 := Lib.hid (Lb22.out.below hb)
          clear X22 Y22 K22 G22 B22 M22 Ya22 Fc22 Lb22 hb
          have Wa23 := Lib.hid hrWa
          clear hrWa
          obtain ⟨aw, rfl, _, hcw⟩ := Wa23.out.2 (by omega)
          have hw0 := hcw 0 hn0N
          rw [HW0.out] at hw0
          clear hcw
          have hw0b := hw0
          rw [show aw.add 0 = aw from by unfold Addr.add; split <;> simp_all] at hw0b
          go_wp2
          clear hw0 hw0b
          go_loopw [25] (fun i wr => ∃ k : Nat, k ≤ n ∧ 1 ≤ k ∧ i = .int .i64 k ∧ Hid (∃ j, wr = w23.drewN j)) (fun i _ => n - (intOf i).toNat)
          case atStart => exact ⟨1, by omega, Nat.le_refl _, rfl, 0, rfl⟩
          case round =>
            obtain ⟨k, hk, hk1, rfl, HJ⟩ := hrel
            obtain ⟨j, hj⟩ := HJ.out
            by_cases hlt : k < n
            · obtain ⟨i, hi⟩ : ∃ i, k = i + 1 := ⟨k - 1, by omega⟩
              have hwz := HWZ.out i (by omega)
              rw [← hi] at hwz
              obtain ⟨ay, rfl, _, hcy⟩ := (Ya23.out.drewN j).2 (by omega)
              have hcz := hcy i (by omega)
              obtain ⟨aw2, haw, _, hcw⟩ := (Wa23.out.drewN j).2 (by omega)
              obtain rfl := Option.some.inj haw
              have hck := hcw k hlt
              rw [← hj] at hcz hck
              rw [hwz] at hck
              obtain ⟨v, hv⟩ : ∃ v, zs.getD i 0 = v := ⟨_, rfl⟩
              rw [hv] at hck hcz
              have w4 : IntKind.i64.wrap ((k : Int) - 1) = (i : Int) := by rw [show (k : Int) - 1 = (i : Int) by omega]; exact IntWalk.i64_in _ (by omega)
              have hiI : (i : Int) < (n : Int) := by omega
              have hiN : i < n := by omega
              have hkI : (k : Int) < (n : Int) := by omega
              have HJ' := Lib.hid hj
              clear hcy hcw hwz hv hi hj HJ haw
              go_wp2
              go_quiet (fail)
              go_wp2
              go_roundw
              case rel => exact ⟨k + 1, by omega, by omega, by go_num, by rw [HJ'.out]; exact ⟨_, World.drewN_drewN _ _ _⟩⟩
              case measure => simp [intOf]; omega
            · obtain rfl : n = k := by omega
              have hkI : ¬ (n : Int) < (n : Int) := by omega
              have BB := belowDrewN B23.out j
              rw [← hj] at BB
              clear hlt hj HJ
              go_wp2
              go_ret
              exact ⟨by simp, BB⟩

end Go.Proofs.Ytepcciodhppbnaa


namespace Go.Proofs.Ytepcciodhppbnaa
open Go.RowKit

theorem mo_to1 {cs : List Int} {b a E x y : Int} {n : Nat} (h1 : moE cs b a = E) (h2 : moN cs b a = x) (h3 : moD cs b a = y) (hn : n ≤ 1000000) :
    ∀ A c W, RdI W A n cs → Calls Try.prog 32 #[.agg #[.slice A n c, .int .i64 b], .int .i64 a] W fun e w' => e = .returned (.tuple #[.agg #[.int .i64 x, .int .i64 y], .int .i64 E]) ∧ Below W.heap.size W w' := fun A c W hr => by
  have := MaximumOutput_any A n c b cs a W hr hn
  rwa [h1, h2, h3] at this

theorem chain_walk (A : Option Addr) (n c : Nat) (xs : List Int) (f s d : Int) (B : Option Addr) (m e : Nat) (b : Int) (cs : List Int) (w : World) (hr : RdI w A n xs) (hn0 : n ≤ 9223372036854775807) (hA : A = none → n = 0 ∧ c = 0) (hnc : n ≤ c) (hx : RdI w B m cs) (hm0 : m ≤ 9223372036854775807) (hB : B = none → m = 0 ∧ e = 0) :
    Calls Try.prog 6 #[.slice A n c, .agg #[.int .i64 f, .int .i64 s, .int .i64 d], .agg #[.slice B m e, .int .i64 b]] w fun e w' => e = .returned (.bool true) ∧ Below w.heap.size w w' := by
  by_cases hZ : n = 0
  · exact tcw_Z A n c xs f s d B m e b cs w hZ
  by_cases hn : n ≤ 20
  rotate_left
  · exact tcw_L A n c xs f s d B m e b cs w hn0 hm0 (by omega)
  have CSg := fun W (h : RdI W A n xs) => refSignalErr_any A n c xs W h (by omega)
  by_cases hS : sigE xs = 0
  rotate_left
  · exact tcw_S A n c xs f s d B m e b cs w hn0 hm0 hZ hn hr _ hS CSg
  rw [hS] at CSg
  have CQ := fun W => refEqualizerErr_any f s d W
  by_cases hQ : eqzE f s d = 0
  rotate_left
  · exact tcw_Q A n c xs f s d B m e b cs w hn0 hm0 hZ hn hr _ hQ CSg CQ
  rw [hQ] at CQ
  by_cases h8 : m ≤ 8
  rotate_left
  · exact tcw_T A n c xs f s d B m e b cs w hn0 hm0 hZ hn hr (by omega) CSg CQ
  have CFe := fun W (h : RdI W B m cs) => refFilterErr_any B m e b cs W h (by omega)
  by_cases hD : fltE cs b = 0
  rotate_left
  · exact tcw_D A n c xs f s d B m e b cs w hn0 hm0 hZ hn hr _ hD h8 hx CSg CQ CFe
  rw [hD] at CFe
  obtain ⟨ax, rfl, _, _⟩ := hr.2 (by omega)
  obtain ⟨az, haz⟩ : ∃ az, cutA (some ax) 0 c = some az := by unfold cutA; split <;> exact ⟨_, rfl⟩
  have hxs := (sigE_zero hS).2
  have hxl := hr.1
  have hO : outE xs = 0 := outE_of (by omega) (fun x hx => by have := hxs x hx; omega)
  -- resampled
  have h1 := fine_res (d := 3) (xs := xs) (N := 8) (m := 8) (n := n) (by omega) (by omega) (by omega) (by omega)
  have h2 := back_res (d := 3) (.inr rfl) hxs (N := 8) (m := 8) (n := n) (by omega) (by omega) (by omega) hxl (by omega) rfl
  have hfl := fine_len 3 xs 8 n
  have hfb := fine_bd 3 xs 8 n
  obtain ⟨us, hus⟩ : ∃ us, fineL 3 xs 8 n = us := ⟨_, rfl⟩
  rw [hus] at h1 h2 hfl hfb
  rw [if_neg hZ] at hfl
  have hus2 : sigE us = 0 := sigE_of (by omega) hfb
  have CR1 := fun B' d' W (h : RdI W B' n xs) => Resampled_ratio (d := 3) (.inr rfl) (p := 1) (q := 8) (by omega) (by omega) B' n d' xs us W h hS h1
  have CR2 := fun B' d' W (h : RdI W B' us.length us) => Resampled_ratio (d := 3) (.inr rfl) (p := 8) (q := 1) (by omega) (by omega) B' us.length d' us xs W h hus2 h2
  obtain ⟨l, hl⟩ : ∃ l, us.length = l := ⟨_, rfl⟩
  rw [hl] at CR2 hfl
  -- filtered
  have hok := fltE_zero hD
  have hcl := hx.1
  have hge := mxB_ge xs 0
  have hle : mxB xs 0 ≤ 32767 := mxB_le xs 0 (by omega) (fun x hx => absF_le.2 (hxs x hx))
  obtain ⟨mo, hmo⟩ : ∃ mo, mxB xs 0 = mo := ⟨_, rfl⟩
  rw [hmo] at hge hle
  have hxm : ∀ x ∈ xs, -mo ≤ x ∧ x ≤ mo := fun x hx => absF_le.1 (hge.2 x hx)
  have ha : ampE mo = 0 := rngE_of ⟨hge.1, hle⟩
  have hmk := mo_ok (cs := cs) hD ha
  have C1 := mo_to1 (n := m) hmk.1 hmk.2.1 hmk.2.2.1 (by omega)
  rw [hcl] at C1
  have hSb := absP_bd hok.2.1 ⟨hge.1, hle⟩ m (by omega)
  have hyb : ∀ k, -(absS cs m * mo) ≤ fsum cs xs k ∧ fsum cs xs k ≤ absS cs m * mo := fun k => by
    have := fsP_le cs xs mo hge.1 (fun k => getD_bd hge.1 hxm k) k cs.length
    rw [hcl] at this
    show -(absS cs m * mo) ≤ fsP cs xs k cs.length ∧ fsP cs xs k cs.length ≤ _
    rw [hcl]; exact this
  obtain ⟨S, hSS⟩ : ∃ S, absS cs m * mo = S := ⟨_, rfl⟩
  rw [hSS] at C1 hSb hyb
  obtain ⟨g, hg, e1, e2, hx0, hxl2, hy0, hyl, hgcd⟩ := fr_parts (S := S) (b := b) hSb.1 (by omega)
  obtain ⟨x, hxx⟩ : ∃ x, frN S b = x := ⟨_, rfl⟩
  obtain ⟨y, hyy⟩ : ∃ y, frD S b = y := ⟨_, rfl⟩
  rw [hxx] at C1 e1 hx0 hxl2 hgcd
  rw [hyy] at C1 e2 hy0 hyl hgcd
  have CWx := fun W => within_any x 0 1000000000 W
  rw [show fromB 0 1000000000 [x] = true by rw [fromB_one]; exact decide_eq_true (by omega)] at CWx
  have hCe : 0 ≤ upF x y ∧ upF x y ≤ 1000000000000 := by
    have h1 := div_bd (n := -x) (d := y) (M := 262136000) (by omega) (by omega) hy0
    have h2 : (-x) / y < 1 := by rw [Int.ediv_lt_iff_lt_mul hy0]; omega
    unfold upF
    omega
  have hb : 0 < b := by omega
  have hll : (0 :: xs.take (n - 1)).length = n := by rw [List.length_cons, List.length_take]; omega
  have hsl : sigE (0 :: xs.take (n - 1)) = 0 := sigE_of (by omega) (fun x hx => by
    rcases List.mem_cons.1 hx with rfl | hx
    · omega
    · exact hxs x (List.mem_of_mem_take hx))
  have CFl := fun A' c' B' d' W (h1 : RdI W A' m cs) (h2 : RdI W B' n xs) => fl_to (fls_ok hD hS) ((filt_len cs b xs).trans hxl) (by omega) (by omega) A' c' B' d' W h1 h2
  have CFw := fun A' c' B' d' W (h1 : RdI W A' m cs) (h2 : RdI W B' n (0 :: xs.take (n - 1))) => fl_to (fls_ok hD hsl) ((filt_len cs b _).trans hll) (by omega) (by omega) A' c' B' d' W h1 h2
  have CIs := fun W => isLowest_any x y W (by omega) (by omega) hgcd
  have CCe := fun W => ceil_any x y (by omega) (by omega) W
  have HZB : ∀ k, k < n → fromB (-upF x y) (upF x y) [(filt cs b xs).getD k 0] = true := fun k hk => by
    rw [filt_at _ _ _ _ (by omega), fromB_one]
    exact decide_eq_true (ceil_bd hy0 hg e1 e2 (hyb k))
  have HW0 := filt_late0 cs b (xs.take (n - 1))
  have HWZ := fun i (hi : i + 1 < n) => filt_late cs b xs n i hxl hi
  rcases eqR_01 f s d xs 0 0 with h0 | h0
  · have hy : eqY f s d xs = (eqR f s d 0 0 xs).1 := by unfold eqY; rw [if_pos h0]
    have hel : (eqR f s d 0 0 xs).1.length = n := (eqR_len f s d xs 0 0 h0).trans hr.1
    have g1 := eql_ok (xs := xs) hQ hS
    rw [h0, hy] at g1
    have hOy : outE (eqR f s d 0 0 xs).1 = 0 := outE_of (by omega) (fun y hy => absF_le.1 (eqR_small f s d xs 0 0 y hy))
    have g2 := rsl_ok (f := f) (s := s) (d := d) (xs := (eqR f s d 0 0 xs).1) hQ hOy
    rw [rsR_eqR f s d xs 0 0 h0] at g2
    exact tcw_ok ax az n c xs f s d B m e b cs w haz hr hx hnc hn h8 hB hxs (n - 1) l (by omega) hfl us _ _ _ hel mo hmo ⟨hge.1, hle⟩ x y _ hCe CSg CQ CFe
      (fun B' d' W h => (CR1 B' d' W h).mono fun e w' ho => ho.rdN hl) (fun B' d' W h => (CR2 B' d' W h).mono fun e w' ho => ho.rdN hxl)
      (fun B cb W h => eq_toN (n := n) g1 hel (by omega) B cb W h) (fun B cb W h => rs_toN (n := n) g2 hxl (by omega) B cb W h)
      C1 CFl CIs CWx CCe CFw HZB HW0 HWZ
  · have hy : eqY f s d xs = [] := by unfold eqY; rw [if_neg (by rw [h0]; decide)]
    have g1 := eql_ok (xs := xs) hQ hS
    rw [h0, hy] at g1
    exact tcw_br ax az n c xs f s d B m e b cs w haz hr hx hnc hn h8 hB hxs (n - 1) l (by omega) hfl us _ _ mo hmo ⟨hge.1, hle⟩ x y _ hCe CSg CQ CFe
      (fun B' d' W h => (CR1 B' d' W h).mono fun e w' ho => ho.rdN hl) (fun B' d' W h => (CR2 B' d' W h).mono fun e w' ho => ho.rdN hxl)
      (fun B cb W h => eq_toN (n := n) g1 rfl (by omega) B cb W h)
      C1 CFl CIs CWx CCe CFw HZB HW0 HWZ

end Go.Proofs.Ytepcciodhppbnaa

