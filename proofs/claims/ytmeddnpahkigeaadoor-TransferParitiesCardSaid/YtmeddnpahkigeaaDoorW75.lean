import Derived.Test.YtmeddnpahkigeaaDoorW74
import Derived.Test.YtmeddnpahkigeaaDoorW51
import Derived.RangeFuncBox
import Derived.RangeFuncNested
import Derived.RangeFuncBound
import Derived.RangeFuncCalls
import Derived.RangeFuncLeaves
import Derived.Shelf.Abstract
import Derived.Shelf.RegionOpen
import Derived.WalkKit
import Derived.WalkSpells
import Derived.WalkLawsBesides
import Derived.OwnWalkIn
import Derived.TacticsInMore
import Derived.LoopNIn
import Derived.LoopIn
import Derived.Lib.Hide
import Derived.Laws.CopyOwn
namespace Go.Proofs.YtmeddnpahkigeaaDoor
open Go.RowKit
open Go.Shelf
attribute [local go_sem] Oper.semAt_some

theorem cut3_run (a : Option Addr) (n c lo hi m d : Nat) (l h : Int) (hl : l = lo) (hh : h = hi) (h1 : lo ≤ hi) (h2 : hi ≤ c) (hm : hi - lo = m) (W : World) :
    (Instr.slice 22 (.slice a n c) (some (.int .i64 l)) (some (.int .i64 h)) (some (.int .i64 h))).run Tryd.prog W = .ok (.slice (cutA a lo hi) m m) W := by
  have := run_slice_lhm (P := Tryd.prog) (w := W) 22 a n c intsUnder' .i64 .i64 .i64 l h h (by omega) (by omega) (by omega) (by omega)
  rw [this, intElem, sizeOfInt, ← hm, hl, hh]
  rfl

structure Kp2 (B C : Nat) (W W' : World) : Prop where
  b : W'.heap[B]? = W.heap[B]?
  c : W'.heap[C]? = W.heap[C]?
theorem Kp2.refl (B C : Nat) (W : World) : Kp2 B C W W := ⟨rfl, rfl⟩
theorem Kp2.trans {B C : Nat} {X Y Z : World} (h : Kp2 B C X Y) (k : Kp2 B C Y Z) : Kp2 B C X Z := ⟨k.b.trans h.b, k.c.trans h.c⟩
theorem Kp2.cellB {B C : Nat} {W W' : World} (h : Kp2 B C W W') (o : Nat) : W'.cell? ⟨B, o, none⟩ = W.cell? ⟨B, o, none⟩ := by simp [World.cell?, h.b]
theorem Kp2.cellC {B C : Nat} {W W' : World} (h : Kp2 B C W W') (o : Nat) : W'.cell? ⟨C, o, none⟩ = W.cell? ⟨C, o, none⟩ := by simp [World.cell?, h.c]
theorem Kp2.putObj {B C : Nat} (W : World) (l : Nat) (o : Obj) (hB : l ≠ B) (hC : l ≠ C) : Kp2 B C W (W.putObj l o) := ⟨World.putObj_heap_other (by omega), World.putObj_heap_other (by omega)⟩
theorem Kp2.setCell {B C : Nat} (W : World) (a : Addr) (v : Value) (hB : B ≠ a.block) (hC : C ≠ a.block) : Kp2 B C W (W.setCell a v) := ⟨Below.heap_setCell _ _ _ _ hB, Below.heap_setCell _ _ _ _ hC⟩
theorem Kp2.alloc {B C : Nat} (W : World) (o : Obj) (hB : B < W.heap.size) (hC : C < W.heap.size) : Kp2 B C W (W.alloc o) := ⟨Below.heap_alloc _ _ _ hB, Below.heap_alloc _ _ _ hC⟩
theorem Kp2.drew {B C : Nat} (W : World) : Kp2 B C W W.drew := ⟨rfl, rfl⟩

/-- How long part x is. -/
def partN (n x : Nat) : Nat := min 8 (n - x * 8)
/-- Part x of a signal, as a slice. -/
def partV (A : Option Addr) (n x : Nat) : Value := .slice (cutA A (x * 8) (x * 8 + partN n x)) (partN n x) (partN n x)
theorem range_takeT {N k : Nat} (h : k < N) : (List.range N).take (k + 1) = (List.range N).take k ++ [k] := by
  rw [List.take_range, List.take_range, Nat.min_eq_left (by omega), Nat.min_eq_left (by omega), List.range_succ]

set_option maxRecDepth 100000 in
set_option maxHeartbeats 2000000 in
theorem chunk1_in (F : Fence) (nf : Nat) (hf : F.fn 75) (hro : F.round = none) (hn : 1 ≤ nf) (l Bs Bn : Nat) (A : Option Addr) (n cp : Nat) (hn2 : n ≤ 1000000) (hcp : n ≤ cp) (hcp2 : cp ≤ 9223372036854775807) (J Jx : List Nat → World → Prop)
    (hY : ∀ pre x W, J pre W → pre ++ [x] <+: List.range (cntN n) → YieldAt F (nf - 1) Tryd.prog l #[partV A n x] W fun e W' =>
      (e = .returned (.bool true) ∧ J (pre ++ [x]) W' ∧ Kp2 Bs Bn W W') ∨ (e = .returned (.bool false) ∧ Jx (pre ++ [x]) W'))
    (hd : ∀ pre W, J pre W → J pre W.drew)
    (W : World) (hBs : W.cell? ⟨Bs, 0, none⟩ = some (.slice A n cp)) (hBn : W.cell? ⟨Bn, 0, none⟩ = some (.int .i64 8)) (h0 : J [] W) :
    CallsIn F nf Tryd.prog 75 #[.func (.yield l) #[] #[], .pointer (some ⟨Bs, 0, none⟩), .pointer (some ⟨Bn, 0, none⟩)] W fun e W' => (∃ v, e = .returned v) ∧
      ((∃ ys, ys = List.range (cntN n) ∧ J ys W') ∨ (∃ pre, pre <+: List.range (cntN n) ∧ Jx pre W')) := by
  have HY := Lib.hid hY
  have H0 := Lib.hid h0
  have HD := Lib.hid hd
  clear hY h0 hd
  obtain ⟨N, hN⟩ : ∃ N, cntN n = N := ⟨_, rfl⟩
  have hNn : N * 8 < n + 8 ∧ n ≤ N * 8 := by unfold cntN at hN; omega
  rw [hN] at HY ⊢
  clear hN
  refine callsIn_of_wp Tryd.func75 rfl hf ?_ hro
  simp only [Tryd.ntmps75, List.size_toArray, List.length_cons, List.length_nil, Nat.reduceAdd, Nat.reduceSub, Array.replicate_succ, Array.replicate_zero, List.push_toArray, List.append_toArray, List.nil_append, List.cons_append]
  gi_wp2
  gi_loopw [4, 5] (fun i _ wr => ∃ k : Nat, k ≤ N ∧ i = .int .i64 ((k * 8 : Nat) : Int) ∧ J ((List.range N).take k) wr ∧ Kp2 Bs Bn W wr) (fun i _ _ => (n + 8 - (intOf i).toNat))
  case atStart =>
    exact ⟨0, Nat.zero_le _, rfl, by simpa using H0.out, Kp2.refl _ _ _⟩
  case round =>
    obtain ⟨k, hk, rfl, hJ, hB⟩ := hrel
    have hBs' : wr.cell? ⟨Bs, 0, none⟩ = some (.slice A n cp) := (hB.cellB 0).trans hBs
    have hBn' : wr.cell? ⟨Bn, 0, none⟩ = some (.int .i64 8) := (hB.cellC 0).trans hBn
    obtain ⟨o, ho⟩ : ∃ o, k * 8 = o := ⟨_, rfl⟩
    rw [ho]
    by_cases hlt : k < N
    · have hoI : (o : Int) < (n : Int) := by omega
      have ho0 : (0 : Int) ≤ (o : Int) := by omega
      obtain ⟨q, hq⟩ : ∃ q, n - o = q := ⟨_, rfl⟩
      obtain ⟨d, hdd⟩ : ∃ d, cp - o = d := ⟨_, rfl⟩
      have s1 := cutFrom_run A n cp o q d (o : Int) rfl (by omega) hq hdd
      obtain ⟨m, hm⟩ : ∃ m, partN n k = m := ⟨_, rfl⟩
      have hm2 : m = min 8 q := by rw [← hm]; unfold partN; rw [ho, hq]
      have hmin : (if (q : Int) < 8 then (q : Int) else 8) = (m : Int) := by rw [hm2]; split <;> omega
      have s2 := cut3_run A n cp o (o + m) m 0 (o : Int) ((o : Int) + (m : Int)) rfl (by omega) (by omega) (by omega) (by omega)
      have htk := range_takeT hlt
      have hpv : partV A n k = .slice (cutA A o (o + m)) m m := by unfold partV; rw [ho, hm]
      obtain ⟨fn, tmps, assign, body, hy, hR⟩ := HY.out _ k wr.drew (HD.out _ _ hJ) ⟨(List.range N).drop (k + 1), by rw [← htk, List.take_append_drop]⟩
      rw [hpv] at hy
      have hm8 : (m : Int) ≤ 8 ∧ 0 ≤ (m : Int) := by omega
      clear hpv hm htk hm2 hq hdd
      gi_wp2
      gi_region
      all_goals
        gi_wp2
        refine hR.mono ?_
        rintro e W3 (⟨rfl, hJ3, hk3⟩ | ⟨rfl, hJx3⟩)
        · have hK3 := (hB.trans (Kp2.drew _)).trans hk3
          have hBn3 : W3.cell? ⟨Bn, 0, none⟩ = some (.int .i64 8) := (hK3.cellC 0).trans hBn
          have hob : o ≤ 1000000 := by omega
          gi_wp2
          go_roundw
          case rel => exact ⟨k + 1, by omega, by rw [show (k + 1) * 8 = o + 8 by omega]; go_num, by rw [range_takeT hlt]; exact hJ3, hK3⟩
          case measure => simp only [intOf]; first | omega | (simp [intOf]; omega)
        · gi_wp2
          refine bodyPost_ret (results_none rfl _ _ _) rfl ?_
          exact ⟨⟨_, rfl⟩, .inr ⟨_, ⟨(List.range N).drop (k + 1), by rw [← range_takeT hlt, List.take_append_drop]⟩, hJx3⟩⟩
    · have hoI : ¬ (o : Int) < (n : Int) := by omega
      gi_wp2
      go_end0
      exact ⟨⟨_, rfl⟩, .inl (by rw [List.take_of_length_le (by simp; omega)] at hJ; first | exact hJ | exact ⟨_, rfl, hJ⟩)⟩

end Go.Proofs.YtmeddnpahkigeaaDoor
