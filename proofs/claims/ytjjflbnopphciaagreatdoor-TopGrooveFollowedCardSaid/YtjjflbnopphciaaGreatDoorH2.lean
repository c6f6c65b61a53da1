import Derived.RangeFuncNested
import Derived.RangeFuncBound
import Derived.RangeFuncCalls
import Derived.RangeFuncLeaves
import Derived.Shelf.Abstract
import Derived.Shelf.RegionOpen
import Derived.WalkKit
import Derived.WalkSpells
import Derived.WalkLawsBesides
import Derived.OwnWalkIn
import Derived.TacticsInMore
import Derived.LoopNIn
import Derived.LoopIn
import Derived.Lib.Hide
import Derived.Laws.CopyOwn
import Derived.Test.YtjjflbnopphciaaGreatDoorProg
import Derived.Test.YtjjflbnopphciaaGreatDoorH1
namespace Go.Proofs.YtjjflbnopphciaaGreatDoor
open Go.RowKit Go.Shelf
attribute [local go_sem] Oper.semAt_some

theorem bend_any (sv : Value) (b cols f t : Int) (w : World) :
    Calls Tryz.prog 97 #[.agg #[sv, .int .i64 b, .int .i64 cols], .int .i64 f, .int .i64 t] w fun e w' => e = .returned (.int .i64 (if f = t then 0 else b)) ∧ ∃ o, w' = w.alloc o := by
  by_cases h : f = t
  · subst h
    go_enter Tryz.func97, Tryz.ntmps97
    go_wp2
    go_ret
    exact ⟨by simp, _, rfl⟩
  · have h1 : (f == t) = false := by simpa using h
    go_enter Tryz.func97, Tryz.ntmps97
    go_wp2
    go_ret
    exact ⟨by first | rfl | (rw [if_neg h]; done) | (rw [if_neg h]; rfl), _, rfl⟩

/-- The two blocks B and C lie as they lay. -/
structure Kp2 (B C : Nat) (W W' : World) : Prop where
  b : W'.heap[B]? = W.heap[B]?
  c : W'.heap[C]? = W.heap[C]?
theorem Kp2.refl (B C : Nat) (W : World) : Kp2 B C W W := ⟨rfl, rfl⟩
theorem Kp2.trans {B C : Nat} {X Y Z : World} (h : Kp2 B C X Y) (k : Kp2 B C Y Z) : Kp2 B C X Z := ⟨k.b.trans h.b, k.c.trans h.c⟩
theorem Kp2.cellB {B C : Nat} {W W' : World} (h : Kp2 B C W W') (o : Nat) : W'.cell? ⟨B, o, none⟩ = W.cell? ⟨B, o, none⟩ := by simp [World.cell?, h.b]
theorem Kp2.cellC {B C : Nat} {W W' : World} (h : Kp2 B C W W') (o : Nat) : W'.cell? ⟨C, o, none⟩ = W.cell? ⟨C, o, none⟩ := by simp [World.cell?, h.c]
theorem Kp2.putObj {B C : Nat} (W : World) (l : Nat) (o : Obj) (hB : l ≠ B) (hC : l ≠ C) : Kp2 B C W (W.putObj l o) := ⟨World.putObj_heap_other (by omega), World.putObj_heap_other (by omega)⟩
theorem Kp2.setCell {B C : Nat} (W : World) (a : Addr) (v : Value) (hB : B ≠ a.block) (hC : C ≠ a.block) : Kp2 B C W (W.setCell a v) := ⟨Below.heap_setCell _ _ _ _ hB, Below.heap_setCell _ _ _ _ hC⟩
theorem Kp2.alloc {B C : Nat} (W : World) (o : Obj) (hB : B < W.heap.size) (hC : C < W.heap.size) : Kp2 B C W (W.alloc o) := ⟨Below.heap_alloc _ _ _ hB, Below.heap_alloc _ _ _ hC⟩
theorem Kp2.drew {B C : Nat} (W : World) : Kp2 B C W W.drew := ⟨rfl, rfl⟩

set_option maxRecDepth 100000 in
set_option maxHeartbeats 1000000 in
theorem neighbours_in (F : Fence) (n : Nat) (hf : F.fn 96) (hro : F.round = none) (sv : Value) (b cols c : Int) (w : World) :
    CallsIn F n Tryz.prog 96 #[.agg #[sv, .int .i64 b, .int .i64 cols], .int .i64 c] w fun e w' => e = .returned (.func (.func 114) #[] #[.pointer (some ⟨w.heap.size + 1, 0, none⟩), .pointer (some ⟨w.heap.size, 0, none⟩)]) ∧ w' = (w.alloc (.cells #[sv, .int .i64 b, .int .i64 cols] 104)).alloc (.cells #[.int .i64 c] 3) := by
  refine callsIn_of_wp Tryz.func96 rfl hf ?_ hro
  simp only [Tryz.ntmps96, List.size_toArray, List.length_cons, List.length_nil, Nat.reduceAdd, Nat.reduceSub, Array.replicate_succ, Array.replicate_zero, List.push_toArray, List.append_toArray, List.nil_append, List.cons_append]
  gi_wp2
  go_ret
  exact ⟨rfl, rfl⟩

set_option maxRecDepth 100000 in
set_option maxHeartbeats 2000000 in
theorem neighbours1_in (F : Fence) (n : Nat) (hf : F.fn 114) (hro : F.round = none) (hn : 1 ≤ n) (l Bc Bt : Nat) (c cols : Nat) (hcol : c < cols) (hcb : cols ≤ 1000000) (J Jx : List Int → World → Prop)
    (hY : ∀ pre x W, J pre W → pre ++ [x] <+: nbrs c cols → YieldAt F (n - 1) Tryz.prog l #[.int .i64 x] W fun e W' =>
      (e = .returned (.bool true) ∧ J (pre ++ [x]) W' ∧ Kp2 Bc Bt W W') ∨ (e = .returned (.bool false) ∧ Jx (pre ++ [x]) W'))
    (W : World) (hBc : W.cell? ⟨Bc, 0, none⟩ = some (.int .i64 c)) (hBt : W.cell? ⟨Bt, 2, none⟩ = some (.int .i64 cols)) (h0 : J [] W) :
    CallsIn F n Tryz.prog 114 #[.func (.yield l) #[] #[], .pointer (some ⟨Bc, 0, none⟩), .pointer (some ⟨Bt, 0, none⟩)] W fun e W' => (∃ v, e = .returned v) ∧
      ((∃ ys, ys = nbrs c cols ∧ J ys W') ∨ (∃ pre, pre <+: nbrs c cols ∧ Jx pre W')) := by
  have HY := Lib.hid hY
  have H0 := Lib.hid h0
  clear hY h0
  have hcount : nbrCount c cols = min (c + 1) (cols - 1) - (c - 1) + 1 := rfl
  by_cases hc0 : c = 0
  · subst hc0
    have hc2 : nbrCount 0 cols = min 1 (cols - 1) + 1 := rfl
    clear hcount
    refine callsIn_of_wp Tryz.func114 rfl hf ?_ hro
    simp only [Tryz.ntmps114, List.size_toArray, List.length_cons, List.length_nil, Nat.reduceAdd, Nat.reduceSub, Array.replicate_succ, Array.replicate_zero, List.push_toArray, List.append_toArray, List.nil_append, List.cons_append]
    gi_wp2
    gi_loopw [4] (fun i wr => ∃ k : Nat, k ≤ nbrCount 0 cols ∧ i = .int .i64 k ∧ J ((nbrs 0 cols).take k) wr ∧ Kp2 Bc Bt W wr) (fun i _ => (2 - (intOf i).toNat))
    case atStart =>
      exact ⟨0, Nat.zero_le _, rfl, by simpa using H0.out, Kp2.refl _ _ _⟩
    case round =>
      obtain ⟨k, hk, rfl, hJ, hB⟩ := hrel
      have hBc' : wr.cell? ⟨Bc, 0, none⟩ = some (.int .i64 (0 : Nat)) := (hB.cellB 0).trans hBc
      have hBt' : wr.cell? ⟨Bt, 2, none⟩ = some (.int .i64 cols) := (hB.cellC 2).trans hBt
      simp only [Int.natCast_zero] at hBc'
      have hminL : (if (cols : Int) - 1 < 1 then (cols : Int) - 1 else 1) = (nbrCount 0 cols : Int) - 1 := by
        rw [hc2]; split <;> omega
      by_cases hlt : k < nbrCount 0 cols
      · have hle : (k : Int) ≤ (if (cols : Int) - 1 < 1 then (cols : Int) - 1 else 1) := by rw [hminL]; omega
        have htk : (nbrs 0 cols).take (k + 1) = (nbrs 0 cols).take k ++ [(k : Int)] := by rw [nbrs_take _ _ _ hlt]; simp
        obtain ⟨fn, tmps, assign, body, hy, hR⟩ := HY.out _ (k : Int) wr hJ ⟨(nbrs 0 cols).drop (k + 1), by rw [← htk, List.take_append_drop]⟩
        gi_wp2
        refine hR.mono ?_
        rintro e W3 (⟨rfl, hJ3, hk3⟩ | ⟨rfl, hJx3⟩)
        · gi_wp2
          go_roundw
          case rel => exact ⟨k + 1, by omega, by congr 1, by rw [htk]; exact hJ3, hB.trans hk3⟩
          case measure => simp only [intOf]; first | omega | (simp [intOf]; omega)
        · gi_wp2
          refine bodyPost_ret (results_none rfl _ _ _) rfl ?_
          exact ⟨⟨_, rfl⟩, .inr ⟨_, ⟨(nbrs 0 cols).drop (k + 1), by rw [← htk, List.take_append_drop]⟩, hJx3⟩⟩
      · have hle : ¬ (k : Int) ≤ (if (cols : Int) - 1 < 1 then (cols : Int) - 1 else 1) := by rw [hminL]; omega
        gi_wp2
        go_end0
        exact ⟨⟨_, rfl⟩, .inl (by rw [nbrs_all _ _ _ (by omega)] at hJ; first | exact hJ | exact ⟨_, rfl, hJ⟩)⟩
  · have hlo : (0 : Int) ≤ (c : Int) - 1 := by omega
    have hmax : ¬ ((c : Int) - 1 < 0) := by omega
    refine callsIn_of_wp Tryz.func114 rfl hf ?_ hro
    simp only [Tryz.ntmps114, List.size_toArray, List.length_cons, List.length_nil, Nat.reduceAdd, Nat.reduceSub, Array.replicate_succ, Array.replicate_zero, List.push_toArray, List.append_toArray, List.nil_append, List.cons_append]
    gi_wp2
    gi_loopw [4] (fun i wr => ∃ k, k ≤ nbrCount c cols ∧ i = .int .i64 ((c - 1 + k : Nat) : Int) ∧ J ((nbrs c cols).take k) wr ∧ Kp2 Bc Bt W wr) (fun i _ => (c + 2 - (intOf i).toNat))
    case atStart =>
      exact ⟨0, Nat.zero_le _, by congr 1; omega, by simpa using H0.out, Kp2.refl _ _ _⟩
    case round =>
      obtain ⟨k, hk, rfl, hJ, hB⟩ := hrel
      have hBc' : wr.cell? ⟨Bc, 0, none⟩ = some (.int .i64 c) := (hB.cellB 0).trans hBc
      have hBt' : wr.cell? ⟨Bt, 2, none⟩ = some (.int .i64 cols) := (hB.cellC 2).trans hBt
      have hminL : (if (cols : Int) - 1 < (c : Int) + 1 then (cols : Int) - 1 else (c : Int) + 1) = ((c - 1 + nbrCount c cols : Nat) : Int) - 1 := by
        rw [hcount]; split <;> omega
      by_cases hlt : k < nbrCount c cols
      · have hle : ((c - 1 : Nat) : Int) + (k : Int) ≤ (if (cols : Int) - 1 < (c : Int) + 1 then (cols : Int) - 1 else (c : Int) + 1) := by rw [hminL]; omega
        obtain ⟨fn, tmps, assign, body, hy, hR⟩ := HY.out _ (((c - 1 : Nat) : Int) + (k : Int)) wr hJ ⟨(nbrs c cols).drop (k + 1), by rw [← Int.natCast_add, ← nbrs_take _ _ _ hlt, List.take_append_drop]⟩
        gi_wp2
        refine hR.mono ?_
        rintro e W3 (⟨rfl, hJ3, hk3⟩ | ⟨rfl, hJx3⟩)
        · gi_wp2
          go_roundw
          case rel => exact ⟨k + 1, by omega, by congr 1, by rw [nbrs_take _ _ _ hlt, Int.natCast_add]; exact hJ3, hB.trans hk3⟩
          case measure => simp only [intOf]; first | omega | (simp [intOf]; omega)
        · gi_wp2
          refine bodyPost_ret (results_none rfl _ _ _) rfl ?_
          exact ⟨⟨_, rfl⟩, .inr ⟨_, ⟨(nbrs c cols).drop (k + 1), by rw [← Int.natCast_add, ← nbrs_take _ _ _ hlt, List.take_append_drop]⟩, hJx3⟩⟩
      · have hle : ¬ ((c - 1 : Nat) : Int) + (k : Int) ≤ (if (cols : Int) - 1 < (c : Int) + 1 then (cols : Int) - 1 else (c : Int) + 1) := by rw [hminL]; omega
        gi_wp2
        go_end0
        exact ⟨⟨_, rfl⟩, .inl (by rw [nbrs_all _ _ _ (by omega)] at hJ; first | exact hJ | exact ⟨_, rfl, hJ⟩)⟩

abbrev Col (cols : Nat) := { x : Int // 0 ≤ x ∧ x < (cols : Int) }

theorem nbrs_mem {c cols : Nat} (hcol : c < cols) {x : Int} (h : x ∈ nbrs c cols) : 0 ≤ x ∧ x < (cols : Int) := by
  simp only [nbrs, List.mem_map, List.mem_range, nbrCount] at h
  obtain ⟨k, hk, rfl⟩ := h
  omega

theorem nbrs_stops (F : Fence) (n : Nat) (hf : F.fn 114) (hro : F.round = none) (hn : 1 ≤ n) (Bc Bt : Nat) (c cols : Nat) (hcol : c < cols) (hcb : cols ≤ 1000000)
    (w : World) (hb1 : Bc < w.heap.size) (hb2 : Bt < w.heap.size) (hBc : w.cell? ⟨Bc, 0, none⟩ = some (.int .i64 c)) (hBt : w.cell? ⟨Bt, 2, none⟩ = some (.int .i64 cols)) :
    SeqStopsK F n Tryz.prog 114 #[.pointer (some ⟨Bc, 0, none⟩), .pointer (some ⟨Bt, 0, none⟩)] (fun x : Col cols => #[Value.int .i64 x.1]) (Kp2 Bc Bt) (fun ys => ys.map (·.1) = nbrs c cols) (fun pre => pre.map (·.1) <+: nbrs c cols) (nbrs c cols).length w := fun l J Jx W hW _ _ hY h0 => by
  refine (neighbours1_in F n hf hro hn l Bc Bt c cols hcol hcb (fun pre W => ∃ q : List (Col cols), q.map (·.1) = pre ∧ J q W) (fun pre W => ∃ q : List (Col cols), q.map (·.1) = pre ∧ Jx q W) ?_ W ((hW.cell (p := ⟨Bc, 0, none⟩) hb1).trans hBc) ((hW.cell (p := ⟨Bt, 2, none⟩) hb2).trans hBt) ⟨[], rfl, h0⟩).mono ?_
  · rintro pre x W1 ⟨q, rfl, hq⟩ hp
    have hx := nbrs_mem hcol (hp.subset (show x ∈ q.map (·.1) ++ [x] by simp))
    refine (hY q ⟨x, hx⟩ W1 hq (by have := hp.length_le; simp at this; omega)).mono ?_
    rintro e W' (⟨he, hj, hk⟩ | ⟨he, hj⟩)
    · exact .inl ⟨he, ⟨_, by simp, hj⟩, hk⟩
    · exact .inr ⟨he, ⟨_, by simp, hj⟩⟩
  · rintro e W' ⟨hv, (⟨ys, rfl, q, hq, hj⟩ | ⟨pre, hp, q, rfl, hj⟩)⟩
    · exact ⟨hv, .inl ⟨q, hq, hj⟩⟩
    · exact ⟨hv, .inr ⟨q, hp, hj⟩⟩

end Go.Proofs.YtjjflbnopphciaaGreatDoor
