import Derived.Test.YtepcciodhppbnaaE18
import Derived.Test.YtepcciodhppbnaaL1
namespace Go.Proofs.Ytepcciodhppbnaa
open Go.RowKit

open Go.Shelf
attribute [local go_sem] Oper.semAt_some

/-- What lies below n0 lies as it lay, but for block B. -/
structure KB (B n0 : Nat) (W W' : World) : Prop where
  block : ∀ g, g < n0 → g ≠ B → W'.heap[g]? = W.heap[g]?
  size : W.heap.size ≤ W'.heap.size
theorem KB.refl (B n0 : Nat) (W : World) : KB B n0 W W := ⟨fun _ _ _ => rfl, Nat.le_refl _⟩
theorem KB.trans {B n0 : Nat} {X Y Z : World} (h : KB B n0 X Y) (k : KB B n0 Y Z) : KB B n0 X Z := ⟨fun g a b => (k.block g a b).trans (h.block g a b), Nat.le_trans h.size k.size⟩
theorem KB.of_below {B n0 : Nat} {W W' : World} (h : Below n0 W W') : KB B n0 W W' := ⟨fun g a _ => h.block g a, h.size⟩
theorem KB.putObj {B n0 : Nat} (W : World) (l : Nat) (o' : Obj) (hl : n0 ≤ l) : KB B n0 W (W.putObj l o') := ⟨fun g a _ => World.putObj_heap_other (by omega), (grownBy_putObj' W l o').size⟩
theorem KB.bk {B n0 g : Nat} {W W' : World} {t : TypeId} {cs : Array Value} (h : KB B n0 W W') (k : Bk W g t cs) (h1 : g < n0) (h2 : g ≠ B) : Bk W' g t cs := (h.block g h1 h2).trans k
theorem KB.cell {B n0 g o : Nat} {W W' : World} (h : KB B n0 W W') (h1 : g < n0) (h2 : g ≠ B) : W'.cell? ⟨g, o, none⟩ = W.cell? ⟨g, o, none⟩ := by simp [World.cell?, h.block g h1 h2]

theorem grown_of_below {W W' : World} (h : Below W.heap.size W W') : W.grownBy W' none := ⟨h.1, h.2, h.3, h.4, fun k hk _ => h.block k hk⟩

theorem outputsOf_any (rs : Array Value) (w : World) (h : ∃ a b c d e f : Value, rs = #[a, b, c, d, e, f] ∧ a.oneCell' = true ∧ b.oneCell' = true ∧ c.oneCell' = true ∧ d.oneCell' = true ∧ e.oneCell' = true ∧ f.oneCell' = true) :
    Calls Try.prog 65 #[.agg rs] w fun e w' => e = .returned (.func (.func 118) #[] #[.pointer (some ⟨w.heap.size, 0, none⟩)]) ∧ w' = w.alloc (.cells rs 26) := by
  obtain ⟨a, b, c, d, e, f, rfl, h1, h2, h3, h4, h5, h6⟩ := h
  go_enter Try.func65, Try.ntmps65
  go_wp2
  go_ret
  exact ⟨rfl, rfl⟩

set_option maxRecDepth 100000 in
set_option maxHeartbeats 4000000 in
theorem outs_lim (n : Nat) (hn : 1 ≤ n) (gr B n0 M : Nat) (opv : Nat → Int × Int) (k0 k1 k2 k3 k4 : Int) (A : Option Addr) (m c : Nat) (w0 : World) (hgr : gr < w0.heap.size) (hB : gr ≠ B) (hn0 : w0.heap.size = n0) (hM : M ≤ 1000000)
    (hbk : Bk w0 gr 26 #[.int .i64 k0, .int .i64 k1, .int .i64 k2, .int .i64 k3, .int .i64 k4, .slice A m c])
    (hop : ∀ (k : Nat) W, k ≤ M → KB B n0 w0 W → Calls Try.prog 119 #[.agg #[.int .i64 k0, .int .i64 k1, .int .i64 k2, .int .i64 k3, .int .i64 k4, .slice A m c], .int .i64 k] W fun e w' => e = .returned (.tuple #[.int .i64 (opv k).1, .int .i64 (opv k).2]) ∧ Below W.heap.size W w') :
    SeqLim Fence.wide n Try.prog 118 #[.pointer (some ⟨gr, 0, none⟩)] (fun k : Nat => #[Value.int .i64 (opv k).1]) (KB B n0) (fun xs => ∃ q, xs = List.range q ∧ q ≤ M ∧ (∀ i, i < q → (opv i).2 = 0) ∧ (opv q).2 ≠ 0) (fun pre => ∃ q, pre = List.range q ∧ q ≤ M + 1 ∧ ∀ i, i < q → (opv i).2 = 0) M w0 := fun l J Jx W hW hJ hJx hlim hY h0 => by
  have HY := Lib.hid hY
  have H0 := Lib.hid h0
  have HJ := Lib.hid hJ
  have HLim := Lib.hid hlim
  have HOP := Lib.hid hop
  have HBK := Lib.hid hbk
  have HW : Hid (KB B n0 w0 W) := KB.of_below (by rw [← hn0]; exact hW)
  clear hY h0 hJ hJx hlim hop hbk hW
  refine callsIn_of_wp Try.func118 rfl trivial ?_ rfl
  simp only [Try.ntmps118, List.size_toArray, List.length_cons, List.length_nil, Nat.reduceAdd, Nat.reduceSub, Array.replicate_succ, Array.replicate_zero, List.push_toArray, List.append_toArray, List.nil_append, List.cons_append]
  gi_wp2
  gi_loopw [3] (fun i wr => ∃ k : Nat, k ≤ M ∧ i = .int .i64 k ∧ J (List.range k) wr ∧ Hid (KB B n0 w0 wr) ∧ Hid (∀ i, i < k → (opv i).2 = 0)) (fun i _ => (M + 1 - (intOf i).toNat))
  case atStart =>
    exact ⟨0, Nat.zero_le _, rfl, H0.out, HW, by intro i hi; omega⟩
  case round =>
    obtain ⟨k, hk, rfl, hJ, HK, HE⟩ := hrel
    obtain ⟨c0, c1, c2, c3, c4, c5⟩ := bk6 (HK.out.bk HBK.out (by omega) hB)
    have CO := Lib.hid (HOP.out k wr hk HK.out)
    have hst := HK.out.size
    gi_wp2_with fail
    refine ⟨trivial, ?_⟩
    refine (callsIn_wide.2 CO.out).mono ?_
    rintro e w2 ⟨rfl, hb2⟩
    have hJ2 := HJ.out _ _ _ none hJ (grown_of_below hb2) (fun r e => by cases e)
    have HK2 : Hid (KB B n0 w0 w2) := HK.out.trans (KB.of_below (hb2.mono (by omega)))
    clear hb2 hJ c0 c1 c2 c3 c4 c5 CO
    by_cases hE : (opv k).2 = 0
    · obtain ⟨fn, tmps, assign, body, hy, hR⟩ := HY.out (List.range k) k w2 hJ2 ⟨k + 1, by rw [List.range_succ], by omega, fun i hi => by
        rcases (by omega : i < k ∨ i = k) with h | rfl
        · exact HE.out i h
        · exact hE⟩
      obtain ⟨p, hp⟩ : ∃ p, (opv k).1 = p := ⟨_, rfl⟩
      rw [hp] at hy ⊢
      have hE2 : (opv k).2 = 0 := hE
      rw [hE]
      have HEk := Lib.hid hE
      clear hE hp hE2 hJ2
      gi_wp2
      refine hR.mono ?_
      rintro e W3 (⟨rfl, hJ3, hk3⟩ | ⟨rfl, hJx3⟩)
      · have hl3 := HLim.out _ _ hJ3
        simp at hl3
        gi_wp2
        go_roundw
        case rel =>
          refine ⟨k + 1, by omega, by go_num, by rw [List.range_succ]; exact hJ3, HK2.out.trans hk3, ?_⟩
          intro i hi
          rcases (by omega : i < k ∨ i = k) with h | rfl
          · exact HE.out i h
          · exact HEk.out
        case measure => simp only [intOf]; first | omega | (simp [intOf]; omega)
      · gi_wp2
        refine bodyPost_ret (results_none rfl _ _ _) rfl ?_
        exact ⟨⟨_, rfl⟩, .inr ⟨_, ⟨k + 1, by rw [List.range_succ], by omega, fun i hi => by
          rcases (by omega : i < k ∨ i = k) with h | rfl
          · exact HE.out i h
          · exact HEk.out⟩, hJx3⟩⟩
    · have hne : ((opv k).2 != 0) = true := by rw [bne_iff_ne]; exact hE
      have HNE := Lib.hid hE
      clear hE
      gi_wp2
      refine ⟨fun _ h => (by cases h), ?_⟩
      gi_wp2
      refine bodyPost_ret (results_none rfl _ _ _) rfl ?_
      exact ⟨⟨_, rfl⟩, .inl ⟨_, ⟨k, rfl, hk, HE.out, HNE.out⟩, hJ2⟩⟩

end Go.Proofs.Ytepcciodhppbnaa
