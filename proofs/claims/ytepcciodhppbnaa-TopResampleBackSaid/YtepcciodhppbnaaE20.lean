import Derived.Test.YtepcciodhppbnaaE19

namespace Go.Proofs.Ytepcciodhppbnaa
open Go.RowKit

theorem OneB.far {w W : World} {g : Nat} {t : TypeId} {cs : Array Value} (h : OneB w g t cs W) (p : Addr) (hp : g ≠ p.block) (hb : w.heap.size ≤ p.block) (v : Value) : OneB w g t cs (W.setCell p v) := ⟨h.k.far p hp v, h.b.setCell hb v⟩
/-- The positions of outputs by a ratio. -/
def opR0 (n q : Int) (k : Nat) : Int × Int := (64 * (k : Int) * n / q, 0)
set_option maxHeartbeats 1000000 in
theorem outPos0_any (d n q : Int) (A : Option Addr) (c : Nat) (k : Nat) (w : World) (hk : k ≤ 1000000) (hn : 1 ≤ n ∧ n ≤ 1000) (hq : 1 ≤ q ∧ q ≤ 1000) :
    Calls Try.prog 119 #[.agg #[.int .i64 0, .int .i64 d, .int .i64 n, .int .i64 q, .int .i64 0, .slice A 0 c], .int .i64 k] w fun e w' => e = .returned (.tuple #[.int .i64 (opR0 n q k).1, .int .i64 (opR0 n q k).2]) ∧ Below w.heap.size w w' := by
  have hm := mulB (a := 64 * (k : Int)) (b := n) 64000000 1000 (by omega) (by omega) (by omega) (by omega) 64000000000 (by omega)
  have h1 : IntKind.i64.wrap (64 * (k : Int)) = 64 * (k : Int) := IntWalk.i64_in _ (by omega)
  have h2 : IntKind.i64.wrap (64 * (k : Int) * n) = 64 * (k : Int) * n := IntWalk.i64_in _ (by omega)
  have hp : 0 ≤ 64 * (k : Int) * n := Int.mul_nonneg (by omega) (by omega)
  have HO : Hid (opR0 n q k = (64 * (k : Int) * n / q, 0)) := rfl
  obtain ⟨p, hpp⟩ : ∃ p, 64 * (k : Int) * n = p := ⟨_, rfl⟩
  have h3 : IntKind.i64.wrap (64 * (k : Int) * n) = p := by rw [← hpp]; exact h2
  rw [hpp] at HO hp hm
  clear h2 hpp
  have hq0 : ¬ q = 0 := by omega
  have hq1 : (q == 0) = false := by rw [beq_eq_false_iff_ne]; omega
  have hb := ediv_bd p q (by omega) (by omega)
  go_enter Try.func119, Try.ntmps119
  go_wp2
  refine bodyPost_ret (v := .tuple #[.int .i64 (p / q), .int .i64 0]) (by simp [results, Try.results119, go_sem]) rfl ⟨by rw [HO.out], by go_grown⟩

/-- .. and by a map. -/
def opR1 (s : Int) (ns : List (Int × Int)) (k : Nat) : Int × Int := ((posR ((ns.getD 0 (0, 0)).2 + (k : Int) * s) ns).1, (posR ((ns.getD 0 (0, 0)).2 + (k : Int) * s) ns).2.2)
set_option maxRecDepth 100000 in
set_option maxHeartbeats 2000000 in
theorem outPos1_any (d s : Int) (A : Option Addr) (m c : Nat) (ns : List (Int × Int)) (k : Nat) (w : World) (hr : RdN w A m ns) (hm : 0 < m ∧ m ≤ 1000000) (hk : k ≤ 1000000) (hs : 0 ≤ s ∧ s ≤ 1000000000000) (ht : 0 ≤ (ns.getD 0 (0, 0)).2 ∧ (ns.getD 0 (0, 0)).2 ≤ 1000000000000) :
    Calls Try.prog 119 #[.agg #[.int .i64 1, .int .i64 d, .int .i64 0, .int .i64 0, .int .i64 s, .slice A m c], .int .i64 k] w fun e w' => e = .returned (.tuple #[.int .i64 (opR1 s ns k).1, .int .i64 (opR1 s ns k).2]) ∧ Below w.heap.size w w' := by
  obtain ⟨g, rfl, hgl, hcs⟩ := hr.2 hm.1
  obtain ⟨_, hc1⟩ := hcs 0 hm.1
  rw [Nat.zero_mul, Nat.zero_add] at hc1
  clear hcs
  have HO : Hid (opR1 s ns k = ((posR ((ns.getD 0 (0, 0)).2 + (k : Int) * s) ns).1, (posR ((ns.getD 0 (0, 0)).2 + (k : Int) * s) ns).2.2)) := rfl
  have CP : Hid (∀ w' t, Below w.heap.size w w' → Calls Try.prog 46 #[.agg #[.slice (some ⟨g, 0, none⟩) m c], .int .i64 t] w' (PosRes t ns w')) := fun w' t hb => PositionAt_any _ m c ns t w' (hr.below hb) hm.2
  clear hr
  obtain ⟨t0, ht0⟩ : ∃ t, (ns.getD 0 (0, 0)).2 = t := ⟨_, rfl⟩
  rw [ht0] at ht hc1 HO
  have HT0 := Lib.hid hc1
  clear ht0 hc1
  have hmu := mulB (a := (k : Int)) (b := s) 1000000 1000000000000 (by omega) (by omega) (by omega) (by omega) 1000000000000000000 (by omega)
  have h1 : IntKind.i64.wrap ((k : Int) * s) = (k : Int) * s := IntWalk.i64_in _ (by omega)
  have h2 : IntKind.i64.wrap (t0 + (k : Int) * s) = t0 + (k : Int) * s := IntWalk.i64_in _ (by omega)
  obtain ⟨t, htt⟩ : ∃ t, t0 + (k : Int) * s = t := ⟨_, rfl⟩
  have h3 : IntKind.i64.wrap (t0 + (k : Int) * s) = t := by rw [← htt]; exact h2
  rw [htt] at HO
  have CPt := Lib.hid (fun w' hb => CP.out w' t hb)
  clear h2 htt CP
  obtain ⟨⟨lo, hi, er⟩, hpr⟩ : ∃ p, posR t ns = p := ⟨_, rfl⟩
  rw [hpr] at HO
  have HPR := Lib.hid hpr
  clear hpr
  have hm0 : (0 : Int) < (m : Int) := by omega
  have hm0N : 0 < m := hm.1
  go_enter Try.func119, Try.ntmps119
  go_wp2
  have hI := OneB.start w 26 #[.int .i64 1, .int .i64 d, .int .i64 0, .int .i64 0, .int .i64 s, .slice (some ⟨g, 0, none⟩) m c]
  obtain ⟨W, hW⟩ : ∃ W, w.alloc (.cells #[.int .i64 1, .int .i64 d, .int .i64 0, .int .i64 0, .int .i64 s, .slice (some ⟨g, 0, none⟩) m c] 26) = W := ⟨_, rfl⟩
  rw [hW] at hI ⊢
  clear hW
  have hgs : w.heap.size < W.heap.size := hI.k.lt
  have hgW : W.cell? ⟨g, 1, none⟩ = some (.int .i64 t0) := (hI.b.cell (p := ⟨g, 1, none⟩) hgl).trans HT0.out
  go_region_held3 (fun w' : World => ((w'.cell? ⟨w.heap.size, 0, none⟩ = some (.int .i64 1) ∧ w'.cell? ⟨w.heap.size, 1, none⟩ = some (.int .i64 d) ∧ w'.cell? ⟨w.heap.size, 2, none⟩ = some (.int .i64 0) ∧ w'.cell? ⟨w.heap.size, 3, none⟩ = some (.int .i64 0) ∧ w'.cell? ⟨w.heap.size, 4, none⟩ = some (.int .i64 s) ∧ w'.cell? ⟨w.heap.size, 5, none⟩ = some (.slice (some ⟨g, 0, none⟩) m c)) ∧ w'.cell? ⟨g, 1, none⟩ = some (.int .i64 t0)) ∧ OneB w w.heap.size 26 #[.int .i64 1, .int .i64 d, .int .i64 0, .int .i64 0, .int .i64 s, .slice (some ⟨g, 0, none⟩) m c] w') ((refine (fun hI => ⟨⟨OneB.six hI, (hI.b.cell (p := ⟨g, 1, none⟩) hgl).trans HT0.out⟩, hI⟩) ?_; repeat (first | assumption | refine OneB.drew ?_ | refine OneB.alloc ?_ _ | refine OneB.far ?_ _ (by dsimp only; omega) (by dsimp only; omega) _)))
    ((go_at_call 46; refine (CPt.out _ (OneB.b (g := w.heap.size) (t := 26) (cs := #[.int .i64 1, .int .i64 d, .int .i64 0, .int .i64 0, .int .i64 s, .slice (some ⟨g, 0, none⟩) m c]) ?_)).mono ?_; (focus (repeat (first | assumption | refine OneB.drew ?_ | refine OneB.alloc ?_ _))); rintro e w3 ⟨hre, hb3⟩; rw [HPR.out] at hre; subst hre; have hI3 : OneB w w.heap.size 26 #[.int .i64 1, .int .i64 d, .int .i64 0, .int .i64 0, .int .i64 s, .slice (some ⟨g, 0, none⟩) m c] w3 := OneB.later hb3 (by repeat (first | assumption | refine OneB.drew ?_ | refine OneB.alloc ?_ _)); have hl3 := hI3.k.lt; (first | (have kR := Bk.later (Bk.drew (Bk.new W 72 #[.int .i64 0, .int .i64 0])) hb3; have kq := bk2 kR; obtain ⟨e0, e1, k0, k1⟩ := kq) | skip)))
  all_goals
    go_wp2
    refine bodyPost_ret (v := .tuple #[.int .i64 lo, .int .i64 er]) (by simp [results, Try.results119, go_sem]) rfl ⟨by rw [HO.out], ?_⟩
    have := hI3.b
    have := this.size
    go_grown

end Go.Proofs.Ytepcciodhppbnaa
