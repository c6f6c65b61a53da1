import Derived.Test.YtepcciodhppbnaaE16

namespace Go.Proofs.Ytepcciodhppbnaa
open Go.RowKit

def kindE (k : Int) : Int := if k < 0 ∨ 2 ≤ k then 15 else 0
def rmE (step : Int) (ns : List (Int × Int)) : Int := firstNZ [(mapR ns).2, rngE 1 1000000000000 [step], 0]
/-- One block that is known whole, and what lay. -/
structure OneB (w : World) (g : Nat) (t : TypeId) (cs : Array Value) (W : World) : Prop where
  k : Bk W g t cs
  b : Below w.heap.size w W
theorem OneB.alloc {w W : World} {g : Nat} {t : TypeId} {cs : Array Value} (h : OneB w g t cs W) (o : Obj) : OneB w g t cs (W.alloc o) := ⟨h.k.alloc o, h.b.alloc h.b.size o⟩
theorem OneB.drew {w W : World} {g : Nat} {t : TypeId} {cs : Array Value} (h : OneB w g t cs W) : OneB w g t cs W.drew := ⟨h.k.drew, h.b.drew⟩
theorem OneB.later {w W w' : World} {g : Nat} {t : TypeId} {cs : Array Value} (hb : Below W.heap.size W w') (h : OneB w g t cs W) : OneB w g t cs w' := ⟨h.k.later hb, h.b.trans (hb.mono h.b.size)⟩
theorem OneB.start (w : World) (t : TypeId) (cs : Array Value) : OneB w w.heap.size t cs (w.alloc (.cells cs t)) := ⟨Bk.new _ _ _, below1 _ _⟩
theorem OneB.six {w W : World} {g : Nat} {t : TypeId} {a b c d e f : Value} (h : OneB w g t #[a, b, c, d, e, f] W) : W.cell? ⟨g, 0, none⟩ = some a ∧ W.cell? ⟨g, 1, none⟩ = some b ∧ W.cell? ⟨g, 2, none⟩ = some c ∧ W.cell? ⟨g, 3, none⟩ = some d ∧ W.cell? ⟨g, 4, none⟩ = some e ∧ W.cell? ⟨g, 5, none⟩ = some f := bk6 h.k
theorem OneB.one {w W : World} {g : Nat} {t : TypeId} {a : Value} (h : OneB w g t #[a] W) : W.cell? ⟨g, 0, none⟩ = some a := (bk1 h.k).1
theorem OneB.three {w W : World} {g : Nat} {t : TypeId} {x y z : Int} (h : OneB w g t #[.int .i64 x, .int .i64 y, .int .i64 z] W) : W.cell? ⟨g, 0, none⟩ = some (.int .i64 x) ∧ W.cell? ⟨g, 1, none⟩ = some (.int .i64 y) ∧ W.cell? ⟨g, 2, none⟩ = some (.int .i64 z) := bk3 h.k
theorem rul_bk {w W : World} {k d n q s : Int} {v : Value} (h : Bk W w.heap.size 26 #[.int .i64 k, .int .i64 d, .int .i64 n, .int .i64 q, .int .i64 s, v]) :
    W.cell? ⟨w.heap.size, 0, none⟩ = some (.int .i64 k) ∧ W.cell? ⟨w.heap.size, 1, none⟩ = some (.int .i64 d) ∧ W.cell? ⟨w.heap.size, 2, none⟩ = some (.int .i64 n) ∧ W.cell? ⟨w.heap.size, 3, none⟩ = some (.int .i64 q) ∧ W.cell? ⟨w.heap.size, 4, none⟩ = some (.int .i64 s) ∧ W.cell? ⟨w.heap.size, 5, none⟩ = some v := bk6 h

set_option maxRecDepth 100000 in
set_option maxHeartbeats 2000000 in
theorem rcheckMap_any (k d s : Int) (A : Option Addr) (m c : Nat) (ns : List (Int × Int)) (w : World) (hr : RdN w A m ns) (hm : m ≤ 1000000) :
    Calls Try.prog 70 #[.agg #[.int .i64 k, .int .i64 d, .int .i64 0, .int .i64 0, .int .i64 s, .slice A m c]] w fun e w' => e = .returned (.int .i64 (rmE s ns)) ∧ Below w.heap.size w w' := by
  have CM : Hid (∀ w', Below w.heap.size w w' → Calls Try.prog 45 #[.agg #[.slice A m c]] w' fun e w'' => e = .returned (.tuple #[.int .i64 (mapR ns).1, .int .i64 (mapR ns).2]) ∧ Below w'.heap.size w' w'') := fun w' hb => CheckMap_any A m c ns w' (hr.below hb) hm
  have HE : Hid (rmE s ns = firstNZ [(mapR ns).2, rngE 1 1000000000000 [s], 0]) := rfl
  obtain ⟨⟨i, E⟩, hE⟩ : ∃ p, mapR ns = p := ⟨_, rfl⟩
  rw [hE] at CM HE
  dsimp only at CM HE
  clear hE hr
  have C3 := Lib.hid (fun x y w h1 h2 => from1_any s 1 1000000000000 x y w h1 h2)
  obtain ⟨E2, hE2⟩ : ∃ E, rngE 1 1000000000000 [s] = E := ⟨_, rfl⟩
  rw [hE2] at HE C3
  obtain ⟨F, hF⟩ : ∃ F, firstNZ [E, E2, 0] = F := ⟨_, rfl⟩
  rw [hF] at HE
  have HF := Lib.hid hF
  clear hF hE2
  go_enter Try.func70, Try.ntmps70
  go_wp2_with fail
  refine (CM.out _ (below1 _ _)).mono ?_
  rintro e w1 ⟨rfl, hb1⟩
  have hI := OneB.later hb1 (OneB.start w 26 #[.int .i64 k, .int .i64 d, .int .i64 0, .int .i64 0, .int .i64 s, .slice A m c])
  clear hb1
  obtain ⟨c0, c1, c2, c3, c4, c5⟩ := hI.six
  go_wp2
  go_region_held3 (fun w' : World => (w'.cell? ⟨w.heap.size, 0, none⟩ = some (.int .i64 k) ∧ w'.cell? ⟨w.heap.size, 1, none⟩ = some (.int .i64 d) ∧ w'.cell? ⟨w.heap.size, 2, none⟩ = some (.int .i64 0) ∧ w'.cell? ⟨w.heap.size, 3, none⟩ = some (.int .i64 0) ∧ w'.cell? ⟨w.heap.size, 4, none⟩ = some (.int .i64 s) ∧ w'.cell? ⟨w.heap.size, 5, none⟩ = some (.slice A m c)) ∧ OneB w w.heap.size 26 #[(.int .i64 k), (.int .i64 d), (.int .i64 0), (.int .i64 0), (.int .i64 s), (.slice A m c)] w') ((refine (fun hI => ⟨OneB.six hI, hI⟩) ?_; repeat (first | assumption | refine OneB.drew ?_ | refine OneB.alloc ?_ _))) (first
    | (go_at_call 63; refine (from_any _ _ _).mono ?_; rintro e w' ⟨rfl, rfl⟩)
    | (go_at_call 117; refine (C3.out _ _ _ ?_ ?_).mono ?_; (focus (simp [go_sem])); (focus (simp [go_sem])); rintro e w' ⟨rfl, rfl⟩)
    | (go_at_call 68; refine (when_any _ _ _).mono ?_; rintro e w' ⟨rfl, rfl⟩)
    | (go_at_call 62; refine (firstError3 HF.out _ _ ?_ ?_ ?_).mono ?_; (focus (simp [go_sem])); (focus (simp [go_sem])); (focus (simp [go_sem])); rintro e w' ⟨rfl, rfl⟩))
  all_goals
    go_wp2
    go_ret
    refine ⟨retI HE.out.symm, ?_⟩
    have := hI.b
    have := this.size
    go_grown

def ratE (n q : Int) : Int := firstNZ [rngE 1 1000 [n, q], 0]
set_option maxRecDepth 100000 in
set_option maxHeartbeats 2000000 in
theorem rcheckRatio_any (k d n q : Int) (A : Option Addr) (c : Nat) (w : World) :
    Calls Try.prog 69 #[.agg #[.int .i64 k, .int .i64 d, .int .i64 n, .int .i64 q, .int .i64 0, .slice A 0 c]] w fun e w' => e = .returned (.int .i64 (ratE n q)) ∧ Below w.heap.size w w' := by
  have HE : Hid (ratE n q = firstNZ [rngE 1 1000 [n, q], 0]) := rfl
  obtain ⟨F, hF⟩ : ∃ F, firstNZ [rngE 1 1000 [n, q], 0] = F := ⟨_, rfl⟩
  rw [hF] at HE
  have HF := Lib.hid hF
  clear hF
  go_enter Try.func69, Try.ntmps69
  go_wp2
  have hI := OneB.start w 26 #[.int .i64 k, .int .i64 d, .int .i64 n, .int .i64 q, .int .i64 0, .slice A 0 c]
  go_region_held3 (fun w' : World => (w'.cell? ⟨w.heap.size, 0, none⟩ = some (.int .i64 k) ∧ w'.cell? ⟨w.heap.size, 1, none⟩ = some (.int .i64 d) ∧ w'.cell? ⟨w.heap.size, 2, none⟩ = some (.int .i64 n) ∧ w'.cell? ⟨w.heap.size, 3, none⟩ = some (.int .i64 q) ∧ w'.cell? ⟨w.heap.size, 4, none⟩ = some (.int .i64 0) ∧ w'.cell? ⟨w.heap.size, 5, none⟩ = some (.slice A 0 c)) ∧ OneB w w.heap.size 26 #[(.int .i64 k), (.int .i64 d), (.int .i64 n), (.int .i64 q), (.int .i64 0), (.slice A 0 c)] w') ((refine (fun hI => ⟨OneB.six hI, hI⟩) ?_; repeat (first | assumption | refine OneB.drew ?_ | refine OneB.alloc ?_ _))) (first
    | (go_at_call 63; refine (from_any _ _ _).mono ?_; rintro e w' ⟨rfl, rfl⟩)
    | (go_at_call 124; refine (checkEach_any _ 2 2 [n, q] 1 1000 _ _ _ (lit2 _ _ _ _ ?_ ?_) (by omega) ?_ ?_).mono ?_; (focus (simp [go_sem])); (focus (simp [go_sem])); (focus (simp [go_sem])); (focus (simp [go_sem])); rintro e w' ⟨rfl, rfl⟩)
    | (go_at_call 68; refine (when_any _ _ _).mono ?_; rintro e w' ⟨rfl, rfl⟩)
    | (go_at_call 62; refine (firstError2 HF.out _ _ ?_ ?_).mono ?_; (focus (simp [go_sem])); (focus (simp [go_sem])); rintro e w' ⟨rfl, rfl⟩))
  all_goals
    go_wp2
    go_ret
    refine ⟨retI HE.out.symm, ?_⟩
    have := hI.b
    have := this.size
    go_grown

/-- The error of rules of the two kinds. -/
def rulE0 (d n q : Int) : Int := if degE d = 0 then ratE n q else degE d
def rulE1 (d s : Int) (ns : List (Int × Int)) : Int := if degE d = 0 then rmE s ns else degE d

theorem itpOf_ex (d : Int) : ∃ v0 v1 v2 v3 v4 v5 : Value, (v0.oneCell' = true ∧ v1.oneCell' = true ∧ v2.oneCell' = true ∧ v3.oneCell' = true ∧ v4.oneCell' = true ∧ v5.oneCell' = true) ∧ ∀ w, Calls Try.prog 67 #[.int .i64 d] w fun e w' => e = .returned (.tuple #[.agg #[v0, v1, v2, v3, v4, v5], .int .i64 (degE d)]) ∧ Below w.heap.size w w' := by
  by_cases h1 : d = 1
  · subst h1; exact ⟨_, _, _, _, _, _, ⟨rfl, rfl, rfl, rfl, rfl, rfl⟩, fun w => by rw [degE_of1]; exact itpOf_1 w⟩
  · by_cases h3 : d = 3
    · subst h3; exact ⟨_, _, _, _, _, _, ⟨rfl, rfl, rfl, rfl, rfl, rfl⟩, fun w => by rw [degE_of3]; exact itpOf_3 w⟩
    · exact ⟨_, _, _, _, _, _, ⟨rfl, rfl, rfl, rfl, rfl, rfl⟩, fun w => by rw [degE_no h1 h3]; exact itpOf_no d w h1 h3⟩

end Go.Proofs.Ytepcciodhppbnaa
