import Derived.Test.YtepcciodhppbnaaE17

namespace Go.Proofs.Ytepcciodhppbnaa
open Go.RowKit

set_option maxRecDepth 100000 in
set_option maxHeartbeats 2000000 in
theorem CheckRules01_any (n q : Int) (A : Option Addr) (c : Nat) (w : World) :
    Calls Try.prog 17 #[.agg #[.int .i64 0, .int .i64 1, .int .i64 n, .int .i64 q, .int .i64 0, .slice A 0 c]] w fun e w' => e = .returned (.int .i64 (ratE n q)) ∧ Below w.heap.size w w' := by
  have CX : Hid (∀ w', Below w.heap.size w w' → Calls Try.prog 69 #[.agg #[.int .i64 0, .int .i64 1, .int .i64 n, .int .i64 q, .int .i64 0, .slice A 0 c]] w' fun e w'' => e = .returned (.int .i64 (ratE n q)) ∧ Below w'.heap.size w' w'') := fun w' _ => rcheckRatio_any 0 1 n q A c w'
  obtain ⟨E, hE⟩ : ∃ E, ratE n q = E := ⟨_, rfl⟩
  rw [hE] at CX ⊢
  clear hE
  have C1 := Lib.hid (fun w => itpOf_1 w)
  unfold itp1 at C1
  go_enter Try.func17, Try.ntmps17
  go_wp2_with fail
  refine (C1.out _).mono ?_
  rintro e w1 ⟨rfl, hb1⟩
  have hI := OneB.later hb1 (OneB.start w 26 #[.int .i64 0, .int .i64 1, .int .i64 n, .int .i64 q, .int .i64 0, .slice A 0 c])
  have hlt := hI.k.lt
  have hne : ¬ w.heap.size = w1.heap.size := by omega
  clear hb1
  obtain ⟨c0, c1, c2, c3, c4, c5⟩ := hI.six
  have HI := Lib.hid hI
  clear hI
  go_wp2_with (first
    | (go_at_call 68; refine (when_any _ _ _).mono ?_; rintro e w' ⟨rfl, rfl⟩)
    | (go_at_call 62; refine (firstError2 (E1 := 0) (E2 := 0) (F := 0) rfl _ _ ?_ ?_).mono ?_; (focus (simp [go_sem])); (focus (simp [go_sem])); rintro e w' ⟨rfl, rfl⟩))
  refine (CX.out _ (by have := HI.out.b; have := this.size; go_grown)).mono ?_
  rintro e w2 ⟨rfl, hb2⟩
  have BW : Hid (Below w.heap.size w w2) := by
    have h1 := HI.out.b
    have h2 := h1.size
    have h3 : Below w.heap.size w ((w1.alloc (.cells #[.int .i64 1, .int .i64 0, .int .i64 64, .func (.func 120) #[] #[], .int .i64 8192, .func (.func 121) #[] #[]] 112)).alloc (.cells #[.int .i64 0, .int .i64 0] 30)) := (h1.alloc h2 _).alloc (by simp; omega) _
    exact h3.trans (hb2.mono (by simp; omega))
  clear hb2
  go_wp2
  go_ret
  exact ⟨rfl, BW.out⟩

set_option maxRecDepth 100000 in
set_option maxHeartbeats 2000000 in
theorem CheckRules03_any (n q : Int) (A : Option Addr) (c : Nat) (w : World) :
    Calls Try.prog 17 #[.agg #[.int .i64 0, .int .i64 3, .int .i64 n, .int .i64 q, .int .i64 0, .slice A 0 c]] w fun e w' => e = .returned (.int .i64 (ratE n q)) ∧ Below w.heap.size w w' := by
  have CX : Hid (∀ w', Below w.heap.size w w' → Calls Try.prog 69 #[.agg #[.int .i64 0, .int .i64 3, .int .i64 n, .int .i64 q, .int .i64 0, .slice A 0 c]] w' fun e w'' => e = .returned (.int .i64 (ratE n q)) ∧ Below w'.heap.size w' w'') := fun w' _ => rcheckRatio_any 0 3 n q A c w'
  obtain ⟨E, hE⟩ : ∃ E, ratE n q = E := ⟨_, rfl⟩
  rw [hE] at CX ⊢
  clear hE
  have C1 := Lib.hid (fun w => itpOf_3 w)
  unfold itp3 at C1
  go_enter Try.func17, Try.ntmps17
  go_wp2_with fail
  refine (C1.out _).mono ?_
  rintro e w1 ⟨rfl, hb1⟩
  have hI := OneB.later hb1 (OneB.start w 26 #[.int .i64 0, .int .i64 3, .int .i64 n, .int .i64 q, .int .i64 0, .slice A 0 c])
  have hlt := hI.k.lt
  have hne : ¬ w.heap.size = w1.heap.size := by omega
  clear hb1
  obtain ⟨c0, c1, c2, c3, c4, c5⟩ := hI.six
  have HI := Lib.hid hI
  clear hI
  go_wp2_with (first
    | (go_at_call 68; refine (when_any _ _ _).mono ?_; rintro e w' ⟨rfl, rfl⟩)
    | (go_at_call 62; refine (firstError2 (E1 := 0) (E2 := 0) (F := 0) rfl _ _ ?_ ?_).mono ?_; (focus (simp [go_sem])); (focus (simp [go_sem])); rintro e w' ⟨rfl, rfl⟩))
  refine (CX.out _ (by have := HI.out.b; have := this.size; go_grown)).mono ?_
  rintro e w2 ⟨rfl, hb2⟩
  have BW : Hid (Below w.heap.size w w2) := by
    have h1 := HI.out.b
    have h2 := h1.size
    have h3 : Below w.heap.size w ((w1.alloc (.cells #[.int .i64 3, .int .i64 1, .int .i64 1572864, .func (.func 122) #[] #[], .int .i64 402653184, .func (.func 123) #[] #[]] 112)).alloc (.cells #[.int .i64 0, .int .i64 0] 30)) := (h1.alloc h2 _).alloc (by simp; omega) _
    exact h3.trans (hb2.mono (by simp; omega))
  clear hb2
  go_wp2
  go_ret
  exact ⟨rfl, BW.out⟩

set_option maxRecDepth 100000 in
set_option maxHeartbeats 2000000 in
theorem CheckRules11_any (s : Int) (A : Option Addr) (m c : Nat) (ns : List (Int × Int)) (w : World) (hr : RdN w A m ns) (hm : m ≤ 1000000) :
    Calls Try.prog 17 #[.agg #[.int .i64 1, .int .i64 1, .int .i64 0, .int .i64 0, .int .i64 s, .slice A m c]] w fun e w' => e = .returned (.int .i64 (rmE s ns)) ∧ Below w.heap.size w w' := by
  have CX : Hid (∀ w', Below w.heap.size w w' → Calls Try.prog 70 #[.agg #[.int .i64 1, .int .i64 1, .int .i64 0, .int .i64 0, .int .i64 s, .slice A m c]] w' fun e w'' => e = .returned (.int .i64 (rmE s ns)) ∧ Below w'.heap.size w' w'') := fun w' hb => rcheckMap_any 1 1 s A m c ns w' (hr.below hb) hm
  clear hr
  obtain ⟨E, hE⟩ : ∃ E, rmE s ns = E := ⟨_, rfl⟩
  rw [hE] at CX ⊢
  clear hE
  have C1 := Lib.hid (fun w => itpOf_1 w)
  unfold itp1 at C1
  go_enter Try.func17, Try.ntmps17
  go_wp2_with fail
  refine (C1.out _).mono ?_
  rintro e w1 ⟨rfl, hb1⟩
  have hI := OneB.later hb1 (OneB.start w 26 #[.int .i64 1, .int .i64 1, .int .i64 0, .int .i64 0, .int .i64 s, .slice A m c])
  have hlt := hI.k.lt
  have hne : ¬ w.heap.size = w1.heap.size := by omega
  clear hb1
  obtain ⟨c0, c1, c2, c3, c4, c5⟩ := hI.six
  have HI := Lib.hid hI
  clear hI
  go_wp2_with (first
    | (go_at_call 68; refine (when_any _ _ _).mono ?_; rintro e w' ⟨rfl, rfl⟩)
    | (go_at_call 62; refine (firstError2 (E1 := 0) (E2 := 0) (F := 0) rfl _ _ ?_ ?_).mono ?_; (focus (simp [go_sem])); (focus (simp [go_sem])); rintro e w' ⟨rfl, rfl⟩))
  refine (CX.out _ (by have := HI.out.b; have := this.size; go_grown)).mono ?_
  rintro e w2 ⟨rfl, hb2⟩
  have BW : Hid (Below w.heap.size w w2) := by
    have h1 := HI.out.b
    have h2 := h1.size
    have h3 : Below w.heap.size w ((w1.alloc (.cells #[.int .i64 1, .int .i64 0, .int .i64 64, .func (.func 120) #[] #[], .int .i64 8192, .func (.func 121) #[] #[]] 112)).alloc (.cells #[.int .i64 0, .int .i64 0] 30)) := (h1.alloc h2 _).alloc (by simp; omega) _
    exact h3.trans (hb2.mono (by simp; omega))
  clear hb2
  go_wp2
  go_ret
  exact ⟨rfl, BW.out⟩

set_option maxRecDepth 100000 in
set_option maxHeartbeats 2000000 in
theorem CheckRules13_any (s : Int) (A : Option Addr) (m c : Nat) (ns : List (Int × Int)) (w : World) (hr : RdN w A m ns) (hm : m ≤ 1000000) :
    Calls Try.prog 17 #[.agg #[.int .i64 1, .int .i64 3, .int .i64 0, .int .i64 0, .int .i64 s, .slice A m c]] w fun e w' => e = .returned (.int .i64 (rmE s ns)) ∧ Below w.heap.size w w' := by
  have CX : Hid (∀ w', Below w.heap.size w w' → Calls Try.prog 70 #[.agg #[.int .i64 1, .int .i64 3, .int .i64 0, .int .i64 0, .int .i64 s, .slice A m c]] w' fun e w'' => e = .returned (.int .i64 (rmE s ns)) ∧ Below w'.heap.size w' w'') := fun w' hb => rcheckMap_any 1 3 s A m c ns w' (hr.below hb) hm
  clear hr
  obtain ⟨E, hE⟩ : ∃ E, rmE s ns = E := ⟨_, rfl⟩
  rw [hE] at CX ⊢
  clear hE
  have C1 := Lib.hid (fun w => itpOf_3 w)
  unfold itp3 at C1
  go_enter Try.func17, Try.ntmps17
  go_wp2_with fail
  refine (C1.out _).mono ?_
  rintro e w1 ⟨rfl, hb1⟩
  have hI := OneB.later hb1 (OneB.start w 26 #[.int .i64 1, .int .i64 3, .int .i64 0, .int .i64 0, .int .i64 s, .slice A m c])
  have hlt := hI.k.lt
  have hne : ¬ w.heap.size = w1.heap.size := by omega
  clear hb1
  obtain ⟨c0, c1, c2, c3, c4, c5⟩ := hI.six
  have HI := Lib.hid hI
  clear hI
  go_wp2_with (first
    | (go_at_call 68; refine (when_any _ _ _).mono ?_; rintro e w' ⟨rfl, rfl⟩)
    | (go_at_call 62; refine (firstError2 (E1 := 0) (E2 := 0) (F := 0) rfl _ _ ?_ ?_).mono ?_; (focus (simp [go_sem])); (focus (simp [go_sem])); rintro e w' ⟨rfl, rfl⟩))
  refine (CX.out _ (by have := HI.out.b; have := this.size; go_grown)).mono ?_
  rintro e w2 ⟨rfl, hb2⟩
  have BW : Hid (Below w.heap.size w w2) := by
    have h1 := HI.out.b
    have h2 := h1.size
    have h3 : Below w.heap.size w ((w1.alloc (.cells #[.int .i64 3, .int .i64 1, .int .i64 1572864, .func (.func 122) #[] #[], .int .i64 402653184, .func (.func 123) #[] #[]] 112)).alloc (.cells #[.int .i64 0, .int .i64 0] 30)) := (h1.alloc h2 _).alloc (by simp; omega) _
    exact h3.trans (hb2.mono (by simp; omega))
  clear hb2
  go_wp2
  go_ret
  exact ⟨rfl, BW.out⟩

end Go.Proofs.Ytepcciodhppbnaa
