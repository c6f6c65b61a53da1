import Derived.Test.YtjjflbnopphciacGreatDoorRsah
import Derived.Test.YtjjflbnopphciacGreatDoorRsae
import Derived.Test.YtjjflbnopphciacGreatDoorRsaf

namespace Go.Proofs.YtjjflbnopphciacGreatDoor
open Go.RowKit

def ratC (n q s : Int) (m : Nat) : Int := firstNZ [rngE 1 1000 [n, q], if s ≠ 0 ∨ 0 < m then 3 else 0]
def mpC (n q s : Int) (ns : List (Int × Int)) : Int := firstNZ [(mapR ns).2, rngE 1 1000000000000 [s], if n ≠ 0 ∨ q ≠ 0 then 3 else 0]
/-- The error of rules. -/
def rulC (k d n q s : Int) (m : Nat) (ns : List (Int × Int)) : Int :=
  if k < 0 ∨ 2 ≤ k then 15 else if degE d = 0 then (if k = 0 then ratC n q s m else mpC n q s ns) else degE d
set_option maxRecDepth 100000 in
set_option maxHeartbeats 4000000 in
theorem rcheckRatio_all (k d n q s : Int) (A : Option Addr) (m c : Nat) (w : World) (hm : m ≤ 1000000) :
    Calls Tryz.prog 66 #[.agg #[.int .i64 k, .int .i64 d, .int .i64 n, .int .i64 q, .int .i64 s, .slice A m c]] w fun e w' => e = .returned (.int .i64 (ratC n q s m)) ∧ Below w.heap.size w w' := by
  by_cases hs : s = 0
  · by_cases hm0 : m = 0
    · subst hs; subst hm0
      have := rcheckRatio_any k d n q A c w
      have e : ratC n q 0 0 = ratE n q := by unfold ratC ratE; rw [if_neg (by simp)]
      rw [e]; exact this
    · subst hs
      have HE : Hid (ratC n q 0 m = firstNZ [rngE 1 1000 [n, q], 3]) := Lib.hid (by unfold ratC; rw [if_pos (.inr (by omega))])
      obtain ⟨F, hF⟩ : ∃ F, firstNZ [rngE 1 1000 [n, q], 3] = F := ⟨_, rfl⟩
      rw [hF] at HE
      have HF := Lib.hid hF
      have hmI : (0 : Int) < (m : Int) := by omega
      have hmN : 0 < m := by omega
      have CW := Lib.hid (fun W => when_any true 3 W)
      rw [if_pos rfl] at CW
      clear hF
      go_enter Tryz.func66, Tryz.ntmps66
      go_wp2
      have hI := OneB.start w 26 #[.int .i64 k, .int .i64 d, .int .i64 n, .int .i64 q, .int .i64 0, .slice A m c]
      go_region_held3 (fun w' : World => (w'.cell? ⟨w.heap.size, 0, none⟩ = some (.int .i64 k) ∧ w'.cell? ⟨w.heap.size, 1, none⟩ = some (.int .i64 d) ∧ w'.cell? ⟨w.heap.size, 2, none⟩ = some (.int .i64 n) ∧ w'.cell? ⟨w.heap.size, 3, none⟩ = some (.int .i64 q) ∧ w'.cell? ⟨w.heap.size, 4, none⟩ = some (.int .i64 0) ∧ w'.cell? ⟨w.heap.size, 5, none⟩ = some (.slice A m c)) ∧ OneB w w.heap.size 26 #[(.int .i64 k), (.int .i64 d), (.int .i64 n), (.int .i64 q), (.int .i64 0), (.slice A m c)] w') ((refine (fun hI => ⟨OneB.six hI, hI⟩) ?_; repeat (first | assumption | refine OneB.drew ?_ | refine OneB.alloc ?_ _))) (first
        | (go_at_call 49; refine (from_any _ _ _).mono ?_; rintro e w' ⟨rfl, rfl⟩)
        | (go_at_call 71; refine (checkEach_any _ 2 2 [n, q] 1 1000 _ _ _ (lit2 _ _ _ _ ?_ ?_) (by omega) ?_ ?_).mono ?_; (focus (simp [go_sem])); (focus (simp [go_sem])); (focus (simp [go_sem])); (focus (simp [go_sem])); rintro e w' ⟨rfl, rfl⟩)
        | (go_at_call 65; refine (CW.out _).mono ?_; rintro e w' ⟨rfl, rfl⟩)
        | (go_at_call 33; refine (firstError2 HF.out _ _ ?_ ?_).mono ?_; (focus (simp [go_sem])); (focus (simp [go_sem])); rintro e w' ⟨rfl, rfl⟩))
      all_goals
        go_wp2
        go_ret
        refine ⟨retI HE.out.symm, ?_⟩
        have := hI.b
        have := this.size
        go_grown
  · have HE : Hid (ratC n q s m = firstNZ [rngE 1 1000 [n, q], 3]) := Lib.hid (by unfold ratC; rw [if_pos (.inl hs)])
    obtain ⟨F, hF⟩ : ∃ F, firstNZ [rngE 1 1000 [n, q], 3] = F := ⟨_, rfl⟩
    rw [hF] at HE
    have HF := Lib.hid hF
    have hs1 : (s != 0) = true := neT hs
    have CW := Lib.hid (fun W => when_any true 3 W)
    rw [if_pos rfl] at CW
    clear hF hs
    go_enter Tryz.func66, Tryz.ntmps66
    go_wp2
    have hI := OneB.start w 26 #[.int .i64 k, .int .i64 d, .int .i64 n, .int .i64 q, .int .i64 s, .slice A m c]
    refine wp_region_held_drew (S := (fun w' : World => (w'.cell? ⟨w.heap.size, 0, none⟩ = some (.int .i64 k) ∧ w'.cell? ⟨w.heap.size, 1, none⟩ = some (.int .i64 d) ∧ w'.cell? ⟨w.heap.size, 2, none⟩ = some (.int .i64 n) ∧ w'.cell? ⟨w.heap.size, 3, none⟩ = some (.int .i64 q) ∧ w'.cell? ⟨w.heap.size, 4, none⟩ = some (.int .i64 s) ∧ w'.cell? ⟨w.heap.size, 5, none⟩ = some (.slice A m c)) ∧ OneB w w.heap.size 26 #[(.int .i64 k), (.int .i64 d), (.int .i64 n), (.int .i64 q), (.int .i64 s), (.slice A m c)] w')) (by kernel_rfl) ?_ ?_
    · ((refine (fun hI => ⟨OneB.six hI, hI⟩) ?_; repeat (first | assumption | refine OneB.drew ?_ | refine OneB.alloc ?_ _)))
    intro hHeld
    refine wpAnyH_take (i := 0) (v := ?_) rfl (by kernel_rfl) (by kernel_rfl) (by kernel_rfl) (fun _ _ _ h => h) (Or.inl ⟨by rfl, ?_⟩) (by assumption) ?_
    rotate_left
    · intro w hSw; (try dsimp only at hSw); go_simp; (try (with_reducible rfl))
    try simp only [List.getElem_toArray, List.getElem_cons_succ, List.getElem_cons_zero, Act.put, List.setIfInBounds_toArray, List.set_cons_zero, List.set_cons_succ]
    refine wpAnyH_take (i := 1) (v := ?_) rfl (by kernel_rfl) (by kernel_rfl) (by kernel_rfl) (fun _ _ _ h => h) (Or.inl ⟨by rfl, ?_⟩) (by assumption) ?_
    rotate_left
    · intro w hSw; (try dsimp only at hSw); go_simp; (try (with_reducible rfl))
    try simp only [List.getElem_toArray, List.getElem_cons_succ, List.getElem_cons_zero, Act.put, List.setIfInBounds_toArray, List.set_cons_zero, List.set_cons_succ]
    refine wpAnyH_take (i := 2) (v := ?_) rfl (by kernel_rfl) (by kernel_rfl) (by kernel_rfl) (fun _ _ _ h => h) (Or.inl ⟨by rfl, ?_⟩) (by assumption) ?_
    rotate_left
    · intro w hSw; (try dsimp only at hSw); go_simp; (try (with_reducible rfl))
    try simp only [List.getElem_toArray, List.getElem_cons_succ, List.getElem_cons_zero, Act.put, List.setIfInBounds_toArray, List.set_cons_zero, List.set_cons_succ]
    refine wpAnyH_take (i := 3) (v := ?_) rfl (by kernel_rfl) (by kernel_rfl) (by kernel_rfl) (fun _ _ _ h => h) (Or.inl ⟨by rfl, ?_⟩) (by assumption) ?_
    rotate_left
    · intro w hSw; (try dsimp only at hSw); go_simp; (try (with_reducible rfl))
    try simp only [List.getElem_toArray, List.getElem_cons_succ, List.getElem_cons_zero, Act.put, List.setIfInBounds_toArray, List.set_cons_zero, List.set_cons_succ]
    refine wpAnyH_take (i := 7) (v := ?_) rfl (by kernel_rfl) (by kernel_rfl) (by kernel_rfl) (fun _ _ _ h => h) (Or.inl ⟨by rfl, ?_⟩) (by assumption) ?_
    rotate_left
    · intro w hSw; (try dsimp only at hSw); go_simp; (try (with_reducible rfl))
    try simp only [List.getElem_toArray, List.getElem_cons_succ, List.getElem_cons_zero, Act.put, List.setIfInBounds_toArray, List.set_cons_zero, List.set_cons_succ]
    refine wpAnyH_take (i := 8) (v := ?_) rfl (by kernel_rfl) (by kernel_rfl) (by kernel_rfl) (fun _ _ _ h => h) (Or.inl ⟨by rfl, ?_⟩) (by assumption) ?_
    rotate_left
    · intro w hSw; (try dsimp only at hSw); go_simp; (try (with_reducible rfl))
    try simp only [List.getElem_toArray, List.getElem_cons_succ, List.getElem_cons_zero, Act.put, List.setIfInBounds_toArray, List.set_cons_zero, List.set_cons_succ]
    refine wpAnyH_take (i := 9) (v := ?_) rfl (by kernel_rfl) (by kernel_rfl) (by kernel_rfl) (fun _ _ _ h => h) (Or.inl ⟨by rfl, ?_⟩) (by assumption) ?_
    rotate_left
    · intro w hSw; (try dsimp only at hSw); go_simp; (try (with_reducible rfl))
    try simp only [List.getElem_toArray, List.getElem_cons_succ, List.getElem_cons_zero, Act.put, List.setIfInBounds_toArray, List.set_cons_zero, List.set_cons_succ]
    refine wpAnyH_ready (rs := [4, 5]) (by kernel_rfl) (by simp) ?_
    refine AllReadyH.cons rfl (fun K hK => ?_) (AllReadyH.cons rfl (fun K hK => ?_) AllReadyH.nil)
    · go_simp
      refine hK.out _ _ ?_ (fun hHeld => ?_)
      · clear hK K; ((refine (fun hI => ⟨OneB.six hI, hI⟩) ?_; repeat (first | assumption | refine OneB.drew ?_ | refine OneB.alloc ?_ _)))
      clear hK K
      try simp only [List.getElem_toArray, List.getElem_cons_succ, List.getElem_cons_zero, Act.put, List.setIfInBounds_toArray, List.set_cons_zero, List.set_cons_succ]
      refine wpAnyH_ready (rs := [5]) (by kernel_rfl) (by simp) ?_
      refine AllReadyH.cons rfl (fun K hK => ?_) AllReadyH.nil
      go_simp
      (go_at_call 49; refine (from_any _ _ _).mono ?_; rintro e w' ⟨rfl, rfl⟩)
      go_wp2_with fail
      refine hK.out _ _ ?_ (fun hHeld => ?_)
      · clear hK K; ((refine (fun hI => ⟨OneB.six hI, hI⟩) ?_; repeat (first | assumption | refine OneB.drew ?_ | refine OneB.alloc ?_ _)))
      clear hK K
      try simp only [List.getElem_toArray, List.getElem_cons_succ, List.getElem_cons_zero, Act.put, List.setIfInBounds_toArray, List.set_cons_zero, List.set_cons_succ]
      refine wpAnyH_ready (rs := [6]) (by kernel_rfl) (by simp) ?_
      refine AllReadyH.cons rfl (fun K hK => ?_) AllReadyH.nil
      go_simp
      (go_at_call 71; refine (checkEach_any _ 2 2 [n, q] 1 1000 _ _ _ (lit2 _ _ _ _ ?_ ?_) (by omega) ?_ ?_).mono ?_; (focus (simp [go_sem])); (focus (simp [go_sem])); (focus (simp [go_sem])); (focus (simp [go_sem])); rintro e w' ⟨rfl, rfl⟩)
      go_wp2_with fail
      refine hK.out _ _ ?_ (fun hHeld => ?_)
      · clear hK K; ((refine (fun hI => ⟨OneB.six hI, hI⟩) ?_; repeat (first | assumption | refine OneB.drew ?_ | refine OneB.alloc ?_ _)))
      clear hK K
      try simp only [List.getElem_toArray, List.getElem_cons_succ, List.getElem_cons_zero, Act.put, List.setIfInBounds_toArray, List.set_cons_zero, List.set_cons_succ]
      refine wpAnyH_take (i := 10) (v := ?_) rfl (by kernel_rfl) (by kernel_rfl) (by kernel_rfl) (fun _ _ _ h => h) (Or.inl ⟨by rfl, ?_⟩) (by assumption) ?_
      rotate_left
      · intro w hSw; (try dsimp only at hSw); go_simp; (try (with_reducible rfl))
      try simp only [List.getElem_toArray, List.getElem_cons_succ, List.getElem_cons_zero, Act.put, List.setIfInBounds_toArray, List.set_cons_zero, List.set_cons_succ]
      refine wpAnyH_take (i := 11) (v := undef) rfl (by kernel_rfl) (by kernel_rfl) (by kernel_rfl) (fun _ _ _ h => h) (Or.inr ⟨by rfl, rfl⟩) (by assumption) ?_
      try simp only [List.getElem_toArray, List.getElem_cons_succ, List.getElem_cons_zero, Act.put, List.setIfInBounds_toArray, List.set_cons_zero, List.set_cons_succ]
      refine wpAnyH_take (i := 12) (v := undef) rfl (by kernel_rfl) (by kernel_rfl) (by kernel_rfl) (fun _ _ _ h => h) (Or.inr ⟨by rfl, rfl⟩) (by assumption) ?_
      try simp only [List.getElem_toArray, List.getElem_cons_succ, List.getElem_cons_zero, Act.put, List.setIfInBounds_toArray, List.set_cons_zero, List.set_cons_succ]
      refine wpAnyH_take (i := 13) (v := undef) rfl (by kernel_rfl) (by kernel_rfl) (by kernel_rfl) (fun _ _ _ h => h) (Or.inr ⟨by rfl, rfl⟩) (by assumption) ?_
      try simp only [List.getElem_toArray, List.getElem_cons_succ, List.getElem_cons_zero, Act.put, List.setIfInBounds_toArray, List.set_cons_zero, List.set_cons_succ]
      refine wpAnyH_take (i := 14) (v := undef) rfl (by kernel_rfl) (by kernel_rfl) (by kernel_rfl) (fun _ _ _ h => h) (Or.inr ⟨by rfl, rfl⟩) (by assumption) ?_
      try simp only [List.getElem_toArray, List.getElem_cons_succ, List.getElem_cons_zero, Act.put, List.setIfInBounds_toArray, List.set_cons_zero, List.set_cons_succ]
      refine wpAnyH_take (i := 15) (v := undef) rfl (by kernel_rfl) (by kernel_rfl) (by kernel_rfl) (fun _ _ _ h => h) (Or.inr ⟨by rfl, rfl⟩) (by assumption) ?_
      try simp only [List.getElem_toArray, List.getElem_cons_succ, List.getElem_cons_zero, Act.put, List.setIfInBounds_toArray, List.set_cons_zero, List.set_cons_succ]
      refine wpAnyH_take (i := 16) (v := ?_) rfl (by kernel_rfl) (by kernel_rfl) (by kernel_rfl) (fun _ _ _ h => h) (Or.inl ⟨by rfl, ?_⟩) (by assumption) ?_
      rotate_left
      · intro w hSw; (try dsimp only at hSw); go_simp; (try (with_reducible rfl))
      try simp only [List.getElem_toArray, List.getElem_cons_succ, List.getElem_cons_zero, Act.put, List.setIfInBounds_toArray, List.set_cons_zero, List.set_cons_succ]
      refine wpAnyH_ready (rs := [17]) (by kernel_rfl) (by simp) ?_
      refine AllReadyH.cons rfl (fun K hK => ?_) AllReadyH.nil
      go_simp
      (go_at_call 65; refine (CW.out _).mono ?_; rintro e w' ⟨rfl, rfl⟩)
      go_wp2_with fail
      refine hK.out _ _ ?_ (fun hHeld => ?_)
      · clear hK K; ((refine (fun hI => ⟨OneB.six hI, hI⟩) ?_; repeat (first | assumption | refine OneB.drew ?_ | refine OneB.alloc ?_ _)))
      clear hK K
      try simp only [List.getElem_toArray, List.getElem_cons_succ, List.getElem_cons_zero, Act.put, List.setIfInBounds_toArray, List.set_cons_zero, List.set_cons_succ]
      refine wpAnyH_ready (rs := [18]) (by kernel_rfl) (by simp) ?_
      refine AllReadyH.cons rfl (fun K hK => ?_) AllReadyH.nil
      go_simp
      refine hK.out _ _ ?_ (fun hHeld => ?_)
      · clear hK K; ((refine (fun hI => ⟨OneB.six hI, hI⟩) ?_; repeat (first | assumption | refine OneB.drew ?_ | refine OneB.alloc ?_ _)))
      clear hK K
      try simp only [List.getElem_toArray, List.getElem_cons_succ, List.getElem_cons_zero, Act.put, List.setIfInBounds_toArray, List.set_cons_zero, List.set_cons_succ]
      refine wpAnyH_ready (rs := [19]) (by kernel_rfl) (by simp) ?_
      refine AllReadyH.cons rfl (fun K hK => ?_) AllReadyH.nil
      go_simp
      (go_at_call 33; refine (firstError2 HF.out _ _ ?_ ?_).mono ?_; (focus (simp [go_sem])); (focus (simp [go_sem])); rintro e w' ⟨rfl, rfl⟩)
      go_wp2_with fail
      refine hK.out _ _ ?_ (fun hHeld => ?_)
      · clear hK K; ((refine (fun hI => ⟨OneB.six hI, hI⟩) ?_; repeat (first | assumption | refine OneB.drew ?_ | refine OneB.alloc ?_ _)))
      clear hK K
      try simp only [List.getElem_toArray, List.getElem_cons_succ, List.getElem_cons_zero, Act.put, List.setIfInBounds_toArray, List.set_cons_zero, List.set_cons_succ]
      refine wpAnyH_take (i := 20) (v := ?_) rfl (by kernel_rfl) (by kernel_rfl) (by kernel_rfl) (fun _ _ _ h => h) (Or.inl ⟨by rfl, ?_⟩) (by assumption) ?_
      rotate_left
      · intro w hSw; (try dsimp only at hSw); go_simp; (try (with_reducible rfl))
      try simp only [List.getElem_toArray, List.getElem_cons_succ, List.getElem_cons_zero, Act.put, List.setIfInBounds_toArray, List.set_cons_zero, List.set_cons_succ]
      refine wpAnyH_done (by kernel_rfl) ?_ _
      go_wp2
      go_ret
      refine ⟨retI HE.out.symm, ?_⟩
      have := hI.b
      have := this.size
      go_grown
    · go_simp
      (go_at_call 49; refine (from_any _ _ _).mono ?_; rintro e w' ⟨rfl, rfl⟩)
      go_wp2_with fail
      refine hK.out _ _ ?_ (fun hHeld => ?_)
      · clear hK K; ((refine (fun hI => ⟨OneB.six hI, hI⟩) ?_; repeat (first | assumption | refine OneB.drew ?_ | refine OneB.alloc ?_ _)))
      clear hK K
      try simp only [List.getElem_toArray, List.getElem_cons_succ, List.getElem_cons_zero, Act.put, List.setIfInBounds_toArray, List.set_cons_zero, List.set_cons_succ]
      refine wpAnyH_ready (rs := [4]) (by kernel_rfl) (by simp) ?_
      refine AllReadyH.cons rfl (fun K hK => ?_) AllReadyH.nil
      go_simp
      refine hK.out _ _ ?_ (fun hHeld => ?_)
      · clear hK K; ((refine (fun hI => ⟨OneB.six hI, hI⟩) ?_; repeat (first | assumption | refine OneB.drew ?_ | refine OneB.alloc ?_ _)))
      clear hK K
      try simp only [List.getElem_toArray, List.getElem_cons_succ, List.getElem_cons_zero, Act.put, List.setIfInBounds_toArray, List.set_cons_zero, List.set_cons_succ]
      refine wpAnyH_ready (rs := [6]) (by kernel_rfl) (by simp) ?_
      refine AllReadyH.cons rfl (fun K hK => ?_) AllReadyH.nil
      go_simp
      (go_at_call 71; refine (checkEach_any _ 2 2 [n, q] 1 1000 _ _ _ (lit2 _ _ _ _ ?_ ?_) (by omega) ?_ ?_).mono ?_; (focus (simp [go_sem])); (focus (simp [go_sem])); (focus (simp [go_sem])); (focus (simp [go_sem])); rintro e w' ⟨rfl, rfl⟩)
      go_wp2_with fail
      refine hK.out _ _ ?_ (fun hHeld => ?_)
      · clear hK K; ((refine (fun hI => ⟨OneB.six hI, hI⟩) ?_; repeat (first | assumption | refine OneB.drew ?_ | refine OneB.alloc ?_ _)))
      clear hK K
      try simp only [List.getElem_toArray, List.getElem_cons_succ, List.getElem_cons_zero, Act.put, List.setIfInBounds_toArray, List.set_cons_zero, List.set_cons_succ]
      refine wpAnyH_take (i := 10) (v := ?_) rfl (by kernel_rfl) (by kernel_rfl) (by kernel_rfl) (fun _ _ _ h => h) (Or.inl ⟨by rfl, ?_⟩) (by assumption) ?_
      rotate_left
      · intro w hSw; (try dsimp only at hSw); go_simp; (try (with_reducible rfl))
      try simp only [List.getElem_toArray, List.getElem_cons_succ, List.getElem_cons_zero, Act.put, List.setIfInBounds_toArray, List.set_cons_zero, List.set_cons_succ]
      refine wpAnyH_take (i := 11) (v := undef) rfl (by kernel_rfl) (by kernel_rfl) (by kernel_rfl) (fun _ _ _ h => h) (Or.inr ⟨by rfl, rfl⟩) (by assumption) ?_
      try simp only [List.getElem_toArray, List.getElem_cons_succ, List.getElem_cons_zero, Act.put, List.setIfInBounds_toArray, List.set_cons_zero, List.set_cons_succ]
      refine wpAnyH_take (i := 12) (v := undef) rfl (by kernel_rfl) (by kernel_rfl) (by kernel_rfl) (fun _ _ _ h => h) (Or.inr ⟨by rfl, rfl⟩) (by assumption) ?_
      try simp only [List.getElem_toArray, List.getElem_cons_succ, List.getElem_cons_zero, Act.put, List.setIfInBounds_toArray, List.set_cons_zero, List.set_cons_succ]
      refine wpAnyH_take (i := 13) (v := undef) rfl (by kernel_rfl) (by kernel_rfl) (by kernel_rfl) (fun _ _ _ h => h) (Or.inr ⟨by rfl, rfl⟩) (by assumption) ?_
      try simp only [List.getElem_toArray, List.getElem_cons_succ, List.getElem_cons_zero, Act.put, List.setIfInBounds_toArray, List.set_cons_zero, List.set_cons_succ]
      refine wpAnyH_take (i := 14) (v := undef) rfl (by kernel_rfl) (by kernel_rfl) (by kernel_rfl) (fun _ _ _ h => h) (Or.inr ⟨by rfl, rfl⟩) (by assumption) ?_
      try simp only [List.getElem_toArray, List.getElem_cons_succ, List.getElem_cons_zero, Act.put, List.setIfInBounds_toArray, List.set_cons_zero, List.set_cons_succ]
      refine wpAnyH_take (i := 15) (v := undef) rfl (by kernel_rfl) (by kernel_rfl) (by kernel_rfl) (fun _ _ _ h => h) (Or.inr ⟨by rfl, rfl⟩) (by assumption) ?_
      try simp only [List.getElem_toArray, List.getElem_cons_succ, List.getElem_cons_zero, Act.put, List.setIfInBounds_toArray, List.set_cons_zero, List.set_cons_succ]
      refine wpAnyH_take (i := 16) (v := ?_) rfl (by kernel_rfl) (by kernel_rfl) (by kernel_rfl) (fun _ _ _ h => h) (Or.inl ⟨by rfl, ?_⟩) (by assumption) ?_
      rotate_left
      · intro w hSw; (try dsimp only at hSw); go_simp; (try (with_reducible rfl))
      try simp only [List.getElem_toArray, List.getElem_cons_succ, List.getElem_cons_zero, Act.put, List.setIfInBounds_toArray, List.set_cons_zero, List.set_cons_succ]
      refine wpAnyH_ready (rs := [17]) (by kernel_rfl) (by simp) ?_
      refine AllReadyH.cons rfl (fun K hK => ?_) AllReadyH.nil
      go_simp
      (go_at_call 65; refine (CW.out _).mono ?_; rintro e w' ⟨rfl, rfl⟩)
      go_wp2_with fail
      refine hK.out _ _ ?_ (fun hHeld => ?_)
      · clear hK K; ((refine (fun hI => ⟨OneB.six hI, hI⟩) ?_; repeat (first | assumption | refine OneB.drew ?_ | refine OneB.alloc ?_ _)))
      clear hK K
      try simp only [List.getElem_toArray, List.getElem_cons_succ, List.getElem_cons_zero, Act.put, List.setIfInBounds_toArray, List.set_cons_zero, List.set_cons_succ]
      refine wpAnyH_ready (rs := [18]) (by kernel_rfl) (by simp) ?_
      refine AllReadyH.cons rfl (fun K hK => ?_) AllReadyH.nil
      go_simp
      refine hK.out _ _ ?_ (fun hHeld => ?_)
      · clear hK K; ((refine (fun hI => ⟨OneB.six hI, hI⟩) ?_; repeat (first | assumption | refine OneB.drew ?_ | refine OneB.alloc ?_ _)))
      clear hK K
      try simp only [List.getElem_toArray, List.getElem_cons_succ, List.getElem_cons_zero, Act.put, List.setIfInBounds_toArray, List.set_cons_zero, List.set_cons_succ]
      refine wpAnyH_ready (rs := [19]) (by kernel_rfl) (by simp) ?_
      refine AllReadyH.cons rfl (fun K hK => ?_) AllReadyH.nil
      go_simp
      (go_at_call 33; refine (firstError2 HF.out _ _ ?_ ?_).mono ?_; (focus (simp [go_sem])); (focus (simp [go_sem])); rintro e w' ⟨rfl, rfl⟩)
      go_wp2_with fail
      refine hK.out _ _ ?_ (fun hHeld => ?_)
      · clear hK K; ((refine (fun hI => ⟨OneB.six hI, hI⟩) ?_; repeat (first | assumption | refine OneB.drew ?_ | refine OneB.alloc ?_ _)))
      clear hK K
      try simp only [List.getElem_toArray, List.getElem_cons_succ, List.getElem_cons_zero, Act.put, List.setIfInBounds_toArray, List.set_cons_zero, List.set_cons_succ]
      refine wpAnyH_take (i := 20) (v := ?_) rfl (by kernel_rfl) (by kernel_rfl) (by kernel_rfl) (fun _ _ _ h => h) (Or.inl ⟨by rfl, ?_⟩) (by assumption) ?_
      rotate_left
      · intro w hSw; (try dsimp only at hSw); go_simp; (try (with_reducible rfl))
      try simp only [List.getElem_toArray, List.getElem_cons_succ, List.getElem_cons_zero, Act.put, List.setIfInBounds_toArray, List.set_cons_zero, List.set_cons_succ]
      refine wpAnyH_done (by kernel_rfl) ?_ _
      go_wp2
      go_ret
      refine ⟨retI HE.out.symm, ?_⟩
      have := hI.b
      have := this.size
      go_grown
set_option maxRecDepth 100000 in
set_option maxHeartbeats 4000000 in
theorem rcheckMap_all (k d n q s : Int) (A : Option Addr) (m c : Nat) (ns : List (Int × Int)) (w : World) (hr : RdN w A m ns) (hm : m ≤ 1000000) :
    Calls Tryz.prog 67 #[.agg #[.int .i64 k, .int .i64 d, .int .i64 n, .int .i64 q, .int .i64 s, .slice A m c]] w fun e w' => e = .returned (.int .i64 (mpC n q s ns)) ∧ Below w.heap.size w w' := by
  by_cases hn : n = 0
  · subst hn
    by_cases hq : q = 0
    · subst hq
      have e : mpC 0 0 s ns = rmE s ns := by unfold mpC rmE; rw [if_neg (by simp)]
      rw [e]
      exact rcheckMap_any k d s A m c ns w hr hm
    · have CM : Hid (∀ w', Below w.heap.size w w' → Calls Tryz.prog 92 #[.agg #[.slice A m c]] w' fun e w'' => e = .returned (.tuple #[.int .i64 (mapR ns).1, .int .i64 (mapR ns).2]) ∧ Below w'.heap.size w' w'') := fun w' hb => CheckMap_any A m c ns w' (hr.below hb) hm
      have HE : Hid (mpC 0 q s ns = firstNZ [(mapR ns).2, rngE 1 1000000000000 [s], 3]) := Lib.hid (by unfold mpC; rw [if_pos (.inr hq)])
      obtain ⟨⟨i, E⟩, hE⟩ : ∃ p, mapR ns = p := ⟨_, rfl⟩
      rw [hE] at CM HE
      dsimp only at CM HE
      clear hE hr
      have C3 := Lib.hid (fun x y w h1 h2 => from1_any s 1 1000000000000 x y w h1 h2)
      obtain ⟨E2, hE2⟩ : ∃ E, rngE 1 1000000000000 [s] = E := ⟨_, rfl⟩
      rw [hE2] at HE C3
      obtain ⟨F, hF⟩ : ∃ F, firstNZ [E, E2, 3] = F := ⟨_, rfl⟩
      rw [hF] at HE
      have HF := Lib.hid hF
      have CW := Lib.hid (fun W => when_any true 3 W)
      rw [if_pos rfl] at CW
      have hq1 : (q != 0) = true := neT hq
      clear hF hE2 hq
      go_enter Tryz.func67, Tryz.ntmps67
      go_wp2_with fail
      refine (CM.out _ (below1 _ _)).mono ?_
      rintro e w1 ⟨rfl, hb1⟩
      have hI := OneB.later hb1 (OneB.start w 26 #[.int .i64 k, .int .i64 d, .int .i64 0, .int .i64 q, .int .i64 s, .slice A m c])
      clear hb1
      obtain ⟨c0, c1, c2, c3, c4, c5⟩ := hI.six
      go_wp2
      go_region_held3 (fun w' : World => (w'.cell? ⟨w.heap.size, 0, none⟩ = some (.int .i64 k) ∧ w'.cell? ⟨w.heap.size, 1, none⟩ = some (.int .i64 d) ∧ w'.cell? ⟨w.heap.size, 2, none⟩ = some (.int .i64 0) ∧ w'.cell? ⟨w.heap.size, 3, none⟩ = some (.int .i64 q) ∧ w'.cell? ⟨w.heap.size, 4, none⟩ = some (.int .i64 s) ∧ w'.cell? ⟨w.heap.size, 5, none⟩ = some (.slice A m c)) ∧ OneB w w.heap.size 26 #[(.int .i64 k), (.int .i64 d), (.int .i64 0), (.int .i64 q), (.int .i64 s), (.slice A m c)] w') ((refine (fun hI => ⟨OneB.six hI, hI⟩) ?_; repeat (first | assumption | refine OneB.drew ?_ | refine OneB.alloc ?_ _))) (first
        | (go_at_call 49; refine (from_any _ _ _).mono ?_; rintro e w' ⟨rfl, rfl⟩)
        | (go_at_call 81; refine (C3.out _ _ _ ?_ ?_).mono ?_; (focus (simp [go_sem])); (focus (simp [go_sem])); rintro e w' ⟨rfl, rfl⟩)
        | (go_at_call 65; refine (CW.out _).mono ?_; rintro e w' ⟨rfl, rfl⟩)
        | (go_at_call 33; refine (firstError3 HF.out _ _ ?_ ?_ ?_).mono ?_; (focus (simp [go_sem])); (focus (simp [go_sem])); (focus (simp [go_sem])); rintro e w' ⟨rfl, rfl⟩))
      all_goals
        go_wp2
        go_ret
        refine ⟨retI HE.out.symm, ?_⟩
        have := hI.b
        have := this.size
        go_grown
  · have CM : Hid (∀ w', Below w.heap.size w w' → Calls Tryz.prog 92 #[.agg #[.slice A m c]] w' fun e w'' => e = .returned (.tuple #[.int .i64 (mapR ns).1, .int .i64 (mapR ns).2]) ∧ Below w'.heap.size w' w'') := fun w' hb => CheckMap_any A m c ns w' (hr.below hb) hm
    have HE : Hid (mpC n q s ns = firstNZ [(mapR ns).2, rngE 1 1000000000000 [s], 3]) := Lib.hid (by unfold mpC; rw [if_pos (.inl hn)])
    obtain ⟨⟨i, E⟩, hE⟩ : ∃ p, mapR ns = p := ⟨_, rfl⟩
    rw [hE] at CM HE
    dsimp only at CM HE
    clear hE hr
    have C3 := Lib.hid (fun x y w h1 h2 => from1_any s 1 1000000000000 x y w h1 h2)
    obtain ⟨E2, hE2⟩ : ∃ E, rngE 1 1000000000000 [s] = E := ⟨_, rfl⟩
    rw [hE2] at HE C3
    obtain ⟨F, hF⟩ : ∃ F, firstNZ [E, E2, 3] = F := ⟨_, rfl⟩
    rw [hF] at HE
    have HF := Lib.hid hF
    have CW := Lib.hid (fun W => when_any true 3 W)
    rw [if_pos rfl] at CW
    have hn1 : (n != 0) = true := neT hn
    clear hF hE2 hn
    go_enter Tryz.func67, Tryz.ntmps67
    go_wp2_with fail
    refine (CM.out _ (below1 _ _)).mono ?_
    rintro e w1 ⟨rfl, hb1⟩
    have hI := OneB.later hb1 (OneB.start w 26 #[.int .i64 k, .int .i64 d, .int .i64 n, .int .i64 q, .int .i64 s, .slice A m c])
    clear hb1
    obtain ⟨c0, c1, c2, c3, c4, c5⟩ := hI.six
    go_wp2
    refine wp_region_held_drew (S := (fun w' : World => (w'.cell? ⟨w.heap.size, 0, none⟩ = some (.int .i64 k) ∧ w'.cell? ⟨w.heap.size, 1, none⟩ = some (.int .i64 d) ∧ w'.cell? ⟨w.heap.size, 2, none⟩ = some (.int .i64 n) ∧ w'.cell? ⟨w.heap.size, 3, none⟩ = some (.int .i64 q) ∧ w'.cell? ⟨w.heap.size, 4, none⟩ = some (.int .i64 s) ∧ w'.cell? ⟨w.heap.size, 5, none⟩ = some (.slice A m c)) ∧ OneB w w.heap.size 26 #[(.int .i64 k), (.int .i64 d), (.int .i64 n), (.int .i64 q), (.int .i64 s), (.slice A m c)] w')) (by kernel_rfl) ?_ ?_
    · ((refine (fun hI => ⟨OneB.six hI, hI⟩) ?_; repeat (first | assumption | refine OneB.drew ?_ | refine OneB.alloc ?_ _)))
    intro hHeld
    refine wpAnyH_take (i := 0) (v := ?_) rfl (by kernel_rfl) (by kernel_rfl) (by kernel_rfl) (fun _ _ _ h => h) (Or.inl ⟨by rfl, ?_⟩) (by assumption) ?_
    rotate_left
    · intro w hSw; (try dsimp only at hSw); go_simp; (try (with_reducible rfl))
    try simp only [List.getElem_toArray, List.getElem_cons_succ, List.getElem_cons_zero, Act.put, List.setIfInBounds_toArray, List.set_cons_zero, List.set_cons_succ]
    refine wpAnyH_take (i := 2) (v := ?_) rfl (by kernel_rfl) (by kernel_rfl) (by kernel_rfl) (fun _ _ _ h => h) (Or.inl ⟨by rfl, ?_⟩) (by assumption) ?_
    rotate_left
    · intro w hSw; (try dsimp only at hSw); go_simp; (try (with_reducible rfl))
    try simp only [List.getElem_toArray, List.getElem_cons_succ, List.getElem_cons_zero, Act.put, List.setIfInBounds_toArray, List.set_cons_zero, List.set_cons_succ]
    refine wpAnyH_take (i := 3) (v := ?_) rfl (by kernel_rfl) (by kernel_rfl) (by kernel_rfl) (fun _ _ _ h => h) (Or.inl ⟨by rfl, ?_⟩) (by assumption) ?_
    rotate_left
    · intro w hSw; (try dsimp only at hSw); go_simp; (try (with_reducible rfl))
    try simp only [List.getElem_toArray, List.getElem_cons_succ, List.getElem_cons_zero, Act.put, List.setIfInBounds_toArray, List.set_cons_zero, List.set_cons_succ]
    refine wpAnyH_take (i := 5) (v := ?_) rfl (by kernel_rfl) (by kernel_rfl) (by kernel_rfl) (fun _ _ _ h => h) (Or.inl ⟨by rfl, ?_⟩) (by assumption) ?_
    rotate_left
    · intro w hSw; (try dsimp only at hSw); go_simp; (try (with_reducible rfl))
    try simp only [List.getElem_toArray, List.getElem_cons_succ, List.getElem_cons_zero, Act.put, List.setIfInBounds_toArray, List.set_cons_zero, List.set_cons_succ]
    refine wpAnyH_take (i := 6) (v := ?_) rfl (by kernel_rfl) (by kernel_rfl) (by kernel_rfl) (fun _ _ _ h => h) (Or.inl ⟨by rfl, ?_⟩) (by assumption) ?_
    rotate_left
    · intro w hSw; (try dsimp only at hSw); go_simp; (try (with_reducible rfl))
    try simp only [List.getElem_toArray, List.getElem_cons_succ, List.getElem_cons_zero, Act.put, List.setIfInBounds_toArray, List.set_cons_zero, List.set_cons_succ]
    refine wpAnyH_take (i := 7) (v := ?_) rfl (by kernel_rfl) (by kernel_rfl) (by kernel_rfl) (fun _ _ _ h => h) (Or.inl ⟨by rfl, ?_⟩) (by assumption) ?_
    rotate_left
    · intro w hSw; (try dsimp only at hSw); go_simp; (try (with_reducible rfl))
    try simp only [List.getElem_toArray, List.getElem_cons_succ, List.getElem_cons_zero, Act.put, List.setIfInBounds_toArray, List.set_cons_zero, List.set_cons_succ]
    refine wpAnyH_ready (rs := [1]) (by kernel_rfl) (by simp) ?_
    refine AllReadyH.cons rfl (fun K hK => ?_) AllReadyH.nil
    go_simp
    (go_at_call 49; refine (from_any _ _ _).mono ?_; rintro e w' ⟨rfl, rfl⟩)
    go_wp2_with fail
    refine hK.out _ _ ?_ (fun hHeld => ?_)
    · clear hK K; ((refine (fun hI => ⟨OneB.six hI, hI⟩) ?_; repeat (first | assumption | refine OneB.drew ?_ | refine OneB.alloc ?_ _)))
    clear hK K
    try simp only [List.getElem_toArray, List.getElem_cons_succ, List.getElem_cons_zero, Act.put, List.setIfInBounds_toArray, List.set_cons_zero, List.set_cons_succ]
    refine wpAnyH_ready (rs := [4]) (by kernel_rfl) (by simp) ?_
    refine AllReadyH.cons rfl (fun K hK => ?_) AllReadyH.nil
    go_simp
    (go_at_call 81; refine (C3.out _ _ _ ?_ ?_).mono ?_; (focus (simp [go_sem])); (focus (simp [go_sem])); rintro e w' ⟨rfl, rfl⟩)
    go_wp2_with fail
    refine hK.out _ _ ?_ (fun hHeld => ?_)
    · clear hK K; ((refine (fun hI => ⟨OneB.six hI, hI⟩) ?_; repeat (first | assumption | refine OneB.drew ?_ | refine OneB.alloc ?_ _)))
    clear hK K
    try simp only [List.getElem_toArray, List.getElem_cons_succ, List.getElem_cons_zero, Act.put, List.setIfInBounds_toArray, List.set_cons_zero, List.set_cons_succ]
    refine wpAnyH_take (i := 8) (v := ?_) rfl (by kernel_rfl) (by kernel_rfl) (by kernel_rfl) (fun _ _ _ h => h) (Or.inl ⟨by rfl, ?_⟩) (by assumption) ?_
    rotate_left
    · intro w hSw; (try dsimp only at hSw); go_simp; (try (with_reducible rfl))
    try simp only [List.getElem_toArray, List.getElem_cons_succ, List.getElem_cons_zero, Act.put, List.setIfInBounds_toArray, List.set_cons_zero, List.set_cons_succ]
    refine wpAnyH_take (i := 9) (v := undef) rfl (by kernel_rfl) (by kernel_rfl) (by kernel_rfl) (fun _ _ _ h => h) (Or.inr ⟨by rfl, rfl⟩) (by assumption) ?_
    try simp only [List.getElem_toArray, List.getElem_cons_succ, List.getElem_cons_zero, Act.put, List.setIfInBounds_toArray, List.set_cons_zero, List.set_cons_succ]
    refine wpAnyH_take (i := 10) (v := undef) rfl (by kernel_rfl) (by kernel_rfl) (by kernel_rfl) (fun _ _ _ h => h) (Or.inr ⟨by rfl, rfl⟩) (by assumption) ?_
    try simp only [List.getElem_toArray, List.getElem_cons_succ, List.getElem_cons_zero, Act.put, List.setIfInBounds_toArray, List.set_cons_zero, List.set_cons_succ]
    refine wpAnyH_take (i := 11) (v := undef) rfl (by kernel_rfl) (by kernel_rfl) (by kernel_rfl) (fun _ _ _ h => h) (Or.inr ⟨by rfl, rfl⟩) (by assumption) ?_
    try simp only [List.getElem_toArray, List.getElem_cons_succ, List.getElem_cons_zero, Act.put, List.setIfInBounds_toArray, List.set_cons_zero, List.set_cons_succ]
    refine wpAnyH_take (i := 12) (v := ?_) rfl (by kernel_rfl) (by kernel_rfl) (by kernel_rfl) (fun _ _ _ h => h) (Or.inl ⟨by rfl, ?_⟩) (by assumption) ?_
    rotate_left
    · intro w hSw; (try dsimp only at hSw); go_simp; (try (with_reducible rfl))
    try simp only [List.getElem_toArray, List.getElem_cons_succ, List.getElem_cons_zero, Act.put, List.setIfInBounds_toArray, List.set_cons_zero, List.set_cons_succ]
    refine wpAnyH_ready (rs := [13]) (by kernel_rfl) (by simp) ?_
    refine AllReadyH.cons rfl (fun K hK => ?_) AllReadyH.nil
    go_simp
    (go_at_call 65; refine (CW.out _).mono ?_; rintro e w' ⟨rfl, rfl⟩)
    go_wp2_with fail
    refine hK.out _ _ ?_ (fun hHeld => ?_)
    · clear hK K; ((refine (fun hI => ⟨OneB.six hI, hI⟩) ?_; repeat (first | assumption | refine OneB.drew ?_ | refine OneB.alloc ?_ _)))
    clear hK K
    try simp only [List.getElem_toArray, List.getElem_cons_succ, List.getElem_cons_zero, Act.put, List.setIfInBounds_toArray, List.set_cons_zero, List.set_cons_succ]
    refine wpAnyH_ready (rs := [14]) (by kernel_rfl) (by simp) ?_
    refine AllReadyH.cons rfl (fun K hK => ?_) AllReadyH.nil
    go_simp
    refine hK.out _ _ ?_ (fun hHeld => ?_)
    · clear hK K; ((refine (fun hI => ⟨OneB.six hI, hI⟩) ?_; repeat (first | assumption | refine OneB.drew ?_ | refine OneB.alloc ?_ _)))
    clear hK K
    try simp only [List.getElem_toArray, List.getElem_cons_succ, List.getElem_cons_zero, Act.put, List.setIfInBounds_toArray, List.set_cons_zero, List.set_cons_succ]
    refine wpAnyH_ready (rs := [15]) (by kernel_rfl) (by simp) ?_
    refine AllReadyH.cons rfl (fun K hK => ?_) AllReadyH.nil
    go_simp
    (go_at_call 33; refine (firstError3 HF.out _ _ ?_ ?_ ?_).mono ?_; (focus (simp [go_sem])); (focus (simp [go_sem])); (focus (simp [go_sem])); rintro e w' ⟨rfl, rfl⟩)
    go_wp2_with fail
    refine hK.out _ _ ?_ (fun hHeld => ?_)
    · clear hK K; ((refine (fun hI => ⟨OneB.six hI, hI⟩) ?_; repeat (first | assumption | refine OneB.drew ?_ | refine OneB.alloc ?_ _)))
    clear hK K
    try simp only [List.getElem_toArray, List.getElem_cons_succ, List.getElem_cons_zero, Act.put, List.setIfInBounds_toArray, List.set_cons_zero, List.set_cons_succ]
    refine wpAnyH_take (i := 16) (v := ?_) rfl (by kernel_rfl) (by kernel_rfl) (by kernel_rfl) (fun _ _ _ h => h) (Or.inl ⟨by rfl, ?_⟩) (by assumption) ?_
    rotate_left
    · intro w hSw; (try dsimp only at hSw); go_simp; (try (with_reducible rfl))
    try simp only [List.getElem_toArray, List.getElem_cons_succ, List.getElem_cons_zero, Act.put, List.setIfInBounds_toArray, List.set_cons_zero, List.set_cons_succ]
    refine wpAnyH_done (by kernel_rfl) ?_ _
    go_wp2
    go_ret
    refine ⟨retI HE.out.symm, ?_⟩
    have := hI.b
    have := this.size
    go_grown

end Go.Proofs.YtjjflbnopphciacGreatDoor


namespace Go.Proofs.YtjjflbnopphciacGreatDoor
open Go.RowKit

set_option maxRecDepth 100000 in
set_option maxHeartbeats 4000000 in
theorem cr_neg_1 (k : Int) (n q s : Int) (A : Option Addr) (m c : Nat) (ns : List (Int × Int)) (w : World) (hk : k < 0) (hr : RdN w A m ns) (hm : m ≤ 1000000) :
    Calls Tryz.prog 34 #[.agg #[.int .i64 k, .int .i64 1, .int .i64 n, .int .i64 q, .int .i64 s, .slice A m c]] w fun e w' => e = .returned (.int .i64 (15)) ∧ Below w.heap.size w w' := by
  have C1 := Lib.hid (fun w => itpOf_1 w)
  unfold itp1 at C1
  have hk1 : decide (k < 0) = true := decide_eq_true hk
  clear hr
  go_enter Tryz.func34, Tryz.ntmps34
  go_wp2_with fail
  refine (C1.out _).mono ?_
  rintro e w1 ⟨rfl, hb1⟩
  have hI := OneB.later hb1 (OneB.start w 26 #[.int .i64 k, .int .i64 1, .int .i64 n, .int .i64 q, .int .i64 s, .slice A m c])
  have hlt := hI.k.lt
  have hne : ¬ w.heap.size = w1.heap.size := by omega
  clear hb1
  obtain ⟨c0, c1, c2, c3, c4, c5⟩ := hI.six
  have HI := Lib.hid hI
  clear hI
  go_wp2_with (first
    | (go_at_call 65; refine (when_any _ _ _).mono ?_; rintro e w' ⟨rfl, rfl⟩)
    | (go_at_call 33; refine (firstError2 (E1 := 15) (E2 := 0) (F := 15) rfl _ _ ?_ ?_).mono ?_; (focus (simp [go_sem])); (focus (simp [go_sem])); rintro e w' ⟨rfl, rfl⟩))
  go_ret
  refine ⟨rfl, ?_⟩
  have h1 := HI.out.b
  have h2 := h1.size
  go_grown
set_option maxRecDepth 100000 in
set_option maxHeartbeats 4000000 in
theorem cr_neg_3 (k : Int) (n q s : Int) (A : Option Addr) (m c : Nat) (ns : List (Int × Int)) (w : World) (hk : k < 0) (hr : RdN w A m ns) (hm : m ≤ 1000000) :
    Calls Tryz.prog 34 #[.agg #[.int .i64 k, .int .i64 3, .int .i64 n, .int .i64 q, .int .i64 s, .slice A m c]] w fun e w' => e = .returned (.int .i64 (15)) ∧ Below w.heap.size w w' := by
  have C1 := Lib.hid (fun w => itpOf_3 w)
  unfold itp3 at C1
  have hk1 : decide (k < 0) = true := decide_eq_true hk
  clear hr
  go_enter Tryz.func34, Tryz.ntmps34
  go_wp2_with fail
  refine (C1.out _).mono ?_
  rintro e w1 ⟨rfl, hb1⟩
  have hI := OneB.later hb1 (OneB.start w 26 #[.int .i64 k, .int .i64 3, .int .i64 n, .int .i64 q, .int .i64 s, .slice A m c])
  have hlt := hI.k.lt
  have hne : ¬ w.heap.size = w1.heap.size := by omega
  clear hb1
  obtain ⟨c0, c1, c2, c3, c4, c5⟩ := hI.six
  have HI := Lib.hid hI
  clear hI
  go_wp2_with (first
    | (go_at_call 65; refine (when_any _ _ _).mono ?_; rintro e w' ⟨rfl, rfl⟩)
    | (go_at_call 33; refine (firstError2 (E1 := 15) (E2 := 0) (F := 15) rfl _ _ ?_ ?_).mono ?_; (focus (simp [go_sem])); (focus (simp [go_sem])); rintro e w' ⟨rfl, rfl⟩))
  go_ret
  refine ⟨rfl, ?_⟩
  have h1 := HI.out.b
  have h2 := h1.size
  go_grown
set_option maxRecDepth 100000 in
set_option maxHeartbeats 4000000 in
theorem cr_neg_no (k : Int) (d : Int) (n q s : Int) (A : Option Addr) (m c : Nat) (ns : List (Int × Int)) (w : World) (hk : k < 0) (h1 : d ≠ 1) (h3 : d ≠ 3) (hr : RdN w A m ns) (hm : m ≤ 1000000) :
    Calls Tryz.prog 34 #[.agg #[.int .i64 k, .int .i64 d, .int .i64 n, .int .i64 q, .int .i64 s, .slice A m c]] w fun e w' => e = .returned (.int .i64 (15)) ∧ Below w.heap.size w w' := by
  have C1 := Lib.hid (fun w => itpOf_no d w h1 h3)
  unfold itp0 at C1
  have hk1 : decide (k < 0) = true := decide_eq_true hk
  clear hr
  go_enter Tryz.func34, Tryz.ntmps34
  go_wp2_with fail
  refine (C1.out _).mono ?_
  rintro e w1 ⟨rfl, hb1⟩
  have hI := OneB.later hb1 (OneB.start w 26 #[.int .i64 k, .int .i64 d, .int .i64 n, .int .i64 q, .int .i64 s, .slice A m c])
  have hlt := hI.k.lt
  have hne : ¬ w.heap.size = w1.heap.size := by omega
  clear hb1
  obtain ⟨c0, c1, c2, c3, c4, c5⟩ := hI.six
  have HI := Lib.hid hI
  clear hI
  go_wp2_with (first
    | (go_at_call 65; refine (when_any _ _ _).mono ?_; rintro e w' ⟨rfl, rfl⟩)
    | (go_at_call 33; refine (firstError2 (E1 := 15) (E2 := 15) (F := 15) rfl _ _ ?_ ?_).mono ?_; (focus (simp [go_sem])); (focus (simp [go_sem])); rintro e w' ⟨rfl, rfl⟩))
  go_ret
  refine ⟨rfl, ?_⟩
  have h1 := HI.out.b
  have h2 := h1.size
  go_grown
set_option maxRecDepth 100000 in
set_option maxHeartbeats 4000000 in
theorem cr_big_1 (k : Int) (n q s : Int) (A : Option Addr) (m c : Nat) (ns : List (Int × Int)) (w : World) (hk : 2 ≤ k) (hr : RdN w A m ns) (hm : m ≤ 1000000) :
    Calls Tryz.prog 34 #[.agg #[.int .i64 k, .int .i64 1, .int .i64 n, .int .i64 q, .int .i64 s, .slice A m c]] w fun e w' => e = .returned (.int .i64 (15)) ∧ Below w.heap.size w w' := by
  have C1 := Lib.hid (fun w => itpOf_1 w)
  unfold itp1 at C1
  have hk0 : ¬ k < 0 := by omega
  have hk1 : decide (k < 0) = false := decide_eq_false hk0
  clear hr
  go_enter Tryz.func34, Tryz.ntmps34
  go_wp2_with fail
  refine (C1.out _).mono ?_
  rintro e w1 ⟨rfl, hb1⟩
  have hI := OneB.later hb1 (OneB.start w 26 #[.int .i64 k, .int .i64 1, .int .i64 n, .int .i64 q, .int .i64 s, .slice A m c])
  have hlt := hI.k.lt
  have hne : ¬ w.heap.size = w1.heap.size := by omega
  clear hb1
  obtain ⟨c0, c1, c2, c3, c4, c5⟩ := hI.six
  have HI := Lib.hid hI
  clear hI
  go_wp2_with (first
    | (go_at_call 65; refine (when_any _ _ _).mono ?_; rintro e w' ⟨rfl, rfl⟩)
    | (go_at_call 33; refine (firstError2 (E1 := 15) (E2 := 0) (F := 15) rfl _ _ ?_ ?_).mono ?_; (focus (simp [go_sem])); (focus (simp [go_sem])); rintro e w' ⟨rfl, rfl⟩))
  go_ret
  refine ⟨rfl, ?_⟩
  have h1 := HI.out.b
  have h2 := h1.size
  go_grown
set_option maxRecDepth 100000 in
set_option maxHeartbeats 4000000 in
theorem cr_big_3 (k : Int) (n q s : Int) (A : Option Addr) (m c : Nat) (ns : List (Int × Int)) (w : World) (hk : 2 ≤ k) (hr : RdN w A m ns) (hm : m ≤ 1000000) :
    Calls Tryz.prog 34 #[.agg #[.int .i64 k, .int .i64 3, .int .i64 n, .int .i64 q, .int .i64 s, .slice A m c]] w fun e w' => e = .returned (.int .i64 (15)) ∧ Below w.heap.size w w' := by
  have C1 := Lib.hid (fun w => itpOf_3 w)
  unfold itp3 at C1
  have hk0 : ¬ k < 0 := by omega
  have hk1 : decide (k < 0) = false := decide_eq_false hk0
  clear hr
  go_enter Tryz.func34, Tryz.ntmps34
  go_wp2_with fail
  refine (C1.out _).mono ?_
  rintro e w1 ⟨rfl, hb1⟩
  have hI := OneB.later hb1 (OneB.start w 26 #[.int .i64 k, .int .i64 3, .int .i64 n, .int .i64 q, .int .i64 s, .slice A m c])
  have hlt := hI.k.lt
  have hne : ¬ w.heap.size = w1.heap.size := by omega
  clear hb1
  obtain ⟨c0, c1, c2, c3, c4, c5⟩ := hI.six
  have HI := Lib.hid hI
  clear hI
  go_wp2_with (first
    | (go_at_call 65; refine (when_any _ _ _).mono ?_; rintro e w' ⟨rfl, rfl⟩)
    | (go_at_call 33; refine (firstError2 (E1 := 15) (E2 := 0) (F := 15) rfl _ _ ?_ ?_).mono ?_; (focus (simp [go_sem])); (focus (simp [go_sem])); rintro e w' ⟨rfl, rfl⟩))
  go_ret
  refine ⟨rfl, ?_⟩
  have h1 := HI.out.b
  have h2 := h1.size
  go_grown
set_option maxRecDepth 100000 in
set_option maxHeartbeats 4000000 in
theorem cr_big_no (k : Int) (d : Int) (n q s : Int) (A : Option Addr) (m c : Nat) (ns : List (Int × Int)) (w : World) (hk : 2 ≤ k) (h1 : d ≠ 1) (h3 : d ≠ 3) (hr : RdN w A m ns) (hm : m ≤ 1000000) :
    Calls Tryz.prog 34 #[.agg #[.int .i64 k, .int .i64 d, .int .i64 n, .int .i64 q, .int .i64 s, .slice A m c]] w fun e w' => e = .returned (.int .i64 (15)) ∧ Below w.heap.size w w' := by
  have C1 := Lib.hid (fun w => itpOf_no d w h1 h3)
  unfold itp0 at C1
  have hk0 : ¬ k < 0 := by omega
  have hk1 : decide (k < 0) = false := decide_eq_false hk0
  clear hr
  go_enter Tryz.func34, Tryz.ntmps34
  go_wp2_with fail
  refine (C1.out _).mono ?_
  rintro e w1 ⟨rfl, hb1⟩
  have hI := OneB.later hb1 (OneB.start w 26 #[.int .i64 k, .int .i64 d, .int .i64 n, .int .i64 q, .int .i64 s, .slice A m c])
  have hlt := hI.k.lt
  have hne : ¬ w.heap.size = w1.heap.size := by omega
  clear hb1
  obtain ⟨c0, c1, c2, c3, c4, c5⟩ := hI.six
  have HI := Lib.hid hI
  clear hI
  go_wp2_with (first
    | (go_at_call 65; refine (when_any _ _ _).mono ?_; rintro e w' ⟨rfl, rfl⟩)
    | (go_at_call 33; refine (firstError2 (E1 := 15) (E2 := 15) (F := 15) rfl _ _ ?_ ?_).mono ?_; (focus (simp [go_sem])); (focus (simp [go_sem])); rintro e w' ⟨rfl, rfl⟩))
  go_ret
  refine ⟨rfl, ?_⟩
  have h1 := HI.out.b
  have h2 := h1.size
  go_grown
set_option maxRecDepth 100000 in
set_option maxHeartbeats 4000000 in
theorem cr_0_1 (n q s : Int) (A : Option Addr) (m c : Nat) (ns : List (Int × Int)) (w : World)  (hr : RdN w A m ns) (hm : m ≤ 1000000) :
    Calls Tryz.prog 34 #[.agg #[.int .i64 0, .int .i64 1, .int .i64 n, .int .i64 q, .int .i64 s, .slice A m c]] w fun e w' => e = .returned (.int .i64 (ratC n q s m)) ∧ Below w.heap.size w w' := by
  have CX : Hid (∀ w', Below w.heap.size w w' → Calls Tryz.prog 66 #[.agg #[.int .i64 0, .int .i64 1, .int .i64 n, .int .i64 q, .int .i64 s, .slice A m c]] w' fun e w'' => e = .returned (.int .i64 (ratC n q s m)) ∧ Below w'.heap.size w' w'') := fun w' hb => rcheckRatio_all 0 1 n q s A m c w' hm
  obtain ⟨E, hE⟩ : ∃ E, ratC n q s m = E := ⟨_, rfl⟩
  rw [hE] at CX ⊢
  clear hE
  have C1 := Lib.hid (fun w => itpOf_1 w)
  unfold itp1 at C1
  clear hr
  go_enter Tryz.func34, Tryz.ntmps34
  go_wp2_with fail
  refine (C1.out _).mono ?_
  rintro e w1 ⟨rfl, hb1⟩
  have hI := OneB.later hb1 (OneB.start w 26 #[.int .i64 0, .int .i64 1, .int .i64 n, .int .i64 q, .int .i64 s, .slice A m c])
  have hlt := hI.k.lt
  have hne : ¬ w.heap.size = w1.heap.size := by omega
  clear hb1
  obtain ⟨c0, c1, c2, c3, c4, c5⟩ := hI.six
  have HI := Lib.hid hI
  clear hI
  go_wp2_with (first
    | (go_at_call 65; refine (when_any _ _ _).mono ?_; rintro e w' ⟨rfl, rfl⟩)
    | (go_at_call 33; refine (firstError2 (E1 := 0) (E2 := 0) (F := 0) rfl _ _ ?_ ?_).mono ?_; (focus (simp [go_sem])); (focus (simp [go_sem])); rintro e w' ⟨rfl, rfl⟩))
  refine (CX.out _ (by have := HI.out.b; have := this.size; go_grown)).mono ?_
  rintro e w2 ⟨rfl, hb2⟩
  have BW : Hid (Below w.heap.size w w2) := by
    have h1 := HI.out.b
    have h2 := h1.size
    have h3 : Below w.heap.size w ((w1.alloc (.cells #[.int .i64 1, .int .i64 0, .int .i64 64, .func (.func 76) #[] #[], .int .i64 8192, .func (.func 77) #[] #[]] 90)).alloc (.cells #[.int .i64 0, .int .i64 0] 37)) := (h1.alloc h2 _).alloc (by simp; omega) _
    exact h3.trans (hb2.mono (by simp; omega))
  clear hb2
  go_wp2
  go_ret
  exact ⟨rfl, BW.out⟩
set_option maxRecDepth 100000 in
set_option maxHeartbeats 4000000 in
theorem cr_0_3 (n q s : Int) (A : Option Addr) (m c : Nat) (ns : List (Int × Int)) (w : World)  (hr : RdN w A m ns) (hm : m ≤ 1000000) :
    Calls Tryz.prog 34 #[.agg #[.int .i64 0, .int .i64 3, .int .i64 n, .int .i64 q, .int .i64 s, .slice A m c]] w fun e w' => e = .returned (.int .i64 (ratC n q s m)) ∧ Below w.heap.size w w' := by
  have CX : Hid (∀ w', Below w.heap.size w w' → Calls Tryz.prog 66 #[.agg #[.int .i64 0, .int .i64 3, .int .i64 n, .int .i64 q, .int .i64 s, .slice A m c]] w' fun e w'' => e = .returned (.int .i64 (ratC n q s m)) ∧ Below w'.heap.size w' w'') := fun w' hb => rcheckRatio_all 0 3 n q s A m c w' hm
  obtain ⟨E, hE⟩ : ∃ E, ratC n q s m = E := ⟨_, rfl⟩
  rw [hE] at CX ⊢
  clear hE
  have C1 := Lib.hid (fun w => itpOf_3 w)
  unfold itp3 at C1
  clear hr
  go_enter Tryz.func34, Tryz.ntmps34
  go_wp2_with fail
  refine (C1.out _).mono ?_
  rintro e w1 ⟨rfl, hb1⟩
  have hI := OneB.later hb1 (OneB.start w 26 #[.int .i64 0, .int .i64 3, .int .i64 n, .int .i64 q, .int .i64 s, .slice A m c])
  have hlt := hI.k.lt
  have hne : ¬ w.heap.size = w1.heap.size := by omega
  clear hb1
  obtain ⟨c0, c1, c2, c3, c4, c5⟩ := hI.six
  have HI := Lib.hid hI
  clear hI
  go_wp2_with (first
    | (go_at_call 65; refine (when_any _ _ _).mono ?_; rintro e w' ⟨rfl, rfl⟩)
    | (go_at_call 33; refine (firstError2 (E1 := 0) (E2 := 0) (F := 0) rfl _ _ ?_ ?_).mono ?_; (focus (simp [go_sem])); (focus (simp [go_sem])); rintro e w' ⟨rfl, rfl⟩))
  refine (CX.out _ (by have := HI.out.b; have := this.size; go_grown)).mono ?_
  rintro e w2 ⟨rfl, hb2⟩
  have BW : Hid (Below w.heap.size w w2) := by
    have h1 := HI.out.b
    have h2 := h1.size
    have h3 : Below w.heap.size w ((w1.alloc (.cells #[.int .i64 3, .int .i64 1, .int .i64 1572864, .func (.func 78) #[] #[], .int .i64 402653184, .func (.func 79) #[] #[]] 90)).alloc (.cells #[.int .i64 0, .int .i64 0] 37)) := (h1.alloc h2 _).alloc (by simp; omega) _
    exact h3.trans (hb2.mono (by simp; omega))
  clear hb2
  go_wp2
  go_ret
  exact ⟨rfl, BW.out⟩
set_option maxRecDepth 100000 in
set_option maxHeartbeats 4000000 in
theorem cr_0_no (d : Int) (n q s : Int) (A : Option Addr) (m c : Nat) (ns : List (Int × Int)) (w : World)  (h1 : d ≠ 1) (h3 : d ≠ 3) (hr : RdN w A m ns) (hm : m ≤ 1000000) :
    Calls Tryz.prog 34 #[.agg #[.int .i64 0, .int .i64 d, .int .i64 n, .int .i64 q, .int .i64 s, .slice A m c]] w fun e w' => e = .returned (.int .i64 (15)) ∧ Below w.heap.size w w' := by
  have C1 := Lib.hid (fun w => itpOf_no d w h1 h3)
  unfold itp0 at C1
  clear hr
  go_enter Tryz.func34, Tryz.ntmps34
  go_wp2_with fail
  refine (C1.out _).mono ?_
  rintro e w1 ⟨rfl, hb1⟩
  have hI := OneB.later hb1 (OneB.start w 26 #[.int .i64 0, .int .i64 d, .int .i64 n, .int .i64 q, .int .i64 s, .slice A m c])
  have hlt := hI.k.lt
  have hne : ¬ w.heap.size = w1.heap.size := by omega
  clear hb1
  obtain ⟨c0, c1, c2, c3, c4, c5⟩ := hI.six
  have HI := Lib.hid hI
  clear hI
  go_wp2_with (first
    | (go_at_call 65; refine (when_any _ _ _).mono ?_; rintro e w' ⟨rfl, rfl⟩)
    | (go_at_call 33; refine (firstError2 (E1 := 0) (E2 := 15) (F := 15) rfl _ _ ?_ ?_).mono ?_; (focus (simp [go_sem])); (focus (simp [go_sem])); rintro e w' ⟨rfl, rfl⟩))
  go_ret
  refine ⟨rfl, ?_⟩
  have h1 := HI.out.b
  have h2 := h1.size
  go_grown
set_option maxRecDepth 100000 in
set_option maxHeartbeats 4000000 in
theorem cr_1_1 (n q s : Int) (A : Option Addr) (m c : Nat) (ns : List (Int × Int)) (w : World)  (hr : RdN w A m ns) (hm : m ≤ 1000000) :
    Calls Tryz.prog 34 #[.agg #[.int .i64 1, .int .i64 1, .int .i64 n, .int .i64 q, .int .i64 s, .slice A m c]] w fun e w' => e = .returned (.int .i64 (mpC n q s ns)) ∧ Below w.heap.size w w' := by
  have CX : Hid (∀ w', Below w.heap.size w w' → Calls Tryz.prog 67 #[.agg #[.int .i64 1, .int .i64 1, .int .i64 n, .int .i64 q, .int .i64 s, .slice A m c]] w' fun e w'' => e = .returned (.int .i64 (mpC n q s ns)) ∧ Below w'.heap.size w' w'') := fun w' hb => rcheckMap_all 1 1 n q s A m c ns w' (hr.below hb) hm
  obtain ⟨E, hE⟩ : ∃ E, mpC n q s ns = E := ⟨_, rfl⟩
  rw [hE] at CX ⊢
  clear hE
  have C1 := Lib.hid (fun w => itpOf_1 w)
  unfold itp1 at C1
  clear hr
  go_enter Tryz.func34, Tryz.ntmps34
  go_wp2_with fail
  refine (C1.out _).mono ?_
  rintro e w1 ⟨rfl, hb1⟩
  have hI := OneB.later hb1 (OneB.start w 26 #[.int .i64 1, .int .i64 1, .int .i64 n, .int .i64 q, .int .i64 s, .slice A m c])
  have hlt := hI.k.lt
  have hne : ¬ w.heap.size = w1.heap.size := by omega
  clear hb1
  obtain ⟨c0, c1, c2, c3, c4, c5⟩ := hI.six
  have HI := Lib.hid hI
  clear hI
  go_wp2_with (first
    | (go_at_call 65; refine (when_any _ _ _).mono ?_; rintro e w' ⟨rfl, rfl⟩)
    | (go_at_call 33; refine (firstError2 (E1 := 0) (E2 := 0) (F := 0) rfl _ _ ?_ ?_).mono ?_; (focus (simp [go_sem])); (focus (simp [go_sem])); rintro e w' ⟨rfl, rfl⟩))
  refine (CX.out _ (by have := HI.out.b; have := this.size; go_grown)).mono ?_
  rintro e w2 ⟨rfl, hb2⟩
  have BW : Hid (Below w.heap.size w w2) := by
    have h1 := HI.out.b
    have h2 := h1.size
    have h3 : Below w.heap.size w ((w1.alloc (.cells #[.int .i64 1, .int .i64 0, .int .i64 64, .func (.func 76) #[] #[], .int .i64 8192, .func (.func 77) #[] #[]] 90)).alloc (.cells #[.int .i64 0, .int .i64 0] 37)) := (h1.alloc h2 _).alloc (by simp; omega) _
    exact h3.trans (hb2.mono (by simp; omega))
  clear hb2
  go_wp2
  go_ret
  exact ⟨rfl, BW.out⟩
set_option maxRecDepth 100000 in
set_option maxHeartbeats 4000000 in
theorem cr_1_3 (n q s : Int) (A : Option Addr) (m c : Nat) (ns : List (Int × Int)) (w : World)  (hr : RdN w A m ns) (hm : m ≤ 1000000) :
    Calls Tryz.prog 34 #[.agg #[.int .i64 1, .int .i64 3, .int .i64 n, .int .i64 q, .int .i64 s, .slice A m c]] w fun e w' => e = .returned (.int .i64 (mpC n q s ns)) ∧ Below w.heap.size w w' := by
  have CX : Hid (∀ w', Below w.heap.size w w' → Calls Tryz.prog 67 #[.agg #[.int .i64 1, .int .i64 3, .int .i64 n, .int .i64 q, .int .i64 s, .slice A m c]] w' fun e w'' => e = .returned (.int .i64 (mpC n q s ns)) ∧ Below w'.heap.size w' w'') := fun w' hb => rcheckMap_all 1 3 n q s A m c ns w' (hr.below hb) hm
  obtain ⟨E, hE⟩ : ∃ E, mpC n q s ns = E := ⟨_, rfl⟩
  rw [hE] at CX ⊢
  clear hE
  have C1 := Lib.hid (fun w => itpOf_3 w)
  unfold itp3 at C1
  clear hr
  go_enter Tryz.func34, Tryz.ntmps34
  go_wp2_with fail
  refine (C1.out _).mono ?_
  rintro e w1 ⟨rfl, hb1⟩
  have hI := OneB.later hb1 (OneB.start w 26 #[.int .i64 1, .int .i64 3, .int .i64 n, .int .i64 q, .int .i64 s, .slice A m c])
  have hlt := hI.k.lt
  have hne : ¬ w.heap.size = w1.heap.size := by omega
  clear hb1
  obtain ⟨c0, c1, c2, c3, c4, c5⟩ := hI.six
  have HI := Lib.hid hI
  clear hI
  go_wp2_with (first
    | (go_at_call 65; refine (when_any _ _ _).mono ?_; rintro e w' ⟨rfl, rfl⟩)
    | (go_at_call 33; refine (firstError2 (E1 := 0) (E2 := 0) (F := 0) rfl _ _ ?_ ?_).mono ?_; (focus (simp [go_sem])); (focus (simp [go_sem])); rintro e w' ⟨rfl, rfl⟩))
  refine (CX.out _ (by have := HI.out.b; have := this.size; go_grown)).mono ?_
  rintro e w2 ⟨rfl, hb2⟩
  have BW : Hid (Below w.heap.size w w2) := by
    have h1 := HI.out.b
    have h2 := h1.size
    have h3 : Below w.heap.size w ((w1.alloc (.cells #[.int .i64 3, .int .i64 1, .int .i64 1572864, .func (.func 78) #[] #[], .int .i64 402653184, .func (.func 79) #[] #[]] 90)).alloc (.cells #[.int .i64 0, .int .i64 0] 37)) := (h1.alloc h2 _).alloc (by simp; omega) _
    exact h3.trans (hb2.mono (by simp; omega))
  clear hb2
  go_wp2
  go_ret
  exact ⟨rfl, BW.out⟩
set_option maxRecDepth 100000 in
set_option maxHeartbeats 4000000 in
theorem cr_1_no (d : Int) (n q s : Int) (A : Option Addr) (m c : Nat) (ns : List (Int × Int)) (w : World)  (h1 : d ≠ 1) (h3 : d ≠ 3) (hr : RdN w A m ns) (hm : m ≤ 1000000) :
    Calls Tryz.prog 34 #[.agg #[.int .i64 1, .int .i64 d, .int .i64 n, .int .i64 q, .int .i64 s, .slice A m c]] w fun e w' => e = .returned (.int .i64 (15)) ∧ Below w.heap.size w w' := by
  have C1 := Lib.hid (fun w => itpOf_no d w h1 h3)
  unfold itp0 at C1
  clear hr
  go_enter Tryz.func34, Tryz.ntmps34
  go_wp2_with fail
  refine (C1.out _).mono ?_
  rintro e w1 ⟨rfl, hb1⟩
  have hI := OneB.later hb1 (OneB.start w 26 #[.int .i64 1, .int .i64 d, .int .i64 n, .int .i64 q, .int .i64 s, .slice A m c])
  have hlt := hI.k.lt
  have hne : ¬ w.heap.size = w1.heap.size := by omega
  clear hb1
  obtain ⟨c0, c1, c2, c3, c4, c5⟩ := hI.six
  have HI := Lib.hid hI
  clear hI
  go_wp2_with (first
    | (go_at_call 65; refine (when_any _ _ _).mono ?_; rintro e w' ⟨rfl, rfl⟩)
    | (go_at_call 33; refine (firstError2 (E1 := 0) (E2 := 15) (F := 15) rfl _ _ ?_ ?_).mono ?_; (focus (simp [go_sem])); (focus (simp [go_sem])); rintro e w' ⟨rfl, rfl⟩))
  go_ret
  refine ⟨rfl, ?_⟩
  have h1 := HI.out.b
  have h2 := h1.size
  go_grown
theorem CheckRules_all (k d n q s : Int) (A : Option Addr) (m c : Nat) (ns : List (Int × Int)) (w : World) (hr : RdN w A m ns) (hm : m ≤ 1000000) :
    Calls Tryz.prog 34 #[.agg #[.int .i64 k, .int .i64 d, .int .i64 n, .int .i64 q, .int .i64 s, .slice A m c]] w fun e w' => e = .returned (.int .i64 (rulC k d n q s m ns)) ∧ Below w.heap.size w w' := by
  unfold rulC degE
  by_cases hk : k < 0 ∨ 2 ≤ k
  · rw [if_pos hk]
    by_cases h1 : d = 1
    · subst h1
      rcases hk with hk | hk
      · exact cr_neg_1 k n q s A m c ns w hk hr hm
      · exact cr_big_1 k n q s A m c ns w hk hr hm
    · by_cases h3 : d = 3
      · subst h3
        rcases hk with hk | hk
        · exact cr_neg_3 k n q s A m c ns w hk hr hm
        · exact cr_big_3 k n q s A m c ns w hk hr hm
      · rcases hk with hk | hk
        · exact cr_neg_no k d n q s A m c ns w hk h1 h3 hr hm
        · exact cr_big_no k d n q s A m c ns w hk h1 h3 hr hm
  · rw [if_neg hk]
    rcases (by omega : k = 0 ∨ k = 1) with rfl | rfl
    · by_cases h1 : d = 1
      · subst h1; exact cr_0_1 n q s A m c ns w hr hm
      · by_cases h3 : d = 3
        · subst h3; exact cr_0_3 n q s A m c ns w hr hm
        · rw [show (if d = 1 ∨ d = 3 then (0 : Int) else 15) = 15 from if_neg (by omega), if_neg (by decide)]
          exact cr_0_no d n q s A m c ns w h1 h3 hr hm
    · by_cases h1 : d = 1
      · subst h1; exact cr_1_1 n q s A m c ns w hr hm
      · by_cases h3 : d = 3
        · subst h3; exact cr_1_3 n q s A m c ns w hr hm
        · rw [show (if d = 1 ∨ d = 3 then (0 : Int) else 15) = 15 from if_neg (by omega), if_neg (by decide)]
          exact cr_1_no d n q s A m c ns w h1 h3 hr hm
set_option maxRecDepth 100000 in
set_option maxHeartbeats 4000000 in
theorem rre_K (k : Int) (d n q s : Int) (A : Option Addr) (m c : Nat) (ns : List (Int × Int)) (w : World) (hr : RdP w A m ns) (hm : m ≤ 1000000)
    (CK : ∀ W, Calls Tryz.prog 44 #[.int .i64 k, .int .i64 0, .int .i64 1] W fun e w' => e = .returned (.bool false) ∧ W = w')
    : Calls Tryz.prog 19 #[.agg #[.int .i64 k, .int .i64 d, .int .i64 n, .int .i64 q, .int .i64 s, .slice A m c]] w fun e w' => e = .returned (.int .i64 (15)) ∧ Below w.heap.size w w' := by
  have CK := Lib.hid CK
  have K0 := Lib.hid (Bk.new w 26 #[.int .i64 k, .int .i64 d, .int .i64 n, .int .i64 q, .int .i64 s, .slice A m c])
  have B0 := Lib.hid (below1 w (.cells #[.int .i64 k, .int .i64 d, .int .i64 n, .int .i64 q, .int .i64 s, .slice A m c] 26))
  have X0 := Lib.hid (hr.below (below1 w (.cells #[.int .i64 k, .int .i64 d, .int .i64 n, .int .i64 q, .int .i64 s, .slice A m c] 26)))
  clear hr
  obtain ⟨c0, c1, c2, c3, c4, c5⟩ := bk6 K0.out
  go_enter Tryz.func19, Tryz.ntmps19
  go_wp2_with fail
  refine (CK.out _).mono ?_
  rintro e w' ⟨rfl, rfl⟩
  go_wp2
  go_ret
  exact ⟨rfl, B0.out⟩
set_option maxRecDepth 100000 in
set_option maxHeartbeats 4000000 in
theorem rre_D (k : Int) (d n q s : Int) (A : Option Addr) (m c : Nat) (ns : List (Int × Int)) (w : World) (hr : RdP w A m ns) (hm : m ≤ 1000000) (hkk : k = 0 ∨ k = 1) (D : Int) (hD : ¬ D = 0)
    (CK : ∀ W, Calls Tryz.prog 44 #[.int .i64 k, .int .i64 0, .int .i64 1] W fun e w' => e = .returned (.bool true) ∧ W = w')
    (CD : ∀ W, Calls Tryz.prog 45 #[.int .i64 d] W fun e w' => e = .returned (.int .i64 D) ∧ W = w')
    : Calls Tryz.prog 19 #[.agg #[.int .i64 k, .int .i64 d, .int .i64 n, .int .i64 q, .int .i64 s, .slice A m c]] w fun e w' => e = .returned (.int .i64 (D)) ∧ Below w.heap.size w w' := by
  have CK := Lib.hid CK
  have CD := Lib.hid CD
  have dD := neT hD
  clear hD hkk
  have K0 := Lib.hid (Bk.new w 26 #[.int .i64 k, .int .i64 d, .int .i64 n, .int .i64 q, .int .i64 s, .slice A m c])
  have B0 := Lib.hid (below1 w (.cells #[.int .i64 k, .int .i64 d, .int .i64 n, .int .i64 q, .int .i64 s, .slice A m c] 26))
  have X0 := Lib.hid (hr.below (below1 w (.cells #[.int .i64 k, .int .i64 d, .int .i64 n, .int .i64 q, .int .i64 s, .slice A m c] 26)))
  clear hr
  obtain ⟨c0, c1, c2, c3, c4, c5⟩ := bk6 K0.out
  go_enter Tryz.func19, Tryz.ntmps19
  go_wp2_with fail
  refine (CK.out _).mono ?_
  rintro e w' ⟨rfl, rfl⟩
  go_wp2_with fail
  refine (CD.out _).mono ?_
  rintro e w' ⟨rfl, rfl⟩
  go_wp2
  go_ret
  exact ⟨rfl, B0.out⟩
set_option maxRecDepth 100000 in
set_option maxHeartbeats 4000000 in
theorem rre_rn (d n q s : Int) (A : Option Addr) (m c : Nat) (ns : List (Int × Int)) (w : World) (hr : RdP w A m ns) (hm : m ≤ 1000000)
    (CK : ∀ W, Calls Tryz.prog 44 #[.int .i64 0, .int .i64 0, .int .i64 1] W fun e w' => e = .returned (.bool true) ∧ W = w')
    (CD : ∀ W, Calls Tryz.prog 45 #[.int .i64 d] W fun e w' => e = .returned (.int .i64 0) ∧ W = w')
    (CN : ∀ W, Calls Tryz.prog 44 #[.int .i64 n, .int .i64 1, .int .i64 1000] W fun e w' => e = .returned (.bool false) ∧ W = w')
    : Calls Tryz.prog 19 #[.agg #[.int .i64 0, .int .i64 d, .int .i64 n, .int .i64 q, .int .i64 s, .slice A m c]] w fun e w' => e = .returned (.int .i64 (2)) ∧ Below w.heap.size w w' := by
  have CK := Lib.hid CK
  have CD := Lib.hid CD
  have CN := Lib.hid CN
  have K0 := Lib.hid (Bk.new w 26 #[.int .i64 0, .int .i64 d, .int .i64 n, .int .i64 q, .int .i64 s, .slice A m c])
  have B0 := Lib.hid (below1 w (.cells #[.int .i64 0, .int .i64 d, .int .i64 n, .int .i64 q, .int .i64 s, .slice A m c] 26))
  have X0 := Lib.hid (hr.below (below1 w (.cells #[.int .i64 0, .int .i64 d, .int .i64 n, .int .i64 q, .int .i64 s, .slice A m c] 26)))
  clear hr
  obtain ⟨c0, c1, c2, c3, c4, c5⟩ := bk6 K0.out
  go_enter Tryz.func19, Tryz.ntmps19
  go_wp2_with fail
  refine (CK.out _).mono ?_
  rintro e w' ⟨rfl, rfl⟩
  go_wp2_with fail
  refine (CD.out _).mono ?_
  rintro e w' ⟨rfl, rfl⟩
  go_wp2_with fail
  refine (CN.out _).mono ?_
  rintro e w' ⟨rfl, rfl⟩
  go_wp2
  go_ret
  exact ⟨rfl, B0.out⟩
set_option maxRecDepth 100000 in
set_option maxHeartbeats 4000000 in
theorem rre_rq (d n q s : Int) (A : Option Addr) (m c : Nat) (ns : List (Int × Int)) (w : World) (hr : RdP w A m ns) (hm : m ≤ 1000000)
    (CK : ∀ W, Calls Tryz.prog 44 #[.int .i64 0, .int .i64 0, .int .i64 1] W fun e w' => e = .returned (.bool true) ∧ W = w')
    (CD : ∀ W, Calls Tryz.prog 45 #[.int .i64 d] W fun e w' => e = .returned (.int .i64 0) ∧ W = w')
    (CN : ∀ W, Calls Tryz.prog 44 #[.int .i64 n, .int .i64 1, .int .i64 1000] W fun e w' => e = .returned (.bool true) ∧ W = w')
    (CQ : ∀ W, Calls Tryz.prog 44 #[.int .i64 q, .int .i64 1, .int .i64 1000] W fun e w' => e = .returned (.bool false) ∧ W = w')
    : Calls Tryz.prog 19 #[.agg #[.int .i64 0, .int .i64 d, .int .i64 n, .int .i64 q, .int .i64 s, .slice A m c]] w fun e w' => e = .returned (.int .i64 (2)) ∧ Below w.heap.size w w' := by
  have CK := Lib.hid CK
  have CD := Lib.hid CD
  have CN := Lib.hid CN
  have CQ := Lib.hid CQ
  have K0 := Lib.hid (Bk.new w 26 #[.int .i64 0, .int .i64 d, .int .i64 n, .int .i64 q, .int .i64 s, .slice A m c])
  have B0 := Lib.hid (below1 w (.cells #[.int .i64 0, .int .i64 d, .int .i64 n, .int .i64 q, .int .i64 s, .slice A m c] 26))
  have X0 := Lib.hid (hr.below (below1 w (.cells #[.int .i64 0, .int .i64 d, .int .i64 n, .int .i64 q, .int .i64 s, .slice A m c] 26)))
  clear hr
  obtain ⟨c0, c1, c2, c3, c4, c5⟩ := bk6 K0.out
  go_enter Tryz.func19, Tryz.ntmps19
  go_wp2_with fail
  refine (CK.out _).mono ?_
  rintro e w' ⟨rfl, rfl⟩
  go_wp2_with fail
  refine (CD.out _).mono ?_
  rintro e w' ⟨rfl, rfl⟩
  go_wp2_with fail
  refine (CN.out _).mono ?_
  rintro e w' ⟨rfl, rfl⟩
  go_wp2_with fail
  refine (CQ.out _).mono ?_
  rintro e w' ⟨rfl, rfl⟩
  go_wp2
  go_ret
  exact ⟨rfl, B0.out⟩
set_option maxRecDepth 100000 in
set_option maxHeartbeats 4000000 in
theorem rre_rs (d n q s : Int) (A : Option Addr) (m c : Nat) (ns : List (Int × Int)) (w : World) (hr : RdP w A m ns) (hm : m ≤ 1000000) (hs : ¬ s = 0)
    (CK : ∀ W, Calls Tryz.prog 44 #[.int .i64 0, .int .i64 0, .int .i64 1] W fun e w' => e = .returned (.bool true) ∧ W = w')
    (CD : ∀ W, Calls Tryz.prog 45 #[.int .i64 d] W fun e w' => e = .returned (.int .i64 0) ∧ W = w')
    (CN : ∀ W, Calls Tryz.prog 44 #[.int .i64 n, .int .i64 1, .int .i64 1000] W fun e w' => e = .returned (.bool true) ∧ W = w')
    (CQ : ∀ W, Calls Tryz.prog 44 #[.int .i64 q, .int .i64 1, .int .i64 1000] W fun e w' => e = .returned (.bool true) ∧ W = w')
    : Calls Tryz.prog 19 #[.agg #[.int .i64 0, .int .i64 d, .int .i64 n, .int .i64 q, .int .i64 s, .slice A m c]] w fun e w' => e = .returned (.int .i64 (3)) ∧ Below w.heap.size w w' := by
  have CK := Lib.hid CK
  have CD := Lib.hid CD
  have CN := Lib.hid CN
  have CQ := Lib.hid CQ
  have dS := neT hs
  clear hs
  have K0 := Lib.hid (Bk.new w 26 #[.int .i64 0, .int .i64 d, .int .i64 n, .int .i64 q, .int .i64 s, .slice A m c])
  have B0 := Lib.hid (below1 w (.cells #[.int .i64 0, .int .i64 d, .int .i64 n, .int .i64 q, .int .i64 s, .slice A m c] 26))
  have X0 := Lib.hid (hr.below (below1 w (.cells #[.int .i64 0, .int .i64 d, .int .i64 n, .int .i64 q, .int .i64 s, .slice A m c] 26)))
  clear hr
  obtain ⟨c0, c1, c2, c3, c4, c5⟩ := bk6 K0.out
  go_enter Tryz.func19, Tryz.ntmps19
  go_wp2_with fail
  refine (CK.out _).mono ?_
  rintro e w' ⟨rfl, rfl⟩
  go_wp2_with fail
  refine (CD.out _).mono ?_
  rintro e w' ⟨rfl, rfl⟩
  go_wp2_with fail
  refine (CN.out _).mono ?_
  rintro e w' ⟨rfl, rfl⟩
  go_wp2_with fail
  refine (CQ.out _).mono ?_
  rintro e w' ⟨rfl, rfl⟩
  go_wp2
  go_ret
  exact ⟨rfl, B0.out⟩
set_option maxRecDepth 100000 in
set_option maxHeartbeats 4000000 in
theorem rre_rm (d n q s : Int) (A : Option Addr) (m c : Nat) (ns : List (Int × Int)) (w : World) (hr : RdP w A m ns) (hm : m ≤ 1000000) (hm0 : 0 < m)
    (CK : ∀ W, Calls Tryz.prog 44 #[.int .i64 0, .int .i64 0, .int .i64 1] W fun e w' => e = .returned (.bool true) ∧ W = w')
    (CD : ∀ W, Calls Tryz.prog 45 #[.int .i64 d] W fun e w' => e = .returned (.int .i64 0) ∧ W = w')
    (CN : ∀ W, Calls Tryz.prog 44 #[.int .i64 n, .int .i64 1, .int .i64 1000] W fun e w' => e = .returned (.bool true) ∧ W = w')
    (CQ : ∀ W, Calls Tryz.prog 44 #[.int .i64 q, .int .i64 1, .int .i64 1000] W fun e w' => e = .returned (.bool true) ∧ W = w')
    : Calls Tryz.prog 19 #[.agg #[.int .i64 0, .int .i64 d, .int .i64 n, .int .i64 q, .int .i64 0, .slice A m c]] w fun e w' => e = .returned (.int .i64 (3)) ∧ Below w.heap.size w w' := by
  have CK := Lib.hid CK
  have CD := Lib.hid CD
  have CN := Lib.hid CN
  have CQ := Lib.hid CQ
  have dM : ((m : Int) != 0) = true := by rw [bne_iff_ne]; omega
  clear hm0
  have K0 := Lib.hid (Bk.new w 26 #[.int .i64 0, .int .i64 d, .int .i64 n, .int .i64 q, .int .i64 0, .slice A m c])
  have B0 := Lib.hid (below1 w (.cells #[.int .i64 0, .int .i64 d, .int .i64 n, .int .i64 q, .int .i64 0, .slice A m c] 26))
  have X0 := Lib.hid (hr.below (below1 w (.cells #[.int .i64 0, .int .i64 d, .int .i64 n, .int .i64 q, .int .i64 0, .slice A m c] 26)))
  clear hr
  obtain ⟨c0, c1, c2, c3, c4, c5⟩ := bk6 K0.out
  go_enter Tryz.func19, Tryz.ntmps19
  go_wp2_with fail
  refine (CK.out _).mono ?_
  rintro e w' ⟨rfl, rfl⟩
  go_wp2_with fail
  refine (CD.out _).mono ?_
  rintro e w' ⟨rfl, rfl⟩
  go_wp2_with fail
  refine (CN.out _).mono ?_
  rintro e w' ⟨rfl, rfl⟩
  go_wp2_with fail
  refine (CQ.out _).mono ?_
  rintro e w' ⟨rfl, rfl⟩
  go_wp2
  go_ret
  exact ⟨rfl, B0.out⟩
set_option maxRecDepth 100000 in
set_option maxHeartbeats 4000000 in
theorem rre_rok (d n q s : Int) (A : Option Addr) (m c : Nat) (ns : List (Int × Int)) (w : World) (hr : RdP w A m ns) (hm : m ≤ 1000000) (hm0 : m = 0)
    (CK : ∀ W, Calls Tryz.prog 44 #[.int .i64 0, .int .i64 0, .int .i64 1] W fun e w' => e = .returned (.bool true) ∧ W = w')
    (CD : ∀ W, Calls Tryz.prog 45 #[.int .i64 d] W fun e w' => e = .returned (.int .i64 0) ∧ W = w')
    (CN : ∀ W, Calls Tryz.prog 44 #[.int .i64 n, .int .i64 1, .int .i64 1000] W fun e w' => e = .returned (.bool true) ∧ W = w')
    (CQ : ∀ W, Calls Tryz.prog 44 #[.int .i64 q, .int .i64 1, .int .i64 1000] W fun e w' => e = .returned (.bool true) ∧ W = w')
    : Calls Tryz.prog 19 #[.agg #[.int .i64 0, .int .i64 d, .int .i64 n, .int .i64 q, .int .i64 0, .slice A m c]] w fun e w' => e = .returned (.int .i64 (0)) ∧ Below w.heap.size w w' := by
  have CK := Lib.hid CK
  have CD := Lib.hid CD
  have CN := Lib.hid CN
  have CQ := Lib.hid CQ
  subst hm0
  have K0 := Lib.hid (Bk.new w 26 #[.int .i64 0, .int .i64 d, .int .i64 n, .int .i64 q, .int .i64 0, .slice A 0 c])
  have B0 := Lib.hid (below1 w (.cells #[.int .i64 0, .int .i64 d, .int .i64 n, .int .i64 q, .int .i64 0, .slice A 0 c] 26))
  have X0 := Lib.hid (hr.below (below1 w (.cells #[.int .i64 0, .int .i64 d, .int .i64 n, .int .i64 q, .int .i64 0, .slice A 0 c] 26)))
  clear hr
  obtain ⟨c0, c1, c2, c3, c4, c5⟩ := bk6 K0.out
  go_enter Tryz.func19, Tryz.ntmps19
  go_wp2_with fail
  refine (CK.out _).mono ?_
  rintro e w' ⟨rfl, rfl⟩
  go_wp2_with fail
  refine (CD.out _).mono ?_
  rintro e w' ⟨rfl, rfl⟩
  go_wp2_with fail
  refine (CN.out _).mono ?_
  rintro e w' ⟨rfl, rfl⟩
  go_wp2_with fail
  refine (CQ.out _).mono ?_
  rintro e w' ⟨rfl, rfl⟩
  go_wp2
  go_ret
  exact ⟨rfl, B0.out⟩
set_option maxRecDepth 100000 in
set_option maxHeartbeats 4000000 in
theorem rre_mE (d n q s : Int) (A : Option Addr) (m c : Nat) (ns : List (Int × Int)) (w : World) (hr : RdP w A m ns) (hm : m ≤ 1000000) (M : Int) (hM : ¬ M = 0)
    (CK : ∀ W, Calls Tryz.prog 44 #[.int .i64 1, .int .i64 0, .int .i64 1] W fun e w' => e = .returned (.bool true) ∧ W = w')
    (CD : ∀ W, Calls Tryz.prog 45 #[.int .i64 d] W fun e w' => e = .returned (.int .i64 0) ∧ W = w')
    (CM : ∀ W, RdP W A m ns → Calls Tryz.prog 46 #[.agg #[.slice A m c]] W fun e w' => e = .returned (.int .i64 M) ∧ Below W.heap.size W w')
    : Calls Tryz.prog 19 #[.agg #[.int .i64 1, .int .i64 d, .int .i64 n, .int .i64 q, .int .i64 s, .slice A m c]] w fun e w' => e = .returned (.int .i64 (M)) ∧ Below w.heap.size w w' := by
  have CK := Lib.hid CK
  have CD := Lib.hid CD
  have CM := Lib.hid CM
  have dM := neT hM
  clear hM
  have K0 := Lib.hid (Bk.new w 26 #[.int .i64 1, .int .i64 d, .int .i64 n, .int .i64 q, .int .i64 s, .slice A m c])
  have B0 := Lib.hid (below1 w (.cells #[.int .i64 1, .int .i64 d, .int .i64 n, .int .i64 q, .int .i64 s, .slice A m c] 26))
  have X0 := Lib.hid (hr.below (below1 w (.cells #[.int .i64 1, .int .i64 d, .int .i64 n, .int .i64 q, .int .i64 s, .slice A m c] 26)))
  clear hr
  obtain ⟨c0, c1, c2, c3, c4, c5⟩ := bk6 K0.out
  go_enter Tryz.func19, Tryz.ntmps19
  go_wp2_with fail
  refine (CK.out _).mono ?_
  rintro e w' ⟨rfl, rfl⟩
  go_wp2_with fail
  refine (CD.out _).mono ?_
  rintro e w' ⟨rfl, rfl⟩
  clear c0 c1 c2 c3 c4
  go_wp2_with fail
  refine (CM.out _ X0.out).mono ?_
  rintro e w1 ⟨rfl, hb⟩
  have K1 := Lib.hid (K0.out.later hb)
  have B1 := Lib.hid (B0.out.trans (hb.mono B0.out.size))
  have X1 := Lib.hid (X0.out.below hb)
  clear K0 B0 X0 hb
  clear c5
  obtain ⟨c0, c1, c2, c3, c4, c5⟩ := bk6 K1.out
  go_wp2
  go_ret
  exact ⟨rfl, B1.out⟩
set_option maxRecDepth 100000 in
set_option maxHeartbeats 4000000 in
theorem rre_ms (d n q s : Int) (A : Option Addr) (m c : Nat) (ns : List (Int × Int)) (w : World) (hr : RdP w A m ns) (hm : m ≤ 1000000)
    (CK : ∀ W, Calls Tryz.prog 44 #[.int .i64 1, .int .i64 0, .int .i64 1] W fun e w' => e = .returned (.bool true) ∧ W = w')
    (CD : ∀ W, Calls Tryz.prog 45 #[.int .i64 d] W fun e w' => e = .returned (.int .i64 0) ∧ W = w')
    (CM : ∀ W, RdP W A m ns → Calls Tryz.prog 46 #[.agg #[.slice A m c]] W fun e w' => e = .returned (.int .i64 0) ∧ Below W.heap.size W w')
    (CS : ∀ W, Calls Tryz.prog 44 #[.int .i64 s, .int .i64 1, .int .i64 1000000000000] W fun e w' => e = .returned (.bool false) ∧ W = w')
    : Calls Tryz.prog 19 #[.agg #[.int .i64 1, .int .i64 d, .int .i64 n, .int .i64 q, .int .i64 s, .slice A m c]] w fun e w' => e = .returned (.int .i64 (2)) ∧ Below w.heap.size w w' := by
  have CK := Lib.hid CK
  have CD := Lib.hid CD
  have CM := Lib.hid CM
  have CS := Lib.hid CS
  have K0 := Lib.hid (Bk.new w 26 #[.int .i64 1, .int .i64 d, .int .i64 n, .int .i64 q, .int .i64 s, .slice A m c])
  have B0 := Lib.hid (below1 w (.cells #[.int .i64 1, .int .i64 d, .int .i64 n, .int .i64 q, .int .i64 s, .slice A m c] 26))
  have X0 := Lib.hid (hr.below (below1 w (.cells #[.int .i64 1, .int .i64 d, .int .i64 n, .int .i64 q, .int .i64 s, .slice A m c] 26)))
  clear hr
  obtain ⟨c0, c1, c2, c3, c4, c5⟩ := bk6 K0.out
  go_enter Tryz.func19, Tryz.ntmps19
  go_wp2_with fail
  refine (CK.out _).mono ?_
  rintro e w' ⟨rfl, rfl⟩
  go_wp2_with fail
  refine (CD.out _).mono ?_
  rintro e w' ⟨rfl, rfl⟩
  clear c0 c1 c2 c3 c4
  go_wp2_with fail
  refine (CM.out _ X0.out).mono ?_
  rintro e w1 ⟨rfl, hb⟩
  have K1 := Lib.hid (K0.out.later hb)
  have B1 := Lib.hid (B0.out.trans (hb.mono B0.out.size))
  have X1 := Lib.hid (X0.out.below hb)
  clear K0 B0 X0 hb
  clear c5
  obtain ⟨c0, c1, c2, c3, c4, c5⟩ := bk6 K1.out
  go_wp2_with fail
  refine (CS.out _).mono ?_
  rintro e w' ⟨rfl, rfl⟩
  go_wp2
  go_ret
  exact ⟨rfl, B1.out⟩
set_option maxRecDepth 100000 in
set_option maxHeartbeats 4000000 in
theorem rre_mn (d n q s : Int) (A : Option Addr) (m c : Nat) (ns : List (Int × Int)) (w : World) (hr : RdP w A m ns) (hm : m ≤ 1000000) (hn : ¬ n = 0)
    (CK : ∀ W, Calls Tryz.prog 44 #[.int .i64 1, .int .i64 0, .int .i64 1] W fun e w' => e = .returned (.bool true) ∧ W = w')
    (CD : ∀ W, Calls Tryz.prog 45 #[.int .i64 d] W fun e w' => e = .returned (.int .i64 0) ∧ W = w')
    (CM : ∀ W, RdP W A m ns → Calls Tryz.prog 46 #[.agg #[.slice A m c]] W fun e w' => e = .returned (.int .i64 0) ∧ Below W.heap.size W w')
    (CS : ∀ W, Calls Tryz.prog 44 #[.int .i64 s, .int .i64 1, .int .i64 1000000000000] W fun e w' => e = .returned (.bool true) ∧ W = w')
    : Calls Tryz.prog 19 #[.agg #[.int .i64 1, .int .i64 d, .int .i64 n, .int .i64 q, .int .i64 s, .slice A m c]] w fun e w' => e = .returned (.int .i64 (3)) ∧ Below w.heap.size w w' := by
  have CK := Lib.hid CK
  have CD := Lib.hid CD
  have CM := Lib.hid CM
  have CS := Lib.hid CS
  have dN := neT hn
  clear hn
  have K0 := Lib.hid (Bk.new w 26 #[.int .i64 1, .int .i64 d, .int .i64 n, .int .i64 q, .int .i64 s, .slice A m c])
  have B0 := Lib.hid (below1 w (.cells #[.int .i64 1, .int .i64 d, .int .i64 n, .int .i64 q, .int .i64 s, .slice A m c] 26))
  have X0 := Lib.hid (hr.below (below1 w (.cells #[.int .i64 1, .int .i64 d, .int .i64 n, .int .i64 q, .int .i64 s, .slice A m c] 26)))
  clear hr
  obtain ⟨c0, c1, c2, c3, c4, c5⟩ := bk6 K0.out
  go_enter Tryz.func19, Tryz.ntmps19
  go_wp2_with fail
  refine (CK.out _).mono ?_
  rintro e w' ⟨rfl, rfl⟩
  go_wp2_with fail
  refine (CD.out _).mono ?_
  rintro e w' ⟨rfl, rfl⟩
  clear c0 c1 c2 c3 c4
  go_wp2_with fail
  refine (CM.out _ X0.out).mono ?_
  rintro e w1 ⟨rfl, hb⟩
  have K1 := Lib.hid (K0.out.later hb)
  have B1 := Lib.hid (B0.out.trans (hb.mono B0.out.size))
  have X1 := Lib.hid (X0.out.below hb)
  clear K0 B0 X0 hb
  clear c5
  obtain ⟨c0, c1, c2, c3, c4, c5⟩ := bk6 K1.out
  go_wp2_with fail
  refine (CS.out _).mono ?_
  rintro e w' ⟨rfl, rfl⟩
  go_wp2
  go_ret
  exact ⟨rfl, B1.out⟩
set_option maxRecDepth 100000 in
set_option maxHeartbeats 4000000 in
theorem rre_mq (d n q s : Int) (A : Option Addr) (m c : Nat) (ns : List (Int × Int)) (w : World) (hr : RdP w A m ns) (hm : m ≤ 1000000) (hq : ¬ q = 0)
    (CK : ∀ W, Calls Tryz.prog 44 #[.int .i64 1, .int .i64 0, .int .i64 1] W fun e w' => e = .returned (.bool true) ∧ W = w')
    (CD : ∀ W, Calls Tryz.prog 45 #[.int .i64 d] W fun e w' => e = .returned (.int .i64 0) ∧ W = w')
    (CM : ∀ W, RdP W A m ns → Calls Tryz.prog 46 #[.agg #[.slice A m c]] W fun e w' => e = .returned (.int .i64 0) ∧ Below W.heap.size W w')
    (CS : ∀ W, Calls Tryz.prog 44 #[.int .i64 s, .int .i64 1, .int .i64 1000000000000] W fun e w' => e = .returned (.bool true) ∧ W = w')
    : Calls Tryz.prog 19 #[.agg #[.int .i64 1, .int .i64 d, .int .i64 0, .int .i64 q, .int .i64 s, .slice A m c]] w fun e w' => e = .returned (.int .i64 (3)) ∧ Below w.heap.size w w' := by
  have CK := Lib.hid CK
  have CD := Lib.hid CD
  have CM := Lib.hid CM
  have CS := Lib.hid CS
  have dQ := neT hq
  clear hq
  have K0 := Lib.hid (Bk.new w 26 #[.int .i64 1, .int .i64 d, .int .i64 0, .int .i64 q, .int .i64 s, .slice A m c])
  have B0 := Lib.hid (below1 w (.cells #[.int .i64 1, .int .i64 d, .int .i64 0, .int .i64 q, .int .i64 s, .slice A m c] 26))
  have X0 := Lib.hid (hr.below (below1 w (.cells #[.int .i64 1, .int .i64 d, .int .i64 0, .int .i64 q, .int .i64 s, .slice A m c] 26)))
  clear hr
  obtain ⟨c0, c1, c2, c3, c4, c5⟩ := bk6 K0.out
  go_enter Tryz.func19, Tryz.ntmps19
  go_wp2_with fail
  refine (CK.out _).mono ?_
  rintro e w' ⟨rfl, rfl⟩
  go_wp2_with fail
  refine (CD.out _).mono ?_
  rintro e w' ⟨rfl, rfl⟩
  clear c0 c1 c2 c3 c4
  go_wp2_with fail
  refine (CM.out _ X0.out).mono ?_
  rintro e w1 ⟨rfl, hb⟩
  have K1 := Lib.hid (K0.out.later hb)
  have B1 := Lib.hid (B0.out.trans (hb.mono B0.out.size))
  have X1 := Lib.hid (X0.out.below hb)
  clear K0 B0 X0 hb
  clear c5
  obtain ⟨c0, c1, c2, c3, c4, c5⟩ := bk6 K1.out
  go_wp2_with fail
  refine (CS.out _).mono ?_
  rintro e w' ⟨rfl, rfl⟩
  go_wp2
  go_ret
  exact ⟨rfl, B1.out⟩
set_option maxRecDepth 100000 in
set_option maxHeartbeats 4000000 in
theorem rre_mok (d n q s : Int) (A : Option Addr) (m c : Nat) (ns : List (Int × Int)) (w : World) (hr : RdP w A m ns) (hm : m ≤ 1000000)
    (CK : ∀ W, Calls Tryz.prog 44 #[.int .i64 1, .int .i64 0, .int .i64 1] W fun e w' => e = .returned (.bool true) ∧ W = w')
    (CD : ∀ W, Calls Tryz.prog 45 #[.int .i64 d] W fun e w' => e = .returned (.int .i64 0) ∧ W = w')
    (CM : ∀ W, RdP W A m ns → Calls Tryz.prog 46 #[.agg #[.slice A m c]] W fun e w' => e = .returned (.int .i64 0) ∧ Below W.heap.size W w')
    (CS : ∀ W, Calls Tryz.prog 44 #[.int .i64 s, .int .i64 1, .int .i64 1000000000000] W fun e w' => e = .returned (.bool true) ∧ W = w')
    : Calls Tryz.prog 19 #[.agg #[.int .i64 1, .int .i64 d, .int .i64 0, .int .i64 0, .int .i64 s, .slice A m c]] w fun e w' => e = .returned (.int .i64 (0)) ∧ Below w.heap.size w w' := by
  have CK := Lib.hid CK
  have CD := Lib.hid CD
  have CM := Lib.hid CM
  have CS := Lib.hid CS
  have K0 := Lib.hid (Bk.new w 26 #[.int .i64 1, .int .i64 d, .int .i64 0, .int .i64 0, .int .i64 s, .slice A m c])
  have B0 := Lib.hid (below1 w (.cells #[.int .i64 1, .int .i64 d, .int .i64 0, .int .i64 0, .int .i64 s, .slice A m c] 26))
  have X0 := Lib.hid (hr.below (below1 w (.cells #[.int .i64 1, .int .i64 d, .int .i64 0, .int .i64 0, .int .i64 s, .slice A m c] 26)))
  clear hr
  obtain ⟨c0, c1, c2, c3, c4, c5⟩ := bk6 K0.out
  go_enter Tryz.func19, Tryz.ntmps19
  go_wp2_with fail
  refine (CK.out _).mono ?_
  rintro e w' ⟨rfl, rfl⟩
  go_wp2_with fail
  refine (CD.out _).mono ?_
  rintro e w' ⟨rfl, rfl⟩
  clear c0 c1 c2 c3 c4
  go_wp2_with fail
  refine (CM.out _ X0.out).mono ?_
  rintro e w1 ⟨rfl, hb⟩
  have K1 := Lib.hid (K0.out.later hb)
  have B1 := Lib.hid (B0.out.trans (hb.mono B0.out.size))
  have X1 := Lib.hid (X0.out.below hb)
  clear K0 B0 X0 hb
  clear c5
  obtain ⟨c0, c1, c2, c3, c4, c5⟩ := bk6 K1.out
  go_wp2_with fail
  refine (CS.out _).mono ?_
  rintro e w' ⟨rfl, rfl⟩
  go_wp2
  go_ret
  exact ⟨rfl, B1.out⟩
theorem fromB_two (lo hi x y : Int) : fromB lo hi [x, y] = (fromB lo hi [x] && fromB lo hi [y]) := by simp [fromB]
theorem refRulesErr_any (k d n q s : Int) (A : Option Addr) (m c : Nat) (ns : List (Int × Int)) (w : World) (hr : RdP w A m ns) (hm : m ≤ 1000000) :
    Calls Tryz.prog 19 #[.agg #[.int .i64 k, .int .i64 d, .int .i64 n, .int .i64 q, .int .i64 s, .slice A m c]] w fun e w' => e = .returned (.int .i64 (rulC k d n q s m ns)) ∧ Below w.heap.size w w' := by
  have CK := fun W => within_any k 0 1 W
  have CD := fun W => refDegreeErr_any d W
  have CM := fun W (h : RdP W A m ns) => refMapErr_any A m c ns W h hm
  unfold rulC
  by_cases hk : k < 0 ∨ 2 ≤ k
  · rw [if_pos hk]
    rw [show fromB 0 1 [k] = false by rw [fromB_one]; exact decide_eq_false (by omega)] at CK
    exact rre_K k d n q s A m c ns w hr hm CK
  rw [if_neg hk]
  rw [show fromB 0 1 [k] = true by rw [fromB_one]; exact decide_eq_true (by omega)] at CK
  by_cases hD : degE d = 0
  rotate_left
  · rw [if_neg hD]
    exact rre_D k d n q s A m c ns w hr hm (by omega) _ hD CK CD
  rw [if_pos hD]
  rw [hD] at CD
  rcases (by omega : k = 0 ∨ k = 1) with rfl | rfl
  · rw [if_pos rfl]
    have CN := fun W => within_any n 1 1000 W
    have CQ := fun W => within_any q 1 1000 W
    unfold ratC rngE
    rw [fromB_two]
    cases hn : fromB 1 1000 [n] with
    | false =>
      rw [hn] at CN
      rw [if_neg (by simp)]
      exact rre_rn d n q s A m c ns w hr hm CK CD CN
    | true =>
      rw [hn] at CN
      cases hq : fromB 1 1000 [q] with
      | false =>
        rw [hq] at CQ
        rw [if_neg (by simp)]
        exact rre_rq d n q s A m c ns w hr hm CK CD CN CQ
      | true =>
        rw [hq] at CQ
        rw [if_pos (by simp)]
        by_cases hs : s = 0
        · subst hs
          by_cases hm0 : m = 0
          · rw [if_neg (by omega)]
            exact rre_rok d n q 0 A m c ns w hr hm hm0 CK CD CN CQ
          · rw [if_pos (by omega)]
            exact rre_rm d n q 0 A m c ns w hr hm (by omega) CK CD CN CQ
        · rw [if_pos (.inl hs)]
          exact rre_rs d n q s A m c ns w hr hm hs CK CD CN CQ
  · rw [if_neg (by omega)]
    have CS := fun W => within_any s 1 1000000000000 W
    unfold mpC rngE
    by_cases hM : (mapR ns).2 = 0
    rotate_left
    · rw [show firstNZ [(mapR ns).2, (if fromB 1 1000000000000 [s] = true then 0 else 2), if n ≠ 0 ∨ q ≠ 0 then 3 else 0] = (mapR ns).2 by simp [firstNZ, hM]]
      exact rre_mE d n q s A m c ns w hr hm _ hM CK CD CM
    rw [hM] at CM ⊢
    cases hs : fromB 1 1000000000000 [s] with
    | false =>
      rw [hs] at CS
      rw [if_neg (by simp)]
      exact rre_ms d n q s A m c ns w hr hm CK CD CM CS
    | true =>
      rw [hs] at CS
      rw [if_pos rfl]
      by_cases hn : n = 0
      · subst hn
        by_cases hq : q = 0
        · subst hq
          rw [if_neg (by simp)]
          exact rre_mok d 0 0 s A m c ns w hr hm CK CD CM CS
        · rw [if_pos (.inr hq)]
          exact rre_mq d 0 q s A m c ns w hr hm hq CK CD CM CS
      · rw [if_pos (.inl hn)]
        exact rre_mn d n q s A m c ns w hr hm hn CK CD CM CS

end Go.Proofs.YtjjflbnopphciacGreatDoor


namespace Go.Proofs.YtjjflbnopphciacGreatDoor
open Go.RowKit

/-! ### the positions at times of a map -/
theorem holdsT_no {t : Int} {ns : List (Int × Int)} {x : Nat} (h : t < (ns.getD x (0, 0)).2 ∨ (ns.getD (x + 1) (0, 0)).2 < t) : holdsT t ns x = false := by
  unfold holdsT
  rw [Bool.and_eq_false_iff]
  rcases h with h | h
  · exact .inl (decide_eq_false (by omega))
  · exact .inr (decide_eq_false (by omega))
theorem holdsT_yes {t : Int} {ns : List (Int × Int)} {x : Nat} (h1 : (ns.getD x (0, 0)).2 ≤ t) (h2 : t ≤ (ns.getD (x + 1) (0, 0)).2) : holdsT t ns x = true := by
  unfold holdsT
  rw [decide_eq_true h1, decide_eq_true h2]; rfl
theorem posR_at {t : Int} {ns : List (Int × Int)} (hE : (mapR ns).2 = 0) {p : Nat} (hp : p + 1 < ns.length) (hbefore : ∀ j, j < p → (ns.getD (j + 1) (0, 0)).2 < t) (h1 : (ns.getD p (0, 0)).2 ≤ t) (h2 : t ≤ (ns.getD (p + 1) (0, 0)).2) :
    posR t ns = (posLo (ns.getD p (0, 0)).1 (ns.getD p (0, 0)).2 (ns.getD (p + 1) (0, 0)).1 (ns.getD (p + 1) (0, 0)).2 t, posHi (ns.getD p (0, 0)).1 (ns.getD p (0, 0)).2 (ns.getD (p + 1) (0, 0)).1 (ns.getD (p + 1) (0, 0)).2 t, 0) := by
  have hf : findP t ns 0 (ns.length - 1) = some (0 + p) := findP_some (fun x _ hx => holdsT_no (.inr (hbefore x (by omega)))) (by omega) (by rw [Nat.zero_add]; exact holdsT_yes h1 h2)
  rw [Nat.zero_add] at hf
  unfold posR
  rw [if_pos hE, hf]
theorem first_piece {t : Int} {ns : List (Int × Int)} : ∀ (k : Nat), 0 < k → k < ns.length → (ns.getD 0 (0, 0)).2 ≤ t → t ≤ (ns.getD k (0, 0)).2 → ∃ p, p + 1 ≤ k ∧ (∀ j, j < p → (ns.getD (j + 1) (0, 0)).2 < t) ∧ (ns.getD p (0, 0)).2 ≤ t ∧ t ≤ (ns.getD (p + 1) (0, 0)).2
  | 0, h, _, _, _ => absurd h (by omega)
  | k + 1, _, hk, h0, h1 => by
    by_cases hk0 : k = 0
    · subst hk0
      exact ⟨0, by omega, fun j hj => absurd hj (by omega), h0, h1⟩
    · by_cases h2 : t ≤ (ns.getD k (0, 0)).2
      · obtain ⟨p, hp, hb, ha, hc⟩ := first_piece k (by omega) (by omega) h0 h2
        exact ⟨p, by omega, hb, ha, hc⟩
      · by_cases hall : ∀ j, j < k → (ns.getD (j + 1) (0, 0)).2 < t
        · exact ⟨k, by omega, hall, by omega, h1⟩
        · have : ∃ j, j < k ∧ t ≤ (ns.getD (j + 1) (0, 0)).2 := by
            refine Classical.byContradiction fun h => hall fun j hj => ?_
            refine Classical.byContradiction fun h' => h ⟨j, hj, by omega⟩
          obtain ⟨j, hj, hj2⟩ := this
          obtain ⟨p, hp, hb, ha, hc⟩ := first_piece (j + 1) (by omega) (by omega) h0 hj2
          exact ⟨p, by omega, hb, ha, hc⟩
theorem posR_past {t : Int} {ns : List (Int × Int)} (hE : (mapR ns).2 = 0) (h : ∀ i, i + 1 < ns.length → (ns.getD (i + 1) (0, 0)).2 < t) : posR t ns = (0, 0, 2) := by
  have hf : findP t ns 0 (ns.length - 1) = none := findP_none (fun x _ hx => holdsT_no (.inr (h x (by omega))))
  unfold posR
  rw [if_pos hE, hf]
theorem nodes_le {ns : List (Int × Int)} (hok : nodesOk ns) : ∀ (k j : Nat), j + k < ns.length → (ns.getD j (0, 0)).2 ≤ (ns.getD (j + k) (0, 0)).2
  | 0, j, _ => Int.le_refl _
  | k + 1, j, h => by
    have h1 := nodes_le hok k j (by omega)
    have h2 := hok (j + k) (by omega)
    have : j + (k + 1) = j + k + 1 := by omega
    rw [this]
    omega
/-! ### the reference's positions -/
theorem nodF1 (a b : Int) (W : World) : (Instr.field 99 (.agg #[.int .i64 a, .int .i64 b]) 1).run Tryz.prog W = .ok (.int .i64 b) W := by kernel_rfl
theorem rngF0 (a b : Int) (W : World) : (Instr.field 151 (.agg #[.int .i64 a, .int .i64 b]) 0).run Tryz.prog W = .ok (.int .i64 a) W := by kernel_rfl
theorem pos_stop {opv : Nat → Int × Int} {last : Int} {k : Nat} (hk : k ≤ 2000) (h1 : ∀ i, i < k → goodAt opv last i) (h2 : ¬ goodAt opv last k) : posOut opv last = ((List.range k).map (fun i => (opv i).1), 0) := by
  have e : stopAt opv last 0 2001 = k := stopAt_eq (fun i _ hi => h1 i hi) (Nat.zero_le _) (by omega) (fun _ => h2)
  unfold posOut
  rw [e, if_neg (by omega)]
theorem pos_many {opv : Nat → Int × Int} {last : Int} (h1 : ∀ i, i < 2001 → goodAt opv last i) : posOut opv last = ([], 8) := by
  have e : stopAt opv last 0 2001 = 2001 := stopAt_eq (fun i _ hi => h1 i hi) (Nat.zero_le _) (by omega) (fun h => absurd h (by omega))
  unfold posOut
  rw [e, if_pos rfl]
/-- The positions found so far. -/
def posL (opv : Nat → Int × Int) (k : Nat) : List Int := (List.range k).map fun i => (opv i).1
theorem posL_len (opv : Nat → Int × Int) (k : Nat) : (posL opv k).length = k := by simp [posL]
theorem posL_succ (opv : Nat → Int × Int) (k : Nat) : posL opv (k + 1) = posL opv k ++ [(opv k).1] := by simp [posL, List.range_succ]
theorem ownResB_mk {w w' : World} {opv : Nat → Int × Int} {last : Int} {k : Nat} {v : Value} {L : List Int} {E : Int} (hp : posOut opv last = (L, E)) {b : Bool} (hb : b = decide (E = 0)) (hL : L.length = k) (ho : w'.ownsRow w.heap.size 3 1 v k (L.map (Value.int .i64))) (h2 : Below w.heap.size w w') :
    OwnResB w (decide ((posOut opv last).2 = 0)) (posOut opv last).1 (.returned (.tuple #[v, .bool b])) w' := by
  rw [hp, hb]
  subst hL
  exact ⟨⟨v, rfl, ho⟩, h2⟩
end Go.Proofs.YtjjflbnopphciacGreatDoor


namespace Go.Proofs.YtjjflbnopphciacGreatDoor
open Go.RowKit

end Go.Proofs.YtjjflbnopphciacGreatDoor

