import Derived.Test.YtepcciodhppbnaaS8
import Derived.Test.YtepcciodhppbnaaS4
import Derived.Test.YtepcciodhppbnaaS5
import Derived.Test.YtepcciodhppbnaaE43

namespace Go.Proofs.Ytepcciodhppbnaa
open Go.RowKit

theorem tk_getD {l : List Int} {j k : Nat} (h : j < k) : (l.take k).getD j 0 = l.getD j 0 := by simp [List.getD_eq_getElem?_getD, List.getElem?_take, h]
set_option maxRecDepth 100000 in
set_option maxHeartbeats 8000000 in
theorem tbk_loop (A : Option Addr) (m c : Nat) (ns : List (Int × Int)) (s st r : Int) (w : World) (hr : RdP w A m ns) (hm0 : m ≤ 9223372036854775807) (h1 : m ≤ 20) (L N : Nat) (hL : L ≤ 60) (hN : N = L + 1) (z2 : Int) (hs : 1 ≤ s ∧ s ≤ 1000) (hst : -1000 ≤ st ∧ st ≤ 1000) (hrr : -64 ≤ r ∧ r ≤ 64) (hz0 : 0 ≤ z2) (hz2 : z2 ≤ 20000) (hd : z2 / s < 400) (K : Nat) (Y : List Int) (lo hi : Nat → Int) (T : List Int) (Sg : Int) (mx : Nat → Int)
    (CM : ∀ W, RdP W A m ns → Calls Try.prog 37 #[.agg #[.slice A m c]] W fun e w' => e = .returned (.int .i64 0) ∧ Below W.heap.size W w')
    (CFi : ∀ W, RdP W A m ns → Calls Try.prog 38 #[.agg #[.slice A m c]] W fun e w' => e = .returned (.agg #[.int .i64 0, .int .i64 0]) ∧ Below W.heap.size W w')
    (CLa : ∀ W, RdP W A m ns → Calls Try.prog 39 #[.agg #[.slice A m c]] W fun e w' => e = .returned (.agg #[.int .i64 (L : Int), .int .i64 z2]) ∧ Below W.heap.size W w')
    (CW1 : ∀ W, Calls Try.prog 18 #[.int .i64 s, .int .i64 1, .int .i64 1000] W fun e w' => e = .returned (.bool true) ∧ W = w')
    (CW2 : ∀ W, Calls Try.prog 18 #[.int .i64 st, .int .i64 (-1000), .int .i64 1000] W fun e w' => e = .returned (.bool true) ∧ W = w')
    (CW3 : ∀ W, Calls Try.prog 18 #[.int .i64 r, .int .i64 (-64), .int .i64 64] W fun e w' => e = .returned (.bool true) ∧ W = w')
    (CCM : ∀ W, RdP W A m ns → Calls Try.prog 41 #[.agg #[.slice A m c]] W (CpM W m ns))
    (CTm : ∀ i : Nat, i ≤ L → ∀ A' c' W, RdN W A' m ns → Calls Try.prog 40 #[.agg #[.slice A' m c'], .int .i64 (i : Int)] W fun e w' => e = .returned (.tuple #[.agg #[.int .i64 (lo i), .int .i64 (hi i)], .int .i64 0]) ∧ Below W.heap.size W w')
    (CRf : ∀ i : Nat, i ≤ L → ∀ W, RdP W A m ns → Calls Try.prog 42 #[.agg #[.slice A m c], .int .i64 (i : Int)] W fun e w' => e = .returned (.agg #[.int .i64 (lo i), .int .i64 (hi i)]) ∧ Below W.heap.size W w')
    (CSg : ∀ A' c' W, RdI W A' N T → Calls Try.prog 25 #[.slice A' N c'] W fun e w' => e = .returned (.int .i64 Sg) ∧ W = w')
    (HTv : ∀ i : Nat, i ≤ L → T.getD i 0 = st + r * lo i / 64)
    (HTl : T.length = N)
    (Hlo : ∀ i : Nat, i ≤ L → 0 ≤ lo i ∧ lo i ≤ 20000)
    (CRs : Sg = 0 → ∀ A' c' B' d' W, RdN W A' m ns → RdI W B' N T → Calls Try.prog 22 #[.agg #[.int .i64 1, .int .i64 1, .int .i64 0, .int .i64 0, .int .i64 s, .slice A' m c'], .slice B' N d'] W (RdRes W 0 K Y))
    (HY : Sg = 0 → ∀ k : Nat, k < K → (st + r * ((k : Int) * s) / 64 - (5 + mx N / 64 + absF r / 64) ≤ Y.getD k 0 ∧ Y.getD k 0 ≤ st + r * ((k : Int) * s) / 64 + (5 + mx N / 64 + absF r / 64)) ∧ (k : Int) * s ≤ 20000)
    (Hmb : 0 ≤ mx N ∧ mx N ≤ 60000)
    (HK : z2 / s + 1 = (K : Int))
    (HM0 : mx 0 = 0)
    (HM1 : mx 1 = 0)
    (HMs : ∀ u : Nat, mx (u + 1 + 1) = if mx (u + 1) < absF (T.getD (u + 1) 0 - T.getD u 0) then absF (T.getD (u + 1) 0 - T.getD u 0) else mx (u + 1))
    : Calls Try.prog 7 #[.agg #[.slice A m c, .int .i64 s, .int .i64 st, .int .i64 r]] w fun e w' => e = .returned (.bool true) ∧ Below w.heap.size w w' := by
  have CM := Lib.hid CM
  have CFi := Lib.hid CFi
  have CLa := Lib.hid CLa
  have CW1 := Lib.hid CW1
  have CW2 := Lib.hid CW2
  have CW3 := Lib.hid CW3
  have CCM := Lib.hid CCM
  have CTm := Lib.hid CTm
  have CRf := Lib.hid CRf
  have CSg := Lib.hid CSg
  have HTv := Lib.hid HTv
  have HTl := Lib.hid HTl
  have Hlo := Lib.hid Hlo
  have CRs := Lib.hid CRs
  have HY := Lib.hid HY
  have Hmb := Lib.hid Hmb
  have HK := Lib.hid HK
  have HM0 := Lib.hid HM0
  have HM1 := Lib.hid HM1
  have HMs := Lib.hid HMs
  obtain ⟨z1, hz1⟩ : ∃ z1 : Int, (L : Int) = z1 := ⟨_, rfl⟩
  rw [hz1] at CLa
  have hz : z1 ≤ 60 := by omega
  have hs0' := hs.1
  have hN1 : N ≤ L + 1 := by omega
  have hN2 : L + 1 ≤ N := by omega
  clear hN
  have CCI : Hid (∀ A' c' W, (A' = none → N = 0 ∧ c' = 0) → RdI W A' N T → Calls Try.prog 23 #[.slice A' N c'] W (RdOne W N T)) := Lib.hid (fun A' c' W hA h => (copyInts_any A' N c' T W hA h (by omega)).mono fun e w' ho => ho.rd h.1)
  have D20 : Hid (decide ((20 : Int) < (m : Int)) = false) := Lib.hid (by rw [decide_eq_false_iff_not]; omega)
  have hf0 := nodF0 z1 z2
  have D60 : Hid (decide ((60 : Int) < z1) = false) := Lib.hid (by rw [decide_eq_false_iff_not]; omega)
  have hf1 := nodF1 z1 z2
  have D2k : Hid (decide ((20000 : Int) < z2) = false) := Lib.hid (by rw [decide_eq_false_iff_not]; omega)
  have hs0 : ¬ s = 0 := by omega
  have hs1 : (s == 0) = false := by rw [beq_eq_false_iff_ne]; omega
  have hdt : z2.tdiv s = z2 / s := Int.tdiv_eq_ediv_of_nonneg hz0
  have hdb : 0 ≤ z2 / s ∧ z2 / s ≤ 20000 := ⟨Int.ediv_nonneg hz0 (by omega), Int.ediv_le_of_le_mul (by omega) (by have := Int.mul_le_mul_of_nonneg_left (show (1 : Int) ≤ s by omega) (show (0 : Int) ≤ 20000 by omega); omega)⟩
  obtain ⟨dv, hdv⟩ : ∃ dv, z2 / s = dv := ⟨_, rfl⟩
  rw [hdv] at hdt hdb hd
  have HK' : Hid ((K : Int) = dv + 1) := Lib.hid (by have := HK.out; omega)
  have wdv : IntKind.i64.wrap dv = dv := IntWalk.i64_in _ (by omega)
  have D400 : Hid (decide ((400 : Int) ≤ dv) = false) := Lib.hid (by rw [decide_eq_false_iff_not]; omega)
  have HRD : Hid (∀ {g : Nat} {v : Value} W, TI w g v s st r W → RdP W A m ns) := Lib.hid (fun W h => hr.below h.b)
  clear hr
  obtain ⟨i0, hi0, hza, hzb, hzc⟩ := info_parts intInfo'
  have R0 := Lib.hid (OneB.start w 66 #[.slice A m c, .int .i64 s, .int .i64 st, .int .i64 r])
  go_enter Try.func7, Try.ntmps7
  go_wp2_with fail
  refine (rAwake_any _).mono ?_
  rintro e w1 ⟨rfl, hb⟩
  have T0 : Hid (TI w w1.heap.size (.slice A m c) s st r (w1.alloc (.cells #[.slice A m c] 24))) := Lib.hid ⟨((R0.out.k.later hb)).alloc _, Bk.new _ _ _, (R0.out.b.trans (hb.mono R0.out.b.size)).alloc (R0.out.b.trans (hb.mono R0.out.b.size)).size _, (R0.out.k.later hb).lt⟩
  obtain ⟨⟨q0, q1, q2, q3⟩, _⟩ := T0.out.cells
  have q0 := (bk4 (R0.out.k.later hb)).1
  clear hb R0 q1 q2 q3
  go_upto_region 4 with fail
  clear q0
  obtain ⟨W0, hW0⟩ : ∃ W, w1.alloc (.cells #[.slice A m c] 24) = W := ⟨_, rfl⟩
  rw [hW0] at T0 ⊢
  clear hW0
  refine wp_region_held_drew (S := (fun w' : World => (w'.cell? ⟨w.heap.size, 0, none⟩ = some (.slice A m c) ∧ w'.cell? ⟨w.heap.size, 1, none⟩ = some (.int .i64 s) ∧ w'.cell? ⟨w.heap.size, 2, none⟩ = some (.int .i64 st) ∧ w'.cell? ⟨w.heap.size, 3, none⟩ = some (.int .i64 r)) ∧ w'.cell? ⟨w1.heap.size, 0, none⟩ = some (.slice A m c))) (by kernel_rfl) ?_ ?_
  · exact T0.out.drew.cells
  intro hHeld
  have TA0 := Lib.hid T0.out.drew
  refine wpAnyH_take (i := 0) (v := ?_) rfl (by kernel_rfl) (by kernel_rfl) (by kernel_rfl) (fun _ _ _ h => h) (Or.inl ⟨by rfl, ?_⟩) (by assumption) ?_
  rotate_left
  · intro w hSw; (try dsimp only at hSw); go_simp; (try (with_reducible rfl))
  try simp only [List.getElem_toArray, List.getElem_cons_succ, List.getElem_cons_zero, Act.put, List.setIfInBounds_toArray, List.set_cons_zero, List.set_cons_succ]
  refine wpAnyH_take (i := 1) (v := ?_) rfl (by kernel_rfl) (by kernel_rfl) (by kernel_rfl) (fun _ _ _ h => h) (Or.inl ⟨by rfl, ?_⟩) (by assumption) ?_
  rotate_left
  · intro w hSw; (try dsimp only at hSw); go_simp; (try (with_reducible rfl))
  try simp only [List.getElem_toArray, List.getElem_cons_succ, List.getElem_cons_zero, Act.put, List.setIfInBounds_toArray, List.set_cons_zero, List.set_cons_succ]
  refine wpAnyH_take (i := 2) (v := ?_) rfl (by kernel_rfl) (by kernel_rfl) (by kernel_rfl) (fun _ _ _ h => h) (Or.inl ⟨by rfl, ?_⟩) (by assumption) ?_
  rotate_left
  · intro w hSw; (try dsimp only at hSw); go_simp; (try (with_reducible rfl))
  try simp only [List.getElem_toArray, List.getElem_cons_succ, List.getElem_cons_zero, Act.put, List.setIfInBounds_toArray, List.set_cons_zero, List.set_cons_succ]
  refine wpAnyH_take (i := 3) (v := ?_) rfl (by kernel_rfl) (by kernel_rfl) (by kernel_rfl) (fun _ _ _ h => h) (Or.inl ⟨by rfl, ?_⟩) (by assumption) ?_
  rotate_left
  · intro w hSw; (try dsimp only at hSw); go_simp; (try (with_reducible rfl))
  try simp only [List.getElem_toArray, List.getElem_cons_succ, List.getElem_cons_zero, Act.put, List.setIfInBounds_toArray, List.set_cons_zero, List.set_cons_succ]
  simp only [D20.out]
  refine wpAnyH_take (i := 4) (v := ?_) rfl (by kernel_rfl) (by kernel_rfl) (by kernel_rfl) (fun _ _ _ h => h) (Or.inl ⟨by rfl, ?_⟩) (by assumption) ?_
  rotate_left
  · intro w hSw; (try dsimp only at hSw); go_simp; (try (with_reducible rfl))
  try simp only [List.getElem_toArray, List.getElem_cons_succ, List.getElem_cons_zero, Act.put, List.setIfInBounds_toArray, List.set_cons_zero, List.set_cons_succ]
  refine wpAnyH_take (i := 5) (v := ?_) rfl (by kernel_rfl) (by kernel_rfl) (by kernel_rfl) (fun _ _ _ h => h) (Or.inl ⟨by rfl, ?_⟩) (by assumption) ?_
  rotate_left
  · intro w hSw; (try dsimp only at hSw); go_simp; (try (with_reducible rfl))
  try simp only [List.getElem_toArray, List.getElem_cons_succ, List.getElem_cons_zero, Act.put, List.setIfInBounds_toArray, List.set_cons_zero, List.set_cons_succ]
  refine wpAnyH_ready (rs := [6]) (by kernel_rfl) (by simp) ?_
  refine AllReadyH.cons rfl (fun K hK => ?_) AllReadyH.nil
  go_simp
  go_at_call 37
  (with_reducible refine (CM.out _ (HRD.out _ TA0.out)).mono ?_)
  rintro e wz1 ⟨rfl, hb⟩
  have TA1 := Lib.hid (TI.later hb TA0.out)
  clear hb TA0
  go_wp2_with fail
  refine hK.out _ _ ?_ (fun hHeld => ?_)
  · clear hK K; exact TA1.out.cells
  clear hK K
  try simp only [List.getElem_toArray, List.getElem_cons_succ, List.getElem_cons_zero, Act.put, List.setIfInBounds_toArray, List.set_cons_zero, List.set_cons_succ]
  refine wpAnyH_take (i := 7) (v := ?_) rfl (by kernel_rfl) (by kernel_rfl) (by kernel_rfl) (fun _ _ _ h => h) (Or.inl ⟨by rfl, ?_⟩) (by assumption) ?_
  rotate_left
  · intro w hSw; (try dsimp only at hSw); go_simp; (try (with_reducible rfl))
  try simp only [List.getElem_toArray, List.getElem_cons_succ, List.getElem_cons_zero, Act.put, List.setIfInBounds_toArray, List.set_cons_zero, List.set_cons_succ]
  refine wpAnyH_take (i := 8) (v := ?_) rfl (by kernel_rfl) (by kernel_rfl) (by kernel_rfl) (fun _ _ _ h => h) (Or.inl ⟨by rfl, ?_⟩) (by assumption) ?_
  rotate_left
  · intro w hSw; (try dsimp only at hSw); go_simp; (try (with_reducible rfl))
  try simp only [List.getElem_toArray, List.getElem_cons_succ, List.getElem_cons_zero, Act.put, List.setIfInBounds_toArray, List.set_cons_zero, List.set_cons_succ]
  refine wpAnyH_take (i := 9) (v := ?_) rfl (by kernel_rfl) (by kernel_rfl) (by kernel_rfl) (fun _ _ _ h => h) (Or.inl ⟨by rfl, ?_⟩) (by assumption) ?_
  rotate_left
  · intro w hSw; (try dsimp only at hSw); go_simp; (try (with_reducible rfl))
  try simp only [List.getElem_toArray, List.getElem_cons_succ, List.getElem_cons_zero, Act.put, List.setIfInBounds_toArray, List.set_cons_zero, List.set_cons_succ]
  refine wpAnyH_take (i := 10) (v := ?_) rfl (by kernel_rfl) (by kernel_rfl) (by kernel_rfl) (fun _ _ _ h => h) (Or.inl ⟨by rfl, ?_⟩) (by assumption) ?_
  rotate_left
  · intro w hSw; (try dsimp only at hSw); go_simp; (try (with_reducible rfl))
  try simp only [List.getElem_toArray, List.getElem_cons_succ, List.getElem_cons_zero, Act.put, List.setIfInBounds_toArray, List.set_cons_zero, List.set_cons_succ]
  refine wpAnyH_take (i := 12) (v := ?_) rfl (by kernel_rfl) (by kernel_rfl) (by kernel_rfl) (fun _ _ _ h => h) (Or.inl ⟨by rfl, ?_⟩) (by assumption) ?_
  rotate_left
  · intro w hSw; (try dsimp only at hSw); go_simp; (try (with_reducible rfl))
  try simp only [List.getElem_toArray, List.getElem_cons_succ, List.getElem_cons_zero, Act.put, List.setIfInBounds_toArray, List.set_cons_zero, List.set_cons_succ]
  refine wpAnyH_ready (rs := [11]) (by kernel_rfl) (by simp) ?_
  refine AllReadyH.cons rfl (fun K hK => ?_) AllReadyH.nil
  go_simp
  go_at_call 38
  (with_reducible refine (CFi.out _ (HRD.out _ TA1.out)).mono ?_)
  rintro e wz2 ⟨rfl, hb⟩
  have TA2 := Lib.hid (TI.later hb TA1.out)
  clear hb TA1
  go_wp2_with fail
  refine hK.out _ _ ?_ (fun hHeld => ?_)
  · clear hK K; exact TA2.out.cells
  clear hK K
  try simp only [List.getElem_toArray, List.getElem_cons_succ, List.getElem_cons_zero, Act.put, List.setIfInBounds_toArray, List.set_cons_zero, List.set_cons_succ]
  refine wpAnyH_take (i := 13) (v := ?_) rfl (by kernel_rfl) (by kernel_rfl) (by kernel_rfl) (fun _ _ _ h => h) (Or.inl ⟨by rfl, ?_⟩) (by assumption) ?_
  rotate_left
  · intro w hSw; (try dsimp only at hSw); go_simp; (try (with_reducible rfl))
  try simp only [List.getElem_toArray, List.getElem_cons_succ, List.getElem_cons_zero, Act.put, List.setIfInBounds_toArray, List.set_cons_zero, List.set_cons_succ]
  refine wpAnyH_take (i := 14) (v := ?_) rfl (by kernel_rfl) (by kernel_rfl) (by kernel_rfl) (fun _ _ _ h => h) (Or.inl ⟨by rfl, ?_⟩) (by assumption) ?_
  rotate_left
  · intro w hSw; (try dsimp only at hSw); go_simp; (try (with_reducible rfl))
  try simp only [List.getElem_toArray, List.getElem_cons_succ, List.getElem_cons_zero, Act.put, List.setIfInBounds_toArray, List.set_cons_zero, List.set_cons_succ]
  refine wpAnyH_take (i := 15) (v := ?_) rfl (by kernel_rfl) (by kernel_rfl) (by kernel_rfl) (fun _ _ _ h => h) (Or.inl ⟨by rfl, ?_⟩) (by assumption) ?_
  rotate_left
  · intro w hSw; (try dsimp only at hSw); go_simp; (try (with_reducible rfl))
  try simp only [List.getElem_toArray, List.getElem_cons_succ, List.getElem_cons_zero, Act.put, List.setIfInBounds_toArray, List.set_cons_zero, List.set_cons_succ]
  refine wpAnyH_take (i := 16) (v := ?_) rfl (by kernel_rfl) (by kernel_rfl) (by kernel_rfl) (fun _ _ _ h => h) (Or.inl ⟨by rfl, ?_⟩) (by assumption) ?_
  rotate_left
  · intro w hSw; (try dsimp only at hSw); go_simp; (try (with_reducible rfl))
  try simp only [List.getElem_toArray, List.getElem_cons_succ, List.getElem_cons_zero, Act.put, List.setIfInBounds_toArray, List.set_cons_zero, List.set_cons_succ]
  refine wpAnyH_ready (rs := [17]) (by kernel_rfl) (by simp) ?_
  refine AllReadyH.cons rfl (fun K hK => ?_) AllReadyH.nil
  go_simp
  go_at_call 39
  (with_reducible refine (CLa.out _ (HRD.out _ TA2.out)).mono ?_)
  rintro e wz3 ⟨rfl, hb⟩
  have TA3 := Lib.hid (TI.later hb TA2.out)
  clear hb TA2
  go_wp2_with fail
  refine hK.out _ _ ?_ (fun hHeld => ?_)
  · clear hK K; exact TA3.out.cells
  clear hK K
  try simp only [List.getElem_toArray, List.getElem_cons_succ, List.getElem_cons_zero, Act.put, List.setIfInBounds_toArray, List.set_cons_zero, List.set_cons_succ]
  refine wpAnyH_take (i := 18) (v := ?_) rfl (by kernel_rfl) (by kernel_rfl) (by kernel_rfl) (fun _ _ _ h => h) (Or.inl ⟨by rfl, ?_⟩) (by assumption) ?_
  rotate_left
  · intro w hSw; (try dsimp only at hSw); go_simp; (try (with_reducible rfl))
  try simp only [List.getElem_toArray, List.getElem_cons_succ, List.getElem_cons_zero, Act.put, List.setIfInBounds_toArray, List.set_cons_zero, List.set_cons_succ]
  refine wpAnyH_take (i := 19) (v := ?_) rfl (by kernel_rfl) (by kernel_rfl) (by kernel_rfl) (fun _ _ _ h => h) (Or.inl ⟨by rfl, ?_⟩) (by assumption) ?_
  rotate_left
  · intro w hSw; (try dsimp only at hSw); go_simp; (try (with_reducible rfl))
  try simp only [List.getElem_toArray, List.getElem_cons_succ, List.getElem_cons_zero, Act.put, List.setIfInBounds_toArray, List.set_cons_zero, List.set_cons_succ]
  simp only [D60.out]
  refine wpAnyH_take (i := 20) (v := ?_) rfl (by kernel_rfl) (by kernel_rfl) (by kernel_rfl) (fun _ _ _ h => h) (Or.inl ⟨by rfl, ?_⟩) (by assumption) ?_
  rotate_left
  · intro w hSw; (try dsimp only at hSw); go_simp; (try (with_reducible rfl))
  try simp only [List.getElem_toArray, List.getElem_cons_succ, List.getElem_cons_zero, Act.put, List.setIfInBounds_toArray, List.set_cons_zero, List.set_cons_succ]
  refine wpAnyH_take (i := 21) (v := ?_) rfl (by kernel_rfl) (by kernel_rfl) (by kernel_rfl) (fun _ _ _ h => h) (Or.inl ⟨by rfl, ?_⟩) (by assumption) ?_
  rotate_left
  · intro w hSw; (try dsimp only at hSw); go_simp; (try (with_reducible rfl))
  try simp only [List.getElem_toArray, List.getElem_cons_succ, List.getElem_cons_zero, Act.put, List.setIfInBounds_toArray, List.set_cons_zero, List.set_cons_succ]
  refine wpAnyH_take (i := 22) (v := ?_) rfl (by kernel_rfl) (by kernel_rfl) (by kernel_rfl) (fun _ _ _ h => h) (Or.inl ⟨by rfl, ?_⟩) (by assumption) ?_
  rotate_left
  · intro w hSw; (try dsimp only at hSw); go_simp; (try (with_reducible rfl))
  try simp only [List.getElem_toArray, List.getElem_cons_succ, List.getElem_cons_zero, Act.put, List.setIfInBounds_toArray, List.set_cons_zero, List.set_cons_succ]
  refine wpAnyH_take (i := 23) (v := ?_) rfl (by kernel_rfl) (by kernel_rfl) (by kernel_rfl) (fun _ _ _ h => h) (Or.inl ⟨by rfl, ?_⟩) (by assumption) ?_
  rotate_left
  · intro w hSw; (try dsimp only at hSw); go_simp; (try (with_reducible rfl))
  try simp only [List.getElem_toArray, List.getElem_cons_succ, List.getElem_cons_zero, Act.put, List.setIfInBounds_toArray, List.set_cons_zero, List.set_cons_succ]
  refine wpAnyH_ready (rs := [24]) (by kernel_rfl) (by simp) ?_
  refine AllReadyH.cons rfl (fun K hK => ?_) AllReadyH.nil
  go_simp
  go_at_call 18
  (with_reducible refine (CW1.out _).mono ?_)
  rintro e w' ⟨rfl, rfl⟩
  go_wp2_with fail
  refine hK.out _ _ ?_ (fun hHeld => ?_)
  · clear hK K; exact TA3.out.cells
  clear hK K
  try simp only [List.getElem_toArray, List.getElem_cons_succ, List.getElem_cons_zero, Act.put, List.setIfInBounds_toArray, List.set_cons_zero, List.set_cons_succ]
  refine wpAnyH_take (i := 25) (v := ?_) rfl (by kernel_rfl) (by kernel_rfl) (by kernel_rfl) (fun _ _ _ h => h) (Or.inl ⟨by rfl, ?_⟩) (by assumption) ?_
  rotate_left
  · intro w hSw; (try dsimp only at hSw); go_simp; (try (with_reducible rfl))
  try simp only [List.getElem_toArray, List.getElem_cons_succ, List.getElem_cons_zero, Act.put, List.setIfInBounds_toArray, List.set_cons_zero, List.set_cons_succ]
  refine wpAnyH_take (i := 26) (v := ?_) rfl (by kernel_rfl) (by kernel_rfl) (by kernel_rfl) (fun _ _ _ h => h) (Or.inl ⟨by rfl, ?_⟩) (by assumption) ?_
  rotate_left
  · intro w hSw; (try dsimp only at hSw); go_simp; (try (with_reducible rfl))
  try simp only [List.getElem_toArray, List.getElem_cons_succ, List.getElem_cons_zero, Act.put, List.setIfInBounds_toArray, List.set_cons_zero, List.set_cons_succ]
  refine wpAnyH_take (i := 27) (v := ?_) rfl (by kernel_rfl) (by kernel_rfl) (by kernel_rfl) (fun _ _ _ h => h) (Or.inl ⟨by rfl, ?_⟩) (by assumption) ?_
  rotate_left
  · intro w hSw; (try dsimp only at hSw); go_simp; (try (with_reducible rfl))
  try simp only [List.getElem_toArray, List.getElem_cons_succ, List.getElem_cons_zero, Act.put, List.setIfInBounds_toArray, List.set_cons_zero, List.set_cons_succ]
  refine wpAnyH_take (i := 28) (v := ?_) rfl (by kernel_rfl) (by kernel_rfl) (by kernel_rfl) (fun _ _ _ h => h) (Or.inl ⟨by rfl, ?_⟩) (by assumption) ?_
  rotate_left
  · intro w hSw; (try dsimp only at hSw); go_simp; (try (with_reducible rfl))
  try simp only [List.getElem_toArray, List.getElem_cons_succ, List.getElem_cons_zero, Act.put, List.setIfInBounds_toArray, List.set_cons_zero, List.set_cons_succ]
  refine wpAnyH_take (i := 29) (v := ?_) rfl (by kernel_rfl) (by kernel_rfl) (by kernel_rfl) (fun _ _ _ h => h) (Or.inl ⟨by rfl, ?_⟩) (by assumption) ?_
  rotate_left
  · intro w hSw; (try dsimp only at hSw); go_simp; (try (with_reducible rfl))
  try simp only [List.getElem_toArray, List.getElem_cons_succ, List.getElem_cons_zero, Act.put, List.setIfInBounds_toArray, List.set_cons_zero, List.set_cons_succ]
  refine wpAnyH_ready (rs := [30]) (by kernel_rfl) (by simp) ?_
  refine AllReadyH.cons rfl (fun K hK => ?_) AllReadyH.nil
  go_simp
  go_at_call 18
  (with_reducible refine (CW2.out _).mono ?_)
  rintro e w' ⟨rfl, rfl⟩
  go_wp2_with fail
  refine hK.out _ _ ?_ (fun hHeld => ?_)
  · clear hK K; exact TA3.out.cells
  clear hK K
  try simp only [List.getElem_toArray, List.getElem_cons_succ, List.getElem_cons_zero, Act.put, List.setIfInBounds_toArray, List.set_cons_zero, List.set_cons_succ]
  refine wpAnyH_take (i := 31) (v := ?_) rfl (by kernel_rfl) (by kernel_rfl) (by kernel_rfl) (fun _ _ _ h => h) (Or.inl ⟨by rfl, ?_⟩) (by assumption) ?_
  rotate_left
  · intro w hSw; (try dsimp only at hSw); go_simp; (try (with_reducible rfl))
  try simp only [List.getElem_toArray, List.getElem_cons_succ, List.getElem_cons_zero, Act.put, List.setIfInBounds_toArray, List.set_cons_zero, List.set_cons_succ]
  refine wpAnyH_take (i := 32) (v := ?_) rfl (by kernel_rfl) (by kernel_rfl) (by kernel_rfl) (fun _ _ _ h => h) (Or.inl ⟨by rfl, ?_⟩) (by assumption) ?_
  rotate_left
  · intro w hSw; (try dsimp only at hSw); go_simp; (try (with_reducible rfl))
  try simp only [List.getElem_toArray, List.getElem_cons_succ, List.getElem_cons_zero, Act.put, List.setIfInBounds_toArray, List.set_cons_zero, List.set_cons_succ]
  refine wpAnyH_take (i := 33) (v := ?_) rfl (by kernel_rfl) (by kernel_rfl) (by kernel_rfl) (fun _ _ _ h => h) (Or.inl ⟨by rfl, ?_⟩) (by assumption) ?_
  rotate_left
  · intro w hSw; (try dsimp only at hSw); go_simp; (try (with_reducible rfl))
  try simp only [List.getElem_toArray, List.getElem_cons_succ, List.getElem_cons_zero, Act.put, List.setIfInBounds_toArray, List.set_cons_zero, List.set_cons_succ]
  refine wpAnyH_take (i := 34) (v := ?_) rfl (by kernel_rfl) (by kernel_rfl) (by kernel_rfl) (fun _ _ _ h => h) (Or.inl ⟨by rfl, ?_⟩) (by assumption) ?_
  rotate_left
  · intro w hSw; (try dsimp only at hSw); go_simp; (try (with_reducible rfl))
  try simp only [List.getElem_toArray, List.getElem_cons_succ, List.getElem_cons_zero, Act.put, List.setIfInBounds_toArray, List.set_cons_zero, List.set_cons_succ]
  refine wpAnyH_take (i := 35) (v := ?_) rfl (by kernel_rfl) (by kernel_rfl) (by kernel_rfl) (fun _ _ _ h => h) (Or.inl ⟨by rfl, ?_⟩) (by assumption) ?_
  rotate_left
  · intro w hSw; (try dsimp only at hSw); go_simp; (try (with_reducible rfl))
  try simp only [List.getElem_toArray, List.getElem_cons_succ, List.getElem_cons_zero, Act.put, List.setIfInBounds_toArray, List.set_cons_zero, List.set_cons_succ]
  refine wpAnyH_ready (rs := [36]) (by kernel_rfl) (by simp) ?_
  refine AllReadyH.cons rfl (fun K hK => ?_) AllReadyH.nil
  go_simp
  go_at_call 18
  (with_reducible refine (CW3.out _).mono ?_)
  rintro e w' ⟨rfl, rfl⟩
  go_wp2_with fail
  refine hK.out _ _ ?_ (fun hHeld => ?_)
  · clear hK K; exact TA3.out.cells
  clear hK K
  try simp only [List.getElem_toArray, List.getElem_cons_succ, List.getElem_cons_zero, Act.put, List.setIfInBounds_toArray, List.set_cons_zero, List.set_cons_succ]
  refine wpAnyH_take (i := 37) (v := ?_) rfl (by kernel_rfl) (by kernel_rfl) (by kernel_rfl) (fun _ _ _ h => h) (Or.inl ⟨by rfl, ?_⟩) (by assumption) ?_
  rotate_left
  · intro w hSw; (try dsimp only at hSw); go_simp; (try (with_reducible rfl))
  try simp only [List.getElem_toArray, List.getElem_cons_succ, List.getElem_cons_zero, Act.put, List.setIfInBounds_toArray, List.set_cons_zero, List.set_cons_succ]
  refine wpAnyH_take (i := 38) (v := ?_) rfl (by kernel_rfl) (by kernel_rfl) (by kernel_rfl) (fun _ _ _ h => h) (Or.inl ⟨by rfl, ?_⟩) (by assumption) ?_
  rotate_left
  · intro w hSw; (try dsimp only at hSw); go_simp; (try (with_reducible rfl))
  try simp only [List.getElem_toArray, List.getElem_cons_succ, List.getElem_cons_zero, Act.put, List.setIfInBounds_toArray, List.set_cons_zero, List.set_cons_succ]
  refine wpAnyH_take (i := 39) (v := ?_) rfl (by kernel_rfl) (by kernel_rfl) (by kernel_rfl) (fun _ _ _ h => h) (Or.inl ⟨by rfl, ?_⟩) (by assumption) ?_
  rotate_left
  · intro w hSw; (try dsimp only at hSw); go_simp; (try (with_reducible rfl))
  try simp only [List.getElem_toArray, List.getElem_cons_succ, List.getElem_cons_zero, Act.put, List.setIfInBounds_toArray, List.set_cons_zero, List.set_cons_succ]
  refine wpAnyH_take (i := 40) (v := ?_) rfl (by kernel_rfl) (by kernel_rfl) (by kernel_rfl) (fun _ _ _ h => h) (Or.inl ⟨by rfl, ?_⟩) (by assumption) ?_
  rotate_left
  · intro w hSw; (try dsimp only at hSw); go_simp; (try (with_reducible rfl))
  try simp only [List.getElem_toArray, List.getElem_cons_succ, List.getElem_cons_zero, Act.put, List.setIfInBounds_toArray, List.set_cons_zero, List.set_cons_succ]
  refine wpAnyH_ready (rs := [41]) (by kernel_rfl) (by simp) ?_
  refine AllReadyH.cons rfl (fun K hK => ?_) AllReadyH.nil
  go_simp
  go_at_call 39
  (with_reducible refine (CLa.out _ (HRD.out _ TA3.out)).mono ?_)
  rintro e wz4 ⟨rfl, hb⟩
  have TA4 := Lib.hid (TI.later hb TA3.out)
  clear hb TA3
  go_wp2_with fail
  refine hK.out _ _ ?_ (fun hHeld => ?_)
  · clear hK K; exact TA4.out.cells
  clear hK K
  try simp only [List.getElem_toArray, List.getElem_cons_succ, List.getElem_cons_zero, Act.put, List.setIfInBounds_toArray, List.set_cons_zero, List.set_cons_succ]
  refine wpAnyH_take (i := 42) (v := ?_) rfl (by kernel_rfl) (by kernel_rfl) (by kernel_rfl) (fun _ _ _ h => h) (Or.inl ⟨by rfl, ?_⟩) (by assumption) ?_
  rotate_left
  · intro w hSw; (try dsimp only at hSw); go_simp; (try (with_reducible rfl))
  try simp only [List.getElem_toArray, List.getElem_cons_succ, List.getElem_cons_zero, Act.put, List.setIfInBounds_toArray, List.set_cons_zero, List.set_cons_succ]
  refine wpAnyH_take (i := 43) (v := ?_) rfl (by kernel_rfl) (by kernel_rfl) (by kernel_rfl) (fun _ _ _ h => h) (Or.inl ⟨by rfl, ?_⟩) (by assumption) ?_
  rotate_left
  · intro w hSw; (try dsimp only at hSw); go_simp; (try (with_reducible rfl))
  try simp only [List.getElem_toArray, List.getElem_cons_succ, List.getElem_cons_zero, Act.put, List.setIfInBounds_toArray, List.set_cons_zero, List.set_cons_succ]
  simp only [D2k.out]
  refine wpAnyH_take (i := 44) (v := ?_) rfl (by kernel_rfl) (by kernel_rfl) (by kernel_rfl) (fun _ _ _ h => h) (Or.inl ⟨by rfl, ?_⟩) (by assumption) ?_
  rotate_left
  · intro w hSw; (try dsimp only at hSw); go_simp; (try (with_reducible rfl))
  try simp only [List.getElem_toArray, List.getElem_cons_succ, List.getElem_cons_zero, Act.put, List.setIfInBounds_toArray, List.set_cons_zero, List.set_cons_succ]
  refine wpAnyH_take (i := 45) (v := ?_) rfl (by kernel_rfl) (by kernel_rfl) (by kernel_rfl) (fun _ _ _ h => h) (Or.inl ⟨by rfl, ?_⟩) (by assumption) ?_
  rotate_left
  · intro w hSw; (try dsimp only at hSw); go_simp; (try (with_reducible rfl))
  try simp only [List.getElem_toArray, List.getElem_cons_succ, List.getElem_cons_zero, Act.put, List.setIfInBounds_toArray, List.set_cons_zero, List.set_cons_succ]
  refine wpAnyH_take (i := 46) (v := ?_) rfl (by kernel_rfl) (by kernel_rfl) (by kernel_rfl) (fun _ _ _ h => h) (Or.inl ⟨by rfl, ?_⟩) (by assumption) ?_
  rotate_left
  · intro w hSw; (try dsimp only at hSw); go_simp; (try (with_reducible rfl))
  try simp only [List.getElem_toArray, List.getElem_cons_succ, List.getElem_cons_zero, Act.put, List.setIfInBounds_toArray, List.set_cons_zero, List.set_cons_succ]
  refine wpAnyH_take (i := 49) (v := ?_) rfl (by kernel_rfl) (by kernel_rfl) (by kernel_rfl) (fun _ _ _ h => h) (Or.inl ⟨by rfl, ?_⟩) (by assumption) ?_
  rotate_left
  · intro w hSw; (try dsimp only at hSw); go_simp; (try (with_reducible rfl))
  try simp only [List.getElem_toArray, List.getElem_cons_succ, List.getElem_cons_zero, Act.put, List.setIfInBounds_toArray, List.set_cons_zero, List.set_cons_succ]
  refine wpAnyH_take (i := 50) (v := ?_) rfl (by kernel_rfl) (by kernel_rfl) (by kernel_rfl) (fun _ _ _ h => h) (Or.inl ⟨by rfl, ?_⟩) (by assumption) ?_
  rotate_left
  · intro w hSw; (try dsimp only at hSw); go_simp; (try (with_reducible rfl))
  try simp only [List.getElem_toArray, List.getElem_cons_succ, List.getElem_cons_zero, Act.put, List.setIfInBounds_toArray, List.set_cons_zero, List.set_cons_succ]
  refine wpAnyH_ready (rs := [47]) (by kernel_rfl) (by simp) ?_
  refine AllReadyH.cons rfl (fun K hK => ?_) AllReadyH.nil
  go_simp
  go_at_call 39
  (with_reducible refine (CLa.out _ (HRD.out _ TA4.out)).mono ?_)
  rintro e wz5 ⟨rfl, hb⟩
  have TA5 := Lib.hid (TI.later hb TA4.out)
  clear hb TA4
  go_wp2_with fail
  refine hK.out _ _ ?_ (fun hHeld => ?_)
  · clear hK K; exact TA5.out.cells
  clear hK K
  try simp only [List.getElem_toArray, List.getElem_cons_succ, List.getElem_cons_zero, Act.put, List.setIfInBounds_toArray, List.set_cons_zero, List.set_cons_succ]
  refine wpAnyH_take (i := 48) (v := ?_) rfl (by kernel_rfl) (by kernel_rfl) (by kernel_rfl) (fun _ _ _ h => h) (Or.inl ⟨by rfl, ?_⟩) (by assumption) ?_
  rotate_left
  · intro w hSw; (try dsimp only at hSw); go_simp; (try (with_reducible rfl))
  try simp only [List.getElem_toArray, List.getElem_cons_succ, List.getElem_cons_zero, Act.put, List.setIfInBounds_toArray, List.set_cons_zero, List.set_cons_succ]
  refine wpAnyH_take (i := 51) (v := ?_) rfl (by kernel_rfl) (by kernel_rfl) (by kernel_rfl) (fun _ _ _ h => h) (Or.inl ⟨by rfl, ?_⟩) (by assumption) ?_
  rotate_left
  · intro w hSw; (try dsimp only at hSw); go_simp; (try (with_reducible rfl))
  try simp only [List.getElem_toArray, List.getElem_cons_succ, List.getElem_cons_zero, Act.put, List.setIfInBounds_toArray, List.set_cons_zero, List.set_cons_succ]
  refine wpAnyH_take (i := 52) (v := ?_) rfl (by kernel_rfl) (by kernel_rfl) (by kernel_rfl) (fun _ _ _ h => h) (Or.inl ⟨by rfl, ?_⟩) (by assumption) ?_
  rotate_left
  · intro w hSw; (try dsimp only at hSw); go_simp; (try (with_reducible rfl))
  try simp only [List.getElem_toArray, List.getElem_cons_succ, List.getElem_cons_zero, Act.put, List.setIfInBounds_toArray, List.set_cons_zero, List.set_cons_succ]
  simp only [D400.out]
  refine wpAnyH_take (i := 53) (v := ?_) rfl (by kernel_rfl) (by kernel_rfl) (by kernel_rfl) (fun _ _ _ h => h) (Or.inl ⟨by rfl, ?_⟩) (by assumption) ?_
  rotate_left
  · intro w hSw; (try dsimp only at hSw); go_simp; (try (with_reducible rfl))
  try simp only [List.getElem_toArray, List.getElem_cons_succ, List.getElem_cons_zero, Act.put, List.setIfInBounds_toArray, List.set_cons_zero, List.set_cons_succ]
  refine wpAnyH_done (by kernel_rfl) ?_ _
  clear hHeld
  have HTI : Hid (∀ W, Below wz5.heap.size wz5 W → TI w w1.heap.size (.slice A m c) s st r W) := Lib.hid (fun W hb => TA5.out.later hb)
  have HRB := Lib.hid TA5.out.b
  clear CM CFi CW1 CW2 CW3 D20 D60 D2k D400 TA5 T0
  go_wp2
  go_loopw [4, 5, 6] (fun tp sp i wr => ∃ u : Nat, u ≤ N ∧ i = .int .i64 u ∧ sp = .int .i64 (mx u) ∧ Hid (wr.ownsRow wz5.heap.size 3 1 tp u ((T.take u).map (Value.int .i64))) ∧ Hid (Below wz5.heap.size wz5 wr)) (fun _ _ i _ => N - (intOf i).toNat)
  case atStart => exact ⟨0, Nat.zero_le _, rfl, by rw [HM0.out], Lib.hid (World.ownsRow_nil _ _ _ _), Lib.hid (Below.refl _ _)⟩
  case round =>
    obtain ⟨u, hu, rfl, rfl, HI, HB⟩ := hrel
    obtain ⟨A2, cap2, hp, _, _⟩ := rd_of_own HI.out
    subst hp
    have cM := (HTI.out _ HB.out).cells.2
    go_wp2_with fail
    refine (CLa.out _ (HRD.out _ (HTI.out _ HB.out))).mono ?_
    rintro e wa ⟨rfl, hb⟩
    have HBa := Lib.hid (HB.out.trans (hb.mono HB.out.size))
    have HOa := Lib.hid (ownBelow HI.out hb)
    clear hb HB HI cM
    by_cases hlt : u ≤ L
    · have huz : (u : Int) ≤ z1 := by omega
      have cM := (HTI.out _ HBa.out).cells.2
      go_wp2_with fail
      refine (CCM.out _ (HRD.out _ (HTI.out _ HBa.out))).mono ?_
      rintro e wb ⟨⟨gc, cc, rfl, hrc, _, _⟩, hb⟩
      have HBb := Lib.hid (HBa.out.trans (hb.mono HBa.out.size))
      have HOb := Lib.hid (ownBelow HOa.out hb)
      clear hb HBa HOa cM
      obtain ⟨l0, hl0⟩ : ∃ z, lo u = z := ⟨_, rfl⟩
      obtain ⟨l1, hl1⟩ : ∃ z, hi u = z := ⟨_, rfl⟩
      have CT1 := Lib.hid (CTm.out u hlt)
      have CR1 := Lib.hid (CRf.out u hlt)
      have hlb := Hlo.out u hlt
      have htv := HTv.out u hlt
      rw [hl0, hl1] at CT1 CR1
      rw [hl0] at hlb htv
      clear hl0 hl1
      go_wp2_with fail
      refine (CT1.out _ _ _ hrc).mono ?_
      rintro e wc ⟨rfl, hb⟩
      have HBc := Lib.hid (HBb.out.trans (hb.mono HBb.out.size))
      have HOc := Lib.hid (ownBelow HOb.out hb)
      clear hb HBb HOb hrc CT1
  
      go_upto_region 12 with fail
      obtain ⟨wd, hwd⟩ : ∃ W, wc.alloc (.cells #[.int .i64 l0, .int .i64 l1] 72) = W := ⟨_, rfl⟩
      have HRg' := Lib.hid (fun k e => (HOc.out.lt k e).2)
      obtain ⟨gt, hgt⟩ : ∃ g, wc.heap.size = g := ⟨_, rfl⟩
      have KT : Hid (Bk wd gt 72 #[.int .i64 l0, .int .i64 l1]) := Lib.hid (by rw [← hwd, ← hgt]; exact Bk.new _ _ _)
      have HRg : Hid (∀ k, (Value.slice A2 u cap2).ownBlock = some k → k < gt) := Lib.hid (by rw [← hgt]; exact HRg'.out)
      have HBd : Hid (Below wz5.heap.size wz5 wd) := Lib.hid (by rw [← hwd]; exact HBc.out.alloc HBc.out.size _)
      have HOd : Hid (wd.ownsRow wz5.heap.size 3 1 (.slice A2 u cap2) u ((T.take u).map (Value.int .i64))) := Lib.hid (by rw [← hwd]; exact HOc.out.alloc _)
      rw [hwd, hgt]
      clear hwd hgt HBc HOc HRg'
      refine wp_region_held_drew (S := (fun w' : World => (w'.cell? ⟨gt, 0, none⟩ = some (.int .i64 l0) ∧ w'.cell? ⟨gt, 1, none⟩ = some (.int .i64 l1)) ∧ w'.cell? ⟨w1.heap.size, 0, none⟩ = some (.slice A m c))) (by kernel_rfl) ?_ ?_
      · exact ⟨bkf2 (KT.out.drew), (HTI.out _ HBd.out.drew).cells.2⟩
      intro hHeld
      have HBe := Lib.hid HBd.out.drew
      have HOe := Lib.hid HOd.out.drew
      have KTe := Lib.hid KT.out.drew
      refine wpAnyH_take (i := 0) (v := ?_) rfl (by kernel_rfl) (by kernel_rfl) (by kernel_rfl) (fun _ _ _ h => h) (Or.inl ⟨by rfl, ?_⟩) (by assumption) ?_
      rotate_left
      · intro w hSw; (try dsimp only at hSw); go_simp; (try (with_reducible rfl))
      try simp only [List.getElem_toArray, List.getElem_cons_succ, List.getElem_cons_zero, Act.put, List.setIfInBounds_toArray, List.set_cons_zero, List.set_cons_succ]
      refine wpAnyH_take (i := 1) (v := ?_) rfl (by kernel_rfl) (by kernel_rfl) (by kernel_rfl) (fun _ _ _ h => h) (Or.inl ⟨by rfl, ?_⟩) (by assumption) ?_
      rotate_left
      · intro w hSw; (try dsimp only at hSw); go_simp; (try (with_reducible rfl))
      try simp only [List.getElem_toArray, List.getElem_cons_succ, List.getElem_cons_zero, Act.put, List.setIfInBounds_toArray, List.set_cons_zero, List.set_cons_succ]
      refine wpAnyH_take (i := 2) (v := ?_) rfl (by kernel_rfl) (by kernel_rfl) (by kernel_rfl) (fun _ _ _ h => h) (Or.inl ⟨by rfl, ?_⟩) (by assumption) ?_
      rotate_left
      · intro w hSw; (try dsimp only at hSw); go_simp; (try (with_reducible rfl))
      try simp only [List.getElem_toArray, List.getElem_cons_succ, List.getElem_cons_zero, Act.put, List.setIfInBounds_toArray, List.set_cons_zero, List.set_cons_succ]
      refine wpAnyH_take (i := 3) (v := ?_) rfl (by kernel_rfl) (by kernel_rfl) (by kernel_rfl) (fun _ _ _ h => h) (Or.inl ⟨by rfl, ?_⟩) (by assumption) ?_
      rotate_left
      · intro w hSw; (try dsimp only at hSw); go_simp; (try (with_reducible rfl))
      try simp only [List.getElem_toArray, List.getElem_cons_succ, List.getElem_cons_zero, Act.put, List.setIfInBounds_toArray, List.set_cons_zero, List.set_cons_succ]
      refine wpAnyH_take (i := 4) (v := ?_) rfl (by kernel_rfl) (by kernel_rfl) (by kernel_rfl) (fun _ _ _ h => h) (Or.inl ⟨by rfl, ?_⟩) (by assumption) ?_
      rotate_left
      · intro w hSw; (try dsimp only at hSw); go_simp; (try (with_reducible rfl))
      try simp only [List.getElem_toArray, List.getElem_cons_succ, List.getElem_cons_zero, Act.put, List.setIfInBounds_toArray, List.set_cons_zero, List.set_cons_succ]
      refine wpAnyH_take (i := 5) (v := ?_) rfl (by kernel_rfl) (by kernel_rfl) (by kernel_rfl) (fun _ _ _ h => h) (Or.inl ⟨by rfl, ?_⟩) (by assumption) ?_
      rotate_left
      · intro w hSw; (try dsimp only at hSw); go_simp; (try (with_reducible rfl))
      try simp only [List.getElem_toArray, List.getElem_cons_succ, List.getElem_cons_zero, Act.put, List.setIfInBounds_toArray, List.set_cons_zero, List.set_cons_succ]
      refine wpAnyH_ready (rs := [6]) (by kernel_rfl) (by simp) ?_
      refine AllReadyH.cons rfl (fun K hK => ?_) AllReadyH.nil
      go_simp
      go_at_call 42
      (with_reducible refine (CR1.out _ (HRD.out _ (HTI.out _ HBe.out))).mono ?_)
      rintro e wf ⟨rfl, hb⟩
      have HBf := Lib.hid (HBe.out.trans (hb.mono HBe.out.size))
      have HOf := Lib.hid (ownBelow HOe.out hb)
      have KTf := Lib.hid (KTe.out.later hb)
      clear hb HBe HOe KTe
      go_wp2_with fail
      refine hK.out _ _ ?_ (fun hHeld => ?_)
      · clear hK K; exact ⟨bkf2 KTf.out, (HTI.out _ HBf.out).cells.2⟩
      clear hK K
      try simp only [List.getElem_toArray, List.getElem_cons_succ, List.getElem_cons_zero, Act.put, List.setIfInBounds_toArray, List.set_cons_zero, List.set_cons_succ]
      refine wpAnyH_take (i := 7) (v := ?_) rfl (by kernel_rfl) (by kernel_rfl) (by kernel_rfl) (fun _ _ _ h => h) (Or.inl ⟨by rfl, ?_⟩) (by assumption) ?_
      rotate_left
      · intro w hSw; (try dsimp only at hSw); go_simp; (try (with_reducible rfl))
      try simp only [List.getElem_toArray, List.getElem_cons_succ, List.getElem_cons_zero, Act.put, List.setIfInBounds_toArray, List.set_cons_zero, List.set_cons_succ]
      refine wpAnyH_take (i := 8) (v := ?_) rfl (by kernel_rfl) (by kernel_rfl) (by kernel_rfl) (fun _ _ _ h => h) (Or.inl ⟨by rfl, ?_⟩) (by assumption) ?_
      rotate_left
      · intro w hSw; (try dsimp only at hSw); go_simp; (try (with_reducible rfl))
      try simp only [List.getElem_toArray, List.getElem_cons_succ, List.getElem_cons_zero, Act.put, List.setIfInBounds_toArray, List.set_cons_zero, List.set_cons_succ]
      refine wpAnyH_done (by kernel_rfl) ?_ _
      clear hHeld HBd HOd KT
      have hmb := mul_bd (a := r) (b := l0) (A := 64) (B := 20000) hrr (by omega) (by omega) (by omega)
      have CFl := Lib.hid (fun W => floor_any (r * l0) 64 (by omega) (by omega) W)
      have ww1 : IntKind.i64.wrap (r * l0) = r * l0 := IntWalk.i64_in _ (by omega)
      obtain ⟨q, hq⟩ : ∃ q, r * l0 / 64 = q := ⟨_, rfl⟩
      rw [hq] at htv CFl
      have hqb : -20000 ≤ q ∧ q ≤ 20000 := by omega
      obtain ⟨v, hv⟩ : ∃ v, st + q = v := ⟨_, rfl⟩
      have ww2 : IntKind.i64.wrap (st + q) = v := by rw [hv]; exact IntWalk.i64_in _ (by omega)
      rw [hv] at htv
      have HSN : Hid (T.take (u + 1) = T.take u ++ [v]) := Lib.hid (by rw [← htv]; exact take_snoc (by have := HTl.out; omega))
      have hvb : -30000 ≤ v ∧ v ≤ 30000 := by omega
      have HTV := Lib.hid htv
      clear hmb hq hv htv hlb
      have HSA : Hid (∀ W, Below wz5.heap.size wz5 W → Bk W gt 72 #[.int .i64 l0, .int .i64 l1] → (fun w' : World => (w'.cell? ⟨gt, 0, none⟩ = some (.int .i64 l0) ∧ w'.cell? ⟨gt, 1, none⟩ = some (.int .i64 l1)) ∧ w'.cell? ⟨w.heap.size, 2, none⟩ = some (.int .i64 st) ∧ w'.cell? ⟨w.heap.size, 3, none⟩ = some (.int .i64 r)) W) := Lib.hid (fun W hb hk => ⟨bkf2 hk, (HTI.out W hb).cells.1.2.2.1, (HTI.out W hb).cells.1.2.2.2⟩)
      go_wp2_with fail
      refine wp_region_held_drew (S := (fun w' : World => (w'.cell? ⟨gt, 0, none⟩ = some (.int .i64 l0) ∧ w'.cell? ⟨gt, 1, none⟩ = some (.int .i64 l1)) ∧ w'.cell? ⟨w.heap.size, 2, none⟩ = some (.int .i64 st) ∧ w'.cell? ⟨w.heap.size, 3, none⟩ = some (.int .i64 r))) (by kernel_rfl) ?_ ?_
      · exact HSA.out _ HBf.out.drew KTf.out.drew
      intro hHeld
      refine wpAnyH_take (i := 0) (v := ?_) rfl (by kernel_rfl) (by kernel_rfl) (by kernel_rfl) (fun _ _ _ h => h) (Or.inl ⟨by rfl, ?_⟩) (by assumption) ?_
      rotate_left
      · intro w hSw; (try dsimp only at hSw); go_simp; (try (with_reducible rfl))
      try simp only [List.getElem_toArray, List.getElem_cons_succ, List.getElem_cons_zero, Act.put, List.setIfInBounds_toArray, List.set_cons_zero, List.set_cons_succ]
      refine wpAnyH_take (i := 1) (v := ?_) rfl (by kernel_rfl) (by kernel_rfl) (by kernel_rfl) (fun _ _ _ h => h) (Or.inl ⟨by rfl, ?_⟩) (by assumption) ?_
      rotate_left
      · intro w hSw; (try dsimp only at hSw); go_simp; (try (with_reducible rfl))
      try simp only [List.getElem_toArray, List.getElem_cons_succ, List.getElem_cons_zero, Act.put, List.setIfInBounds_toArray, List.set_cons_zero, List.set_cons_succ]
      refine wpAnyH_take (i := 2) (v := ?_) rfl (by kernel_rfl) (by kernel_rfl) (by kernel_rfl) (fun _ _ _ h => h) (Or.inl ⟨by rfl, ?_⟩) (by assumption) ?_
      rotate_left
      · intro w hSw; (try dsimp only at hSw); go_simp; (try (with_reducible rfl))
      try simp only [List.getElem_toArray, List.getElem_cons_succ, List.getElem_cons_zero, Act.put, List.setIfInBounds_toArray, List.set_cons_zero, List.set_cons_succ]
      refine wpAnyH_take (i := 3) (v := ?_) rfl (by kernel_rfl) (by kernel_rfl) (by kernel_rfl) (fun _ _ _ h => h) (Or.inl ⟨by rfl, ?_⟩) (by assumption) ?_
      rotate_left
      · intro w hSw; (try dsimp only at hSw); go_simp; (try (with_reducible rfl))
      try simp only [List.getElem_toArray, List.getElem_cons_succ, List.getElem_cons_zero, Act.put, List.setIfInBounds_toArray, List.set_cons_zero, List.set_cons_succ]
      refine wpAnyH_take (i := 4) (v := ?_) rfl (by kernel_rfl) (by kernel_rfl) (by kernel_rfl) (fun _ _ _ h => h) (Or.inl ⟨by rfl, ?_⟩) (by assumption) ?_
      rotate_left
      · intro w hSw; (try dsimp only at hSw); go_simp; (try (with_reducible rfl))
      try simp only [List.getElem_toArray, List.getElem_cons_succ, List.getElem_cons_zero, Act.put, List.setIfInBounds_toArray, List.set_cons_zero, List.set_cons_succ]
      refine wpAnyH_take (i := 5) (v := ?_) rfl (by kernel_rfl) (by kernel_rfl) (by kernel_rfl) (fun _ _ _ h => h) (Or.inl ⟨by rfl, ?_⟩) (by assumption) ?_
      rotate_left
      · intro w hSw; (try dsimp only at hSw); go_simp; (try (with_reducible rfl))
      try simp only [List.getElem_toArray, List.getElem_cons_succ, List.getElem_cons_zero, Act.put, List.setIfInBounds_toArray, List.set_cons_zero, List.set_cons_succ]
      refine wpAnyH_take (i := 6) (v := ?_) rfl (by kernel_rfl) (by kernel_rfl) (by kernel_rfl) (fun _ _ _ h => h) (Or.inl ⟨by rfl, ?_⟩) (by assumption) ?_
      rotate_left
      · intro w hSw; (try dsimp only at hSw); go_simp; (try (with_reducible rfl))
      try simp only [List.getElem_toArray, List.getElem_cons_succ, List.getElem_cons_zero, Act.put, List.setIfInBounds_toArray, List.set_cons_zero, List.set_cons_succ]
      refine wpAnyH_take (i := 7) (v := ?_) rfl (by kernel_rfl) (by kernel_rfl) (by kernel_rfl) (fun _ _ _ h => h) (Or.inl ⟨by rfl, ?_⟩) (by assumption) ?_
      rotate_left
      · intro w hSw; (try dsimp only at hSw); go_simp; (try (with_reducible rfl))
      try simp only [List.getElem_toArray, List.getElem_cons_succ, List.getElem_cons_zero, Act.put, List.setIfInBounds_toArray, List.set_cons_zero, List.set_cons_succ]
      refine wpAnyH_ready (rs := [8]) (by kernel_rfl) (by simp) ?_
      refine AllReadyH.cons rfl (fun K hK => ?_) AllReadyH.nil
      go_simp
      go_at_call 43
      refine (CFl.out _).mono ?_
      rintro e w' ⟨rfl, rfl⟩
      go_wp2_with fail
      refine hK.out _ _ ?_ (fun hHeld => ?_)
      · clear hK K; exact HSA.out _ (HBf.out.drew) KTf.out.drew
      clear hK K
      try simp only [List.getElem_toArray, List.getElem_cons_succ, List.getElem_cons_zero, Act.put, List.setIfInBounds_toArray, List.set_cons_zero, List.set_cons_succ]
      refine wpAnyH_take (i := 9) (v := ?_) rfl (by kernel_rfl) (by kernel_rfl) (by kernel_rfl) (fun _ _ _ h => h) (Or.inl ⟨by rfl, ?_⟩) (by assumption) ?_
      rotate_left
      · intro w hSw; (try dsimp only at hSw); go_simp; (try (with_reducible rfl))
      try simp only [List.getElem_toArray, List.getElem_cons_succ, List.getElem_cons_zero, Act.put, List.setIfInBounds_toArray, List.set_cons_zero, List.set_cons_succ]
      refine wpAnyH_ready (rs := [10]) (by kernel_rfl) (by simp) ?_
      refine AllReadyH.cons rfl (fun K hK => ?_) AllReadyH.nil
      go_simp
      refine hK.out _ _ ?_ (fun hHeld => ?_)
      · clear hK K; exact HSA.out _ ((HBf.out.drew).alloc (HBf.out.drew).size _) (KTf.out.drew.alloc _)
      clear hK K
      try simp only [List.getElem_toArray, List.getElem_cons_succ, List.getElem_cons_zero, Act.put, List.setIfInBounds_toArray, List.set_cons_zero, List.set_cons_succ]
      refine wpAnyH_ready (rs := [11]) (by kernel_rfl) (by simp) ?_
      refine AllReadyH.cons rfl (fun K hK => ?_) AllReadyH.nil
      refine step_append_at _ rfl (.tmp 95) (.tmp 105) 29 rfl wz5.heap.size 3 i0 _ 1 8 Try.underlying29 hi0 hza hzb hzc rfl (by decide) _ u _ rfl ((HOf.out.drew).alloc _) ⟨wf.heap.size, 0, none⟩ 1 1 [.int .i64 v] rfl rfl (cell_one_new _ _ _) (by simp [Value.oneCell']) (by simp only [maxLen]; omega) (by omega) (by have := (HBf.out.drew).size; simp at this ⊢; omega) ?_
      intro v' w4 hown' hgrow _ hat
      obtain ⟨g', cap', rfl⟩ := ownsRow_succ hown'
      have HB4 : Hid (Below wz5.heap.size wz5 w4) := ((HBf.out.drew).alloc (HBf.out.drew).size _).grown hgrow (by have := (HBf.out.drew).size; simp at this ⊢; omega) (fun z e => ((HOf.out.drew).lt z e).1)
      have KT4 : Hid (Bk w4 gt 72 #[.int .i64 l0, .int .i64 l1]) := Lib.hid (Bk.grown (KTf.out.drew.alloc _) hgrow (fun e => by have := HRg.out _ e.symm; omega))
      have HO4 : Hid (w4.ownsRow wz5.heap.size 3 1 (.slice (some ⟨g', 0, none⟩) (u + 1) cap') (u + 1) ((T.take (u + 1)).map (Value.int .i64))) := by
        refine Lib.hid ?_
        rw [HSN.out, List.map_append]
        exact hown'
      clear hown' hgrow hat
      refine hK.out _ _ ?_ (fun hHeld => ?_)
      · clear hK K; exact HSA.out _ HB4.out KT4.out
      clear hK K
      try simp only [List.getElem_toArray, List.getElem_cons_succ, List.getElem_cons_zero, Act.put, List.setIfInBounds_toArray, List.set_cons_zero, List.set_cons_succ]
      refine wpAnyH_take (i := 12) (v := ?_) rfl (by kernel_rfl) (by kernel_rfl) (by kernel_rfl) (fun _ _ _ h => h) (Or.inl ⟨by rfl, ?_⟩) (by assumption) ?_
      rotate_left
      · intro w hSw; (try dsimp only at hSw); go_simp; (try (with_reducible rfl))
      try simp only [List.getElem_toArray, List.getElem_cons_succ, List.getElem_cons_zero, Act.put, List.setIfInBounds_toArray, List.set_cons_zero, List.set_cons_succ]
      refine wpAnyH_done (by kernel_rfl) ?_ _
      clear hHeld HBf HOf
      clear KTf HSA KT4 CFl ww1 ww2 HRg HSN
      obtain ⟨n1, hn1⟩ : ∃ n1 : Nat, u + 1 = n1 := ⟨_, rfl⟩
      obtain ⟨ta, hta⟩ : ∃ a : Addr, (⟨g', 0, none⟩ : Addr) = a := ⟨_, rfl⟩
      rw [hn1, hta] at HO4 ⊢
      clear hta
      by_cases hu0 : u = 0
      · have hgz : ¬ (0 : Int) < (u : Int) := by omega
        have hgzN : ¬ 0 < u := by omega
        have HRS : Hid (mx n1 = mx u) := Lib.hid (by rw [← hn1, hu0]; show mx 1 = _; rw [HM1.out, HM0.out])
        have HN1 := Lib.hid hn1
        clear hu0 hn1
        go_wp2
        go_roundw
        case rel => exact ⟨n1, by have := HN1.out; omega, by rw [← HN1.out]; go_num, by rw [HRS.out], HO4, HB4⟩
        case measure => simp [intOf]; have := HN1.out; omega
      · have hgz : (0 : Int) < (u : Int) := by omega
        have hgzN : 0 < u := by omega
        obtain ⟨u1, hu1⟩ : ∃ u1, u = u1 + 1 := ⟨u - 1, by omega⟩
        have hms := HMs.out u1
        rw [← hu1, HTV.out, hn1] at hms
        obtain ⟨v1, hv1⟩ : ∃ z, T.getD u1 0 = z := ⟨_, rfl⟩
        rw [hv1] at hms
        have HCX : Hid (∀ W : World, W.ownsRow wz5.heap.size 3 1 (.slice (some ta) n1 cap') n1 ((T.take n1).map (Value.int .i64)) → W.cell? (ta.add u) = some (.int .i64 v) ∧ W.cell? (ta.add u1) = some (.int .i64 v1)) := Lib.hid (fun W h => by
          obtain ⟨A3, c3, hp3, _, hrd⟩ := rd_of_own h
          injection hp3 with hp3 _ _
          subst hp3
          obtain ⟨ad, had, _, hc⟩ := hrd.2 (by omega)
          injection had with had
          subst had
          have e1 := hc u (by omega)
          have e2 := hc u1 (by omega)
          rw [tk_getD (by omega)] at e1 e2
          rw [HTV.out] at e1
          rw [hv1] at e2
          exact ⟨e1, e2⟩)
        have hv1b : -30000 ≤ v1 ∧ v1 ≤ 30000 := by
          rw [← hv1, HTv.out u1 (by omega)]
          have hb1 := Hlo.out u1 (by omega)
          have := mul_bd (a := r) (b := lo u1) (A := 64) (B := 20000) hrr (by omega) (by omega) (by omega)
          omega
        have huI : (u : Int) < (n1 : Int) := by omega
        have huN : u < n1 := by omega
        have hu1I : (u1 : Int) < (n1 : Int) := by omega
        have hu1N : u1 < n1 := by omega
        have ww3 : IntKind.i64.wrap ((u : Int) - 1) = (u1 : Int) := by rw [show (u : Int) - 1 = (u1 : Int) by omega]; exact IntWalk.i64_in _ (by omega)
        obtain ⟨dv, hdv⟩ : ∃ z, v - v1 = z := ⟨_, rfl⟩
        have ww4 : IntKind.i64.wrap (v - v1) = dv := by rw [hdv]; exact IntWalk.i64_in _ (by omega)
        rw [hdv] at hms
        have CSz := Lib.hid (fun W => bsize_any dv W (by omega))
        obtain ⟨sz, hsz⟩ : ∃ z, absF dv = z := ⟨_, rfl⟩
        rw [hsz] at CSz hms
        obtain ⟨mv, hmv⟩ : ∃ z, mx u = z := ⟨_, rfl⟩
        obtain ⟨mv1, hmv1⟩ : ∃ z, mx n1 = z := ⟨_, rfl⟩
        rw [hmv, hmv1] at hms
        rw [hmv]
        have e3 : (if mv < sz then sz else mv) = mv1 := hms.symm
        have HRS := Lib.hid hmv1
        have HN1 := Lib.hid hn1
        clear hu0 hn1 hu1 hms hv1 hdv hsz hmv hmv1
        go_upto_region 16 with fail
        refine wp_region_held_drew (S := (fun w' : World => w'.cell? (ta.add u) = some (.int .i64 v) ∧ w'.cell? (ta.add u1) = some (.int .i64 v1))) (by kernel_rfl) ?_ ?_
        · exact HCX.out _ HO4.out.drew
        intro hHeld
        have HO5 := Lib.hid HO4.out.drew
        have HB5 := Lib.hid HB4.out.drew
        refine wpAnyH_take (i := 0) (v := ?_) rfl (by kernel_rfl) (by kernel_rfl) (by kernel_rfl) (fun _ _ _ h => h) (Or.inl ⟨by rfl, ?_⟩) (by assumption) ?_
        rotate_left
        · intro w hSw; (try dsimp only at hSw); go_simp; (try (with_reducible rfl))
        try simp only [List.getElem_toArray, List.getElem_cons_succ, List.getElem_cons_zero, Act.put, List.setIfInBounds_toArray, List.set_cons_zero, List.set_cons_succ]
        refine wpAnyH_take (i := 1) (v := ?_) rfl (by kernel_rfl) (by kernel_rfl) (by kernel_rfl) (fun _ _ _ h => h) (Or.inl ⟨by rfl, ?_⟩) (by assumption) ?_
        rotate_left
        · intro w hSw; (try dsimp only at hSw); go_simp; (try (with_reducible rfl))
        try simp only [List.getElem_toArray, List.getElem_cons_succ, List.getElem_cons_zero, Act.put, List.setIfInBounds_toArray, List.set_cons_zero, List.set_cons_succ]
        refine wpAnyH_take (i := 2) (v := ?_) rfl (by kernel_rfl) (by kernel_rfl) (by kernel_rfl) (fun _ _ _ h => h) (Or.inl ⟨by rfl, ?_⟩) (by assumption) ?_
        rotate_left
        · intro w hSw; (try dsimp only at hSw); go_simp; (try (with_reducible rfl))
        try simp only [List.getElem_toArray, List.getElem_cons_succ, List.getElem_cons_zero, Act.put, List.setIfInBounds_toArray, List.set_cons_zero, List.set_cons_succ]
        refine wpAnyH_take (i := 3) (v := ?_) rfl (by kernel_rfl) (by kernel_rfl) (by kernel_rfl) (fun _ _ _ h => h) (Or.inl ⟨by rfl, ?_⟩) (by assumption) ?_
        rotate_left
        · intro w hSw; (try dsimp only at hSw); go_simp; (try (with_reducible rfl))
        try simp only [List.getElem_toArray, List.getElem_cons_succ, List.getElem_cons_zero, Act.put, List.setIfInBounds_toArray, List.set_cons_zero, List.set_cons_succ]
        refine wpAnyH_take (i := 4) (v := ?_) rfl (by kernel_rfl) (by kernel_rfl) (by kernel_rfl) (fun _ _ _ h => h) (Or.inl ⟨by rfl, ?_⟩) (by assumption) ?_
        rotate_left
        · intro w hSw; (try dsimp only at hSw); go_simp; (try (with_reducible rfl))
        try simp only [List.getElem_toArray, List.getElem_cons_succ, List.getElem_cons_zero, Act.put, List.setIfInBounds_toArray, List.set_cons_zero, List.set_cons_succ]
        refine wpAnyH_take (i := 5) (v := ?_) rfl (by kernel_rfl) (by kernel_rfl) (by kernel_rfl) (fun _ _ _ h => h) (Or.inl ⟨by rfl, ?_⟩) (by assumption) ?_
        rotate_left
        · intro w hSw; (try dsimp only at hSw); go_simp; (try (with_reducible rfl))
        try simp only [List.getElem_toArray, List.getElem_cons_succ, List.getElem_cons_zero, Act.put, List.setIfInBounds_toArray, List.set_cons_zero, List.set_cons_succ]
        refine wpAnyH_take (i := 6) (v := ?_) rfl (by kernel_rfl) (by kernel_rfl) (by kernel_rfl) (fun _ _ _ h => h) (Or.inl ⟨by rfl, ?_⟩) (by assumption) ?_
        rotate_left
        · intro w hSw; (try dsimp only at hSw); go_simp; (try (with_reducible rfl))
        try simp only [List.getElem_toArray, List.getElem_cons_succ, List.getElem_cons_zero, Act.put, List.setIfInBounds_toArray, List.set_cons_zero, List.set_cons_succ]
        refine wpAnyH_take (i := 7) (v := ?_) rfl (by kernel_rfl) (by kernel_rfl) (by kernel_rfl) (fun _ _ _ h => h) (Or.inl ⟨by rfl, ?_⟩) (by assumption) ?_
        rotate_left
        · intro w hSw; (try dsimp only at hSw); go_simp; (try (with_reducible rfl))
        try simp only [List.getElem_toArray, List.getElem_cons_succ, List.getElem_cons_zero, Act.put, List.setIfInBounds_toArray, List.set_cons_zero, List.set_cons_succ]
        refine wpAnyH_take (i := 8) (v := ?_) rfl (by kernel_rfl) (by kernel_rfl) (by kernel_rfl) (fun _ _ _ h => h) (Or.inl ⟨by rfl, ?_⟩) (by assumption) ?_
        rotate_left
        · intro w hSw; (try dsimp only at hSw); go_simp; (try (with_reducible rfl))
        try simp only [List.getElem_toArray, List.getElem_cons_succ, List.getElem_cons_zero, Act.put, List.setIfInBounds_toArray, List.set_cons_zero, List.set_cons_succ]
        refine wpAnyH_take (i := 9) (v := ?_) rfl (by kernel_rfl) (by kernel_rfl) (by kernel_rfl) (fun _ _ _ h => h) (Or.inl ⟨by rfl, ?_⟩) (by assumption) ?_
        rotate_left
        · intro w hSw; (try dsimp only at hSw); go_simp; (try (with_reducible rfl))
        try simp only [List.getElem_toArray, List.getElem_cons_succ, List.getElem_cons_zero, Act.put, List.setIfInBounds_toArray, List.set_cons_zero, List.set_cons_succ]
        refine wpAnyH_take (i := 10) (v := ?_) rfl (by kernel_rfl) (by kernel_rfl) (by kernel_rfl) (fun _ _ _ h => h) (Or.inl ⟨by rfl, ?_⟩) (by assumption) ?_
        rotate_left
        · intro w hSw; (try dsimp only at hSw); go_simp; (try (with_reducible rfl))
        try simp only [List.getElem_toArray, List.getElem_cons_succ, List.getElem_cons_zero, Act.put, List.setIfInBounds_toArray, List.set_cons_zero, List.set_cons_succ]
        refine wpAnyH_ready (rs := [11]) (by kernel_rfl) (by simp) ?_
        refine AllReadyH.cons rfl (fun K hK => ?_) AllReadyH.nil
        go_simp
        go_at_call 26
        refine (CSz.out _).mono ?_
        rintro e w' ⟨rfl, rfl⟩
        go_wp2_with fail
        refine hK.out _ _ ?_ (fun hHeld => ?_)
        · clear hK K; exact HCX.out _ HO5.out
        clear hK K
        try simp only [List.getElem_toArray, List.getElem_cons_succ, List.getElem_cons_zero, Act.put, List.setIfInBounds_toArray, List.set_cons_zero, List.set_cons_succ]
        refine wpAnyH_take (i := 12) (v := ?_) rfl (by kernel_rfl) (by kernel_rfl) (by kernel_rfl) (fun _ _ _ h => h) (Or.inl ⟨by rfl, ?_⟩) (by assumption) ?_
        rotate_left
        · intro w hSw; (try dsimp only at hSw); go_simp; (try (with_reducible rfl))
        try simp only [List.getElem_toArray, List.getElem_cons_succ, List.getElem_cons_zero, Act.put, List.setIfInBounds_toArray, List.set_cons_zero, List.set_cons_succ]
        refine wpAnyH_take (i := 13) (v := ?_) rfl (by kernel_rfl) (by kernel_rfl) (by kernel_rfl) (fun _ _ _ h => h) (Or.inl ⟨by rfl, ?_⟩) (by assumption) ?_
        rotate_left
        · intro w hSw; (try dsimp only at hSw); go_simp; (try (with_reducible rfl))
        try simp only [List.getElem_toArray, List.getElem_cons_succ, List.getElem_cons_zero, Act.put, List.setIfInBounds_toArray, List.set_cons_zero, List.set_cons_succ]
        refine wpAnyH_done (by kernel_rfl) ?_ _
        clear hHeld
        go_wp2
        go_roundw
        case rel => exact ⟨n1, by have := HN1.out; omega, by rw [← HN1.out]; go_num, by rw [HRS.out], HO5, HB5⟩
        case measure => simp [intOf]; have := HN1.out; omega
    · obtain rfl : N = u := by omega
      have huz : ¬ (N : Int) ≤ z1 := by omega
      have hrdT := (rd_of_own HOa.out)
      rw [List.take_of_length_le (by have := HTl.out; omega)] at hrdT
      obtain ⟨A3, c3, hp3, _, hrd⟩ := hrdT
      injection hp3 with hp3 _ hp4
      subst hp3 hp4
      have HX := Lib.hid hrd
      have HNA : Hid (A2 = none → N = 0 ∧ cap2 = 0) := Lib.hid (fun h => by obtain ⟨ad, had, _⟩ := hrd.2 (by omega); rw [had] at h; cases h)
      clear hrd hlt
      go_wp2_with fail
      refine (CSg.out _ _ _ HX.out).mono ?_
      rintro e w' ⟨rfl, rfl⟩
      by_cases hS : Sg = 0
      · have HS19 : Hid (∀ W, Below wz5.heap.size wz5 W → (fun w' : World => w'.cell? ⟨w.heap.size, 1, none⟩ = some (.int .i64 s) ∧ w'.cell? ⟨w1.heap.size, 0, none⟩ = some (.slice A m c)) W) := Lib.hid (fun W hb => ⟨(HTI.out W hb).cells.1.2.1, (HTI.out W hb).cells.2⟩)
        have CR2 := Lib.hid (CRs.out hS)
        have HY2 := Lib.hid (HY.out hS)
        clear CRs HY
        have hmb := Hmb.out
        obtain ⟨sp, hsp⟩ : ∃ z, mx N = z := ⟨_, rfl⟩
        rw [hsp] at HY2 hmb ⊢
        subst hS
        clear hsp
        go_wp2_with fail
        refine wp_region_held_drew (S := (fun w' : World => w'.cell? ⟨w.heap.size, 1, none⟩ = some (.int .i64 s) ∧ w'.cell? ⟨w1.heap.size, 0, none⟩ = some (.slice A m c))) (by kernel_rfl) ?_ ?_
        · exact HS19.out _ HBa.out.drew
        intro hHeld
        have HBg0 := Lib.hid HBa.out.drew
        have HXg0 := Lib.hid HX.out.drew
        refine wpAnyH_take (i := 0) (v := ?_) rfl (by kernel_rfl) (by kernel_rfl) (by kernel_rfl) (fun _ _ _ h => h) (Or.inl ⟨by rfl, ?_⟩) (by assumption) ?_
        rotate_left
        · intro w hSw; (try dsimp only at hSw); go_simp; (try (with_reducible rfl))
        try simp only [List.getElem_toArray, List.getElem_cons_succ, List.getElem_cons_zero, Act.put, List.setIfInBounds_toArray, List.set_cons_zero, List.set_cons_succ]
        refine wpAnyH_take (i := 1) (v := ?_) rfl (by kernel_rfl) (by kernel_rfl) (by kernel_rfl) (fun _ _ _ h => h) (Or.inl ⟨by rfl, ?_⟩) (by assumption) ?_
        rotate_left
        · intro w hSw; (try dsimp only at hSw); go_simp; (try (with_reducible rfl))
        try simp only [List.getElem_toArray, List.getElem_cons_succ, List.getElem_cons_zero, Act.put, List.setIfInBounds_toArray, List.set_cons_zero, List.set_cons_succ]
        refine wpAnyH_take (i := 2) (v := ?_) rfl (by kernel_rfl) (by kernel_rfl) (by kernel_rfl) (fun _ _ _ h => h) (Or.inl ⟨by rfl, ?_⟩) (by assumption) ?_
        rotate_left
        · intro w hSw; (try dsimp only at hSw); go_simp; (try (with_reducible rfl))
        try simp only [List.getElem_toArray, List.getElem_cons_succ, List.getElem_cons_zero, Act.put, List.setIfInBounds_toArray, List.set_cons_zero, List.set_cons_succ]
        refine wpAnyH_take (i := 5) (v := ?_) rfl (by kernel_rfl) (by kernel_rfl) (by kernel_rfl) (fun _ _ _ h => h) (Or.inl ⟨by rfl, ?_⟩) (by assumption) ?_
        rotate_left
        · intro w hSw; (try dsimp only at hSw); go_simp; (try (with_reducible rfl))
        try simp only [List.getElem_toArray, List.getElem_cons_succ, List.getElem_cons_zero, Act.put, List.setIfInBounds_toArray, List.set_cons_zero, List.set_cons_succ]
        refine wpAnyH_ready (rs := [3]) (by kernel_rfl) (by simp) ?_
        refine AllReadyH.cons rfl (fun K hK => ?_) AllReadyH.nil
        go_simp
        go_at_call 41
        refine (CCM.out _ (HRD.out _ (HTI.out _ HBg0.out))).mono ?_
        rintro e wg1 ⟨⟨gm, cm, rfl, hrc, _, _⟩, hb⟩
        have HBg1 := Lib.hid (HBg0.out.trans (hb.mono HBg0.out.size))
        have HXg1 := Lib.hid (HXg0.out.below hb)
        have HRg1 := Lib.hid hrc
        clear hb hrc HBg0 HXg0
        go_wp2_with fail
        refine hK.out _ _ ?_ (fun hHeld => ?_)
        · clear hK K; exact HS19.out _ HBg1.out
        clear hK K
        try simp only [List.getElem_toArray, List.getElem_cons_succ, List.getElem_cons_zero, Act.put, List.setIfInBounds_toArray, List.set_cons_zero, List.set_cons_succ]
        refine wpAnyH_take (i := 4) (v := ?_) rfl (by kernel_rfl) (by kernel_rfl) (by kernel_rfl) (fun _ _ _ h => h) (Or.inl ⟨by rfl, ?_⟩) (by assumption) ?_
        rotate_left
        · intro w hSw; (try dsimp only at hSw); go_simp; (try (with_reducible rfl))
        try simp only [List.getElem_toArray, List.getElem_cons_succ, List.getElem_cons_zero, Act.put, List.setIfInBounds_toArray, List.set_cons_zero, List.set_cons_succ]
        refine wpAnyH_ready (rs := [6]) (by kernel_rfl) (by simp) ?_
        refine AllReadyH.cons rfl (fun K hK => ?_) AllReadyH.nil
        go_simp
        go_at_call 23
        refine (CCI.out _ _ _ HNA.out HXg1.out).mono ?_
        rintro e wg2 ⟨⟨Ac, cq, rfl, hrx⟩, hb⟩
        have HBg2 := Lib.hid (HBg1.out.trans (hb.mono HBg1.out.size))
        have HRg2 := Lib.hid (HRg1.out.below hb)
        have HXg2 := Lib.hid hrx
        clear hb hrx HBg1 HXg1 HRg1
        go_wp2_with fail
        refine hK.out _ _ ?_ (fun hHeld => ?_)
        · clear hK K; exact HS19.out _ HBg2.out
        clear hK K
        try simp only [List.getElem_toArray, List.getElem_cons_succ, List.getElem_cons_zero, Act.put, List.setIfInBounds_toArray, List.set_cons_zero, List.set_cons_succ]
        refine wpAnyH_ready (rs := [7]) (by kernel_rfl) (by simp) ?_
        refine AllReadyH.cons rfl (fun K hK => ?_) AllReadyH.nil
        go_simp
        go_at_call 22
        refine (CR2.out _ _ _ _ _ HRg2.out HXg2.out).mono ?_
        rintro e wg3 ⟨⟨Ay, cy, rfl, hry⟩, hb⟩
        have HBg3 := Lib.hid (HBg2.out.trans (hb.mono HBg2.out.size))
        have HYg := Lib.hid hry
        clear hb hry HBg2 HRg2 HXg2
        go_wp2_with fail
        refine hK.out _ _ ?_ (fun hHeld => ?_)
        · clear hK K; exact HS19.out _ HBg3.out
        clear hK K
        try simp only [List.getElem_toArray, List.getElem_cons_succ, List.getElem_cons_zero, Act.put, List.setIfInBounds_toArray, List.set_cons_zero, List.set_cons_succ]
        refine wpAnyH_take (i := 8) (v := ?_) rfl (by kernel_rfl) (by kernel_rfl) (by kernel_rfl) (fun _ _ _ h => h) (Or.inl ⟨by rfl, ?_⟩) (by assumption) ?_
        rotate_left
        · intro w hSw; (try dsimp only at hSw); go_simp; (try (with_reducible rfl))
        try simp only [List.getElem_toArray, List.getElem_cons_succ, List.getElem_cons_zero, Act.put, List.setIfInBounds_toArray, List.set_cons_zero, List.set_cons_succ]
        refine wpAnyH_take (i := 9) (v := ?_) rfl (by kernel_rfl) (by kernel_rfl) (by kernel_rfl) (fun _ _ _ h => h) (Or.inl ⟨by rfl, ?_⟩) (by assumption) ?_
        rotate_left
        · intro w hSw; (try dsimp only at hSw); go_simp; (try (with_reducible rfl))
        try simp only [List.getElem_toArray, List.getElem_cons_succ, List.getElem_cons_zero, Act.put, List.setIfInBounds_toArray, List.set_cons_zero, List.set_cons_succ]
        refine wpAnyH_take (i := 10) (v := ?_) rfl (by kernel_rfl) (by kernel_rfl) (by kernel_rfl) (fun _ _ _ h => h) (Or.inl ⟨by rfl, ?_⟩) (by assumption) ?_
        rotate_left
        · intro w hSw; (try dsimp only at hSw); go_simp; (try (with_reducible rfl))
        try simp only [List.getElem_toArray, List.getElem_cons_succ, List.getElem_cons_zero, Act.put, List.setIfInBounds_toArray, List.set_cons_zero, List.set_cons_succ]
        refine wpAnyH_take (i := 11) (v := ?_) rfl (by kernel_rfl) (by kernel_rfl) (by kernel_rfl) (fun _ _ _ h => h) (Or.inl ⟨by rfl, ?_⟩) (by assumption) ?_
        rotate_left
        · intro w hSw; (try dsimp only at hSw); go_simp; (try (with_reducible rfl))
        try simp only [List.getElem_toArray, List.getElem_cons_succ, List.getElem_cons_zero, Act.put, List.setIfInBounds_toArray, List.set_cons_zero, List.set_cons_succ]
        refine wpAnyH_take (i := 12) (v := ?_) rfl (by kernel_rfl) (by kernel_rfl) (by kernel_rfl) (fun _ _ _ h => h) (Or.inl ⟨by rfl, ?_⟩) (by assumption) ?_
        rotate_left
        · intro w hSw; (try dsimp only at hSw); go_simp; (try (with_reducible rfl))
        try simp only [List.getElem_toArray, List.getElem_cons_succ, List.getElem_cons_zero, Act.put, List.setIfInBounds_toArray, List.set_cons_zero, List.set_cons_succ]
        refine wpAnyH_done (by kernel_rfl) ?_ _
        clear hHeld
        have hK4 : K ≤ 400 := by have := HK'.out; omega
        have wdk : IntKind.i64.wrap (dv + 1) = (K : Int) := by rw [HK'.out]; exact IntWalk.i64_in _ (by omega)
        go_wp2_with fail
        refine wp_region_held_drew (S := (fun w' : World => w'.cell? ⟨w.heap.size, 1, none⟩ = some (.int .i64 s) ∧ w'.cell? ⟨w1.heap.size, 0, none⟩ = some (.slice A m c))) (by kernel_rfl) ?_ ?_
        · exact HS19.out _ HBg3.out.drew
        intro hHeld
        have HBh0 := Lib.hid HBg3.out.drew
        have HYh0 := Lib.hid HYg.out.drew
        clear HBg3 HYg
        refine wpAnyH_take (i := 0) (v := ?_) rfl (by kernel_rfl) (by kernel_rfl) (by kernel_rfl) (fun _ _ _ h => h) (Or.inl ⟨by rfl, ?_⟩) (by assumption) ?_
        rotate_left
        · intro w hSw; (try dsimp only at hSw); go_simp; (try (with_reducible rfl))
        try simp only [List.getElem_toArray, List.getElem_cons_succ, List.getElem_cons_zero, Act.put, List.setIfInBounds_toArray, List.set_cons_zero, List.set_cons_succ]
        refine wpAnyH_take (i := 1) (v := ?_) rfl (by kernel_rfl) (by kernel_rfl) (by kernel_rfl) (fun _ _ _ h => h) (Or.inl ⟨by rfl, ?_⟩) (by assumption) ?_
        rotate_left
        · intro w hSw; (try dsimp only at hSw); go_simp; (try (with_reducible rfl))
        try simp only [List.getElem_toArray, List.getElem_cons_succ, List.getElem_cons_zero, Act.put, List.setIfInBounds_toArray, List.set_cons_zero, List.set_cons_succ]
        refine wpAnyH_take (i := 2) (v := ?_) rfl (by kernel_rfl) (by kernel_rfl) (by kernel_rfl) (fun _ _ _ h => h) (Or.inl ⟨by rfl, ?_⟩) (by assumption) ?_
        rotate_left
        · intro w hSw; (try dsimp only at hSw); go_simp; (try (with_reducible rfl))
        try simp only [List.getElem_toArray, List.getElem_cons_succ, List.getElem_cons_zero, Act.put, List.setIfInBounds_toArray, List.set_cons_zero, List.set_cons_succ]
        refine wpAnyH_take (i := 3) (v := ?_) rfl (by kernel_rfl) (by kernel_rfl) (by kernel_rfl) (fun _ _ _ h => h) (Or.inl ⟨by rfl, ?_⟩) (by assumption) ?_
        rotate_left
        · intro w hSw; (try dsimp only at hSw); go_simp; (try (with_reducible rfl))
        try simp only [List.getElem_toArray, List.getElem_cons_succ, List.getElem_cons_zero, Act.put, List.setIfInBounds_toArray, List.set_cons_zero, List.set_cons_succ]
        refine wpAnyH_take (i := 4) (v := ?_) rfl (by kernel_rfl) (by kernel_rfl) (by kernel_rfl) (fun _ _ _ h => h) (Or.inl ⟨by rfl, ?_⟩) (by assumption) ?_
        rotate_left
        · intro w hSw; (try dsimp only at hSw); go_simp; (try (with_reducible rfl))
        try simp only [List.getElem_toArray, List.getElem_cons_succ, List.getElem_cons_zero, Act.put, List.setIfInBounds_toArray, List.set_cons_zero, List.set_cons_succ]
        refine wpAnyH_take (i := 5) (v := ?_) rfl (by kernel_rfl) (by kernel_rfl) (by kernel_rfl) (fun _ _ _ h => h) (Or.inl ⟨by rfl, ?_⟩) (by assumption) ?_
        rotate_left
        · intro w hSw; (try dsimp only at hSw); go_simp; (try (with_reducible rfl))
        try simp only [List.getElem_toArray, List.getElem_cons_succ, List.getElem_cons_zero, Act.put, List.setIfInBounds_toArray, List.set_cons_zero, List.set_cons_succ]
        refine wpAnyH_take (i := 8) (v := ?_) rfl (by kernel_rfl) (by kernel_rfl) (by kernel_rfl) (fun _ _ _ h => h) (Or.inl ⟨by rfl, ?_⟩) (by assumption) ?_
        rotate_left
        · intro w hSw; (try dsimp only at hSw); go_simp; (try (with_reducible rfl))
        try simp only [List.getElem_toArray, List.getElem_cons_succ, List.getElem_cons_zero, Act.put, List.setIfInBounds_toArray, List.set_cons_zero, List.set_cons_succ]
        refine wpAnyH_take (i := 9) (v := ?_) rfl (by kernel_rfl) (by kernel_rfl) (by kernel_rfl) (fun _ _ _ h => h) (Or.inl ⟨by rfl, ?_⟩) (by assumption) ?_
        rotate_left
        · intro w hSw; (try dsimp only at hSw); go_simp; (try (with_reducible rfl))
        try simp only [List.getElem_toArray, List.getElem_cons_succ, List.getElem_cons_zero, Act.put, List.setIfInBounds_toArray, List.set_cons_zero, List.set_cons_succ]
        refine wpAnyH_ready (rs := [6]) (by kernel_rfl) (by simp) ?_
        refine AllReadyH.cons rfl (fun K hK => ?_) AllReadyH.nil
        go_simp
        go_at_call 39
        refine (CLa.out _ (HRD.out _ (HTI.out _ HBh0.out))).mono ?_
        rintro e wh ⟨rfl, hb⟩
        have HBh := Lib.hid (HBh0.out.trans (hb.mono HBh0.out.size))
        have HYh := Lib.hid (HYh0.out.below hb)
        clear hb HBh0 HYh0
        go_wp2_with fail
        refine hK.out _ _ ?_ (fun hHeld => ?_)
        · clear hK K; exact HS19.out _ HBh.out
        clear hK K
        try simp only [List.getElem_toArray, List.getElem_cons_succ, List.getElem_cons_zero, Act.put, List.setIfInBounds_toArray, List.set_cons_zero, List.set_cons_succ]
        refine wpAnyH_take (i := 7) (v := ?_) rfl (by kernel_rfl) (by kernel_rfl) (by kernel_rfl) (fun _ _ _ h => h) (Or.inl ⟨by rfl, ?_⟩) (by assumption) ?_
        rotate_left
        · intro w hSw; (try dsimp only at hSw); go_simp; (try (with_reducible rfl))
        try simp only [List.getElem_toArray, List.getElem_cons_succ, List.getElem_cons_zero, Act.put, List.setIfInBounds_toArray, List.set_cons_zero, List.set_cons_succ]
        refine wpAnyH_take (i := 10) (v := ?_) rfl (by kernel_rfl) (by kernel_rfl) (by kernel_rfl) (fun _ _ _ h => h) (Or.inl ⟨by rfl, ?_⟩) (by assumption) ?_
        rotate_left
        · intro w hSw; (try dsimp only at hSw); go_simp; (try (with_reducible rfl))
        try simp only [List.getElem_toArray, List.getElem_cons_succ, List.getElem_cons_zero, Act.put, List.setIfInBounds_toArray, List.set_cons_zero, List.set_cons_succ]
        refine wpAnyH_take (i := 11) (v := ?_) rfl (by kernel_rfl) (by kernel_rfl) (by kernel_rfl) (fun _ _ _ h => h) (Or.inl ⟨by rfl, ?_⟩) (by assumption) ?_
        rotate_left
        · intro w hSw; (try dsimp only at hSw); go_simp; (try (with_reducible rfl))
        try simp only [List.getElem_toArray, List.getElem_cons_succ, List.getElem_cons_zero, Act.put, List.setIfInBounds_toArray, List.set_cons_zero, List.set_cons_succ]
        refine wpAnyH_take (i := 12) (v := ?_) rfl (by kernel_rfl) (by kernel_rfl) (by kernel_rfl) (fun _ _ _ h => h) (Or.inl ⟨by rfl, ?_⟩) (by assumption) ?_
        rotate_left
        · intro w hSw; (try dsimp only at hSw); go_simp; (try (with_reducible rfl))
        try simp only [List.getElem_toArray, List.getElem_cons_succ, List.getElem_cons_zero, Act.put, List.setIfInBounds_toArray, List.set_cons_zero, List.set_cons_succ]
        refine wpAnyH_take (i := 13) (v := ?_) rfl (by kernel_rfl) (by kernel_rfl) (by kernel_rfl) (fun _ _ _ h => h) (Or.inl ⟨by rfl, ?_⟩) (by assumption) ?_
        rotate_left
        · intro w hSw; (try dsimp only at hSw); go_simp; (try (with_reducible rfl))
        try simp only [List.getElem_toArray, List.getElem_cons_succ, List.getElem_cons_zero, Act.put, List.setIfInBounds_toArray, List.set_cons_zero, List.set_cons_succ]
        refine wpAnyH_done (by kernel_rfl) ?_ _
        clear hHeld
        have CFr := Lib.hid (fun W => bsize_any r W (by omega))
        obtain ⟨sr, hsr⟩ : ∃ z, absF r = z := ⟨_, rfl⟩
        have hsrb : 0 ≤ sr ∧ sr ≤ 64 := by rw [← hsr]; unfold absF; split <;> omega
        rw [hsr] at CFr HY2
        have hq1 : sp.tdiv 64 = sp / 64 := Int.tdiv_eq_ediv_of_nonneg hmb.1
        have hq2 : sr.tdiv 64 = sr / 64 := Int.tdiv_eq_ediv_of_nonneg hsrb.1
        obtain ⟨b1, hb1⟩ : ∃ z, sp / 64 = z := ⟨_, rfl⟩
        obtain ⟨b2, hb2⟩ : ∃ z, sr / 64 = z := ⟨_, rfl⟩
        rw [hb1] at hq1 HY2
        rw [hb2] at hq2 HY2
        have hb1b : 0 ≤ b1 ∧ b1 ≤ 1000 := by omega
        have hb2b : 0 ≤ b2 ∧ b2 ≤ 1 := by omega
        have wb0 : IntKind.i64.wrap b1 = b1 := IntWalk.i64_in _ (by omega)
        have wb1 : IntKind.i64.wrap (5 + b1) = 5 + b1 := IntWalk.i64_in _ (by omega)
        have wb2 : IntKind.i64.wrap b2 = b2 := IntWalk.i64_in _ (by omega)
        have wb3 : IntKind.i64.wrap (5 + b1 + b2) = 5 + b1 + b2 := IntWalk.i64_in _ (by omega)
        clear hb1 hb2 hsr
        go_wp2
        go_loopw [11] (fun kv wr => ∃ k : Nat, k ≤ K ∧ kv = .int .i64 k ∧ Hid (∃ j, wr = wh.drewN j)) (fun kv _ => K - (intOf kv).toNat)
        case atStart => exact ⟨0, Nat.zero_le _, rfl, 0, rfl⟩
        case round =>
          obtain ⟨k, hk, rfl, HJ⟩ := hrel
          obtain ⟨jj, hj⟩ := HJ.out
          by_cases hlt : k < K
          · have hkI : (k : Int) < (K : Int) := by omega
            obtain ⟨ay, rfl, _, hcy⟩ := (HYh.out.drewN jj).2 (by omega)
            have hc := hcy k hlt
            have hcd := (bk4 ((HTI.out _ HBh.out).k1.drewN jj))
            rw [← hj] at hc hcd
            obtain ⟨_, hc1, hc2, hc3, _⟩ := hcd
            have hyb := HY2.out k hlt
            obtain ⟨y, hy⟩ : ∃ y, Y.getD k 0 = y := ⟨_, rfl⟩
            rw [hy] at hc hyb
            have hks0 : 0 ≤ (k : Int) * s := Int.mul_nonneg (by omega) (by omega)
            have hm1 := mul_bd (a := r) (b := (k : Int)) (A := 64) (B := 400) hrr (by omega) (by omega) (by omega)
            have hm2 := mul_bd (a := r) (b := (k : Int) * s) (A := 64) (B := 20000) hrr (by omega) (by omega) (by omega)
            have ww1 : IntKind.i64.wrap (r * (k : Int)) = r * (k : Int) := IntWalk.i64_in _ (by omega)
            have hass : r * (k : Int) * s = r * ((k : Int) * s) := Int.mul_assoc _ _ _
            obtain ⟨rk, hrk⟩ : ∃ z, r * ((k : Int) * s) = z := ⟨_, rfl⟩
            rw [hrk] at hyb hm2 hass
            have ww2 : IntKind.i64.wrap (r * (k : Int) * s) = rk := by rw [hass]; exact IntWalk.i64_in _ (by omega)
            have CFl := Lib.hid (fun W => floor_any rk 64 (by omega) (by omega) W)
            obtain ⟨q, hq⟩ : ∃ z, rk / 64 = z := ⟨_, rfl⟩
            rw [hq] at hyb CFl
            have hqb : -20000 ≤ q ∧ q ≤ 20000 := by omega
            obtain ⟨tr, htr⟩ : ∃ z, st + q = z := ⟨_, rfl⟩
            rw [htr] at hyb
            have ww3 : IntKind.i64.wrap (st + q) = tr := by rw [htr]; exact IntWalk.i64_in _ (by omega)
            have ww4 : IntKind.i64.wrap (tr - (5 + b1 + b2)) = tr - (5 + b1 + b2) := IntWalk.i64_in _ (by omega)
            have ww5 : IntKind.i64.wrap (tr + (5 + b1 + b2)) = tr + (5 + b1 + b2) := IntWalk.i64_in _ (by omega)
            have CWn := Lib.hid (fun W => within_any y (tr - (5 + b1 + b2)) (tr + (5 + b1 + b2)) W)
            rw [show fromB (tr - (5 + b1 + b2)) (tr + (5 + b1 + b2)) [y] = true by rw [fromB_one]; exact decide_eq_true hyb.1] at CWn
            have HJ' := Lib.hid hj
            clear hcy hj HJ hy hyb hm1 hm2 hass hrk hq htr hks0
            go_wp2
            go_quiet ((go_at_call 43; with_reducible exact quietP (CFl.out _)))
            go_wp2_with fail
            refine (CFr.out _).mono ?_
            rintro e w' ⟨rfl, rfl⟩
            go_wp2_with fail
            refine (CWn.out _).mono ?_
            rintro e w' ⟨rfl, rfl⟩
            go_wp2
            go_roundw
            case rel => exact ⟨k + 1, by omega, by go_num, by rw [HJ'.out]; exact ⟨_, by simp [World.drewN_drewN]; rfl⟩⟩
            case measure => simp [intOf]; omega
          · obtain rfl : K = k := by omega
            have hkI : ¬ (K : Int) < (K : Int) := by omega
            have BB := belowDrewN (HRB.out.trans (HBh.out.mono HRB.out.size)) jj
            rw [← hj] at BB
            clear hlt hj HJ
            go_wp2
            go_ret
            exact ⟨by simp, BB⟩
      · have dS := neT hS
        go_wp2
        go_ret
        exact ⟨rfl, HRB.out.trans (HBa.out.mono HRB.out.size)⟩

end Go.Proofs.Ytepcciodhppbnaa
