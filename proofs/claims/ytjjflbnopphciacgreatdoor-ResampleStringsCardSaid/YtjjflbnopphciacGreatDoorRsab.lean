import Derived.Test.YtjjflbnopphciacGreatDoorRsaa


namespace Go.Proofs.YtjjflbnopphciacGreatDoor
open Go.RowKit

def degE (d : Int) : Int := if d = 1 ∨ d = 3 then 0 else 15
def valE (d : Int) (xs : List Int) (q : Int) : Int := firstNZ [degE d, sigE xs, rngE 0 (64 * ((xs.length : Int) - 1)) [q]]
def valN (d : Int) (xs : List Int) (q : Int) : Int := if valE d xs q = 0 then (if d = 1 then vnum1 xs q else vnum3 xs q) else 0
def valD (d : Int) (xs : List Int) (q : Int) : Int := if valE d xs q = 0 then (if d = 1 then 64 else 1572864) else 0
theorem fromB_all {lo hi : Int} {xs : List Int} (h : fromB lo hi xs = true) : ∀ x ∈ xs, lo ≤ x ∧ x ≤ hi := by
  intro x hx
  unfold fromB at h
  have := List.all_eq_true.1 h x hx
  simpa using this
theorem numE_zero {m : Int} {xs : List Int} (h : numE m xs = 0) : xs.length ≤ 400 ∧ ∀ x ∈ xs, -m ≤ x ∧ x ≤ m := by
  unfold numE at h
  by_cases h1 : 400 < xs.length
  · rw [if_pos h1] at h; cases h
  · rw [if_neg h1] at h
    refine ⟨by omega, fromB_all ?_⟩
    unfold rngE at h
    by_cases h2 : fromB (-m) m xs = true
    · exact h2
    · rw [if_neg h2] at h; cases h
theorem sigE_zero {xs : List Int} (h : sigE xs = 0) : xs.length ≤ 400 ∧ ∀ x ∈ xs, -32767 ≤ x ∧ x ≤ 32767 := numE_zero h
theorem valE_zero {d : Int} {xs : List Int} {q : Int} (h : valE d xs q = 0) : (d = 1 ∨ d = 3) ∧ (0 < xs.length ∧ xs.length ≤ 400 ∧ ∀ x ∈ xs, -32767 ≤ x ∧ x ≤ 32767) ∧ 0 ≤ q ∧ q ≤ 64 * ((xs.length : Int) - 1) := by
  have h1 := firstNZ_zero h (degE d) (by simp)
  have h2 := sigE_zero (firstNZ_zero h (sigE xs) (by simp))
  have h3 := rngE_zero (firstNZ_zero h (rngE 0 (64 * ((xs.length : Int) - 1)) [q]) (by simp))
  refine ⟨?_, ⟨by omega, h2.1, h2.2⟩, h3⟩
  unfold degE at h1
  by_cases h4 : d = 1 ∨ d = 3
  · exact h4
  · rw [if_neg h4] at h1; cases h1
theorem lastPosition_any (n : Nat) (w : World) (hn : n ≤ 1000000000) :
    Calls Tryz.prog 50 #[.int .i64 n] w fun e w' => e = .returned (.int .i64 (64 * ((n : Int) - 1))) ∧ w = w' := by
  have h1 : IntKind.i64.wrap ((n : Int) - 1) = (n : Int) - 1 := IntWalk.i64_in _ (by omega)
  have h2 : IntKind.i64.wrap (64 * ((n : Int) - 1)) = 64 * ((n : Int) - 1) := IntWalk.i64_in _ (by omega)
  go_enter Tryz.func50, Tryz.ntmps50
  go_wp2
  go_ret
  exact ⟨rfl, rfl⟩

set_option maxRecDepth 100000 in
set_option maxHeartbeats 2000000 in
theorem ValueAt1_any (A : Option Addr) (n c : Nat) (xs : List Int) (q : Int) (w : World) (hr : RdI w A n xs) (hn : n ≤ 1000000) :
    Calls Tryz.prog 21 #[.int .i64 1, .slice A n c, .int .i64 q] w fun e w' => e = .returned (.tuple #[.int .i64 (valN 1 xs q), .int .i64 (valD 1 xs q), .int .i64 (valE 1 xs q)]) ∧ Below w.heap.size w w' := by
  have HE : Hid (valE 1 xs q = firstNZ [degE 1, sigE xs, rngE 0 (64 * ((n : Int) - 1)) [q]]) := by show _ = _; unfold valE; rw [hr.1]
  have CF : Hid (∀ {F : Int} (_ : valE 1 xs q = F) (W : World) (g : Nat) (_ : W.cell? ⟨g, 0, none⟩ = some (.int .i64 (degE 1))) (_ : W.cell? ⟨g, 1, none⟩ = some (.int .i64 (sigE xs))) (_ : W.cell? ⟨g, 2, none⟩ = some (.int .i64 (rngE 0 (64 * ((n : Int) - 1)) [q]))), Calls Tryz.prog 33 #[.slice (some ⟨g, 0, none⟩) 3 3] W fun e w' => e = .returned (.int .i64 F) ∧ W = w') := fun h W g h0 h1 h2 => firstError3 (HE.out.symm.trans h) W g h0 h1 h2
  have HNN : Hid (xs.length = n) := hr.1
  have HV : Hid (valN 1 xs q = if valE 1 xs q = 0 then vnum1 xs q else 0) := by show _ = _; unfold valN; simp
  have HD : Hid (valD 1 xs q = if valE 1 xs q = 0 then 64 else 0) := by show _ = _; unfold valD; simp
  have HG : Hid (degE 1 = 0) := by show _ = _; unfold degE; simp
  have HZ : Hid (valE 1 xs q = 0 → (0 < xs.length ∧ xs.length ≤ 400 ∧ ∀ x ∈ xs, -32767 ≤ x ∧ x ≤ 32767) ∧ 0 ≤ q ∧ q ≤ 64 * ((xs.length : Int) - 1)) := fun h => (valE_zero h).2
  have C1 := Lib.hid (fun w => itpOf_1 w)
  have C2 : Hid (∀ w', Below w.heap.size w w' → Calls Tryz.prog 48 #[.slice A n c] w' fun e w'' => e = .returned (.int .i64 (sigE xs)) ∧ Below w'.heap.size w' w'') := fun w' hb => checkSignal_any A n c xs w' (hr.below hb) (by omega)
  have CL := Lib.hid (fun w => lastPosition_any n w (by omega))
  have C3 := Lib.hid (fun x y w h1 h2 => from1_any q 0 (64 * ((n : Int) - 1)) x y w h1 h2)
  have HR := Lib.hid hr
  clear hr
  obtain ⟨F, hF⟩ : ∃ F, valE 1 xs q = F := ⟨_, rfl⟩
  have CF' := Lib.hid (CF.out hF)
  rw [hF] at HV HD HZ
  have HF := Lib.hid hF
  rw [HG.out] at CF'
  clear hF CF HG HE
  obtain ⟨E2, hE2⟩ : ∃ E, sigE xs = E := ⟨_, rfl⟩
  obtain ⟨last, hlast⟩ : ∃ E, 64 * ((n : Int) - 1) = E := ⟨_, rfl⟩
  rw [hlast] at C3 CL CF'
  obtain ⟨E3, hE3⟩ : ∃ E, rngE 0 last [q] = E := ⟨_, rfl⟩
  rw [hE2] at C2 CF'
  rw [hE3] at C3 CF'
  have HLA := Lib.hid hlast
  clear hE2 hE3 hlast
  unfold itp1 at C1
  go_enter Tryz.func21, Tryz.ntmps21
  go_wp2_with fail
  refine (C1.out _).mono ?_
  rintro e w1 ⟨rfl, hb1⟩
  have B1 := Lib.hid hb1
  have hz1 := hb1.size
  clear hb1 C1
  go_wp2_with fail
  refine (C2.out _ (by have := B1.out; go_grown)).mono ?_
  rintro e w2 ⟨rfl, hb2⟩
  have K2 := Lib.hid ((Bk.new w1 90 #[.int .i64 1, .int .i64 0, .int .i64 64, .func (.func 76) #[] #[], .int .i64 8192, .func (.func 77) #[] #[]]).later hb2)
  have B2 := Lib.hid ((B1.out.alloc hz1 (.cells #[.int .i64 1, .int .i64 0, .int .i64 64, .func (.func 76) #[] #[], .int .i64 8192, .func (.func 77) #[] #[]] 90)).trans (hb2.mono (by simp; omega)))
  have hz2 : w1.heap.size < w2.heap.size := by have := hb2.size; simp at this; omega
  clear hb2 B1
  go_wp2_with (first | (go_at_call 50; refine (CL.out _).mono ?_; rintro e w' ⟨rfl, rfl⟩) | (go_at_call 49; refine (from_any _ _ _).mono ?_; rintro e w' ⟨rfl, rfl⟩) | (go_at_call 81; refine (C3.out _ _ _ ?_ ?_).mono ?_; (focus (simp [go_sem])); (focus (simp [go_sem])); rintro e w' ⟨rfl, rfl⟩) | (go_at_call 33; refine (CF'.out _ _ ?_ ?_ ?_).mono ?_; (focus (simp [go_sem])); (focus (simp [go_sem])); (focus (simp [go_sem])); rintro e w' ⟨rfl, rfl⟩))
  · have h0 := ne0_of (F := F) (by assumption)
    refine bodyPost_ret (v := .tuple #[.int .i64 0, .int .i64 0, .int .i64 F]) (by simp [results, Tryz.results21, go_sem]) rfl ⟨retI3 (by rw [HV.out, if_neg h0]) (by rw [HD.out, if_neg h0]) HF.out.symm, ?_⟩
    have := B2.out
    have := this.size
    go_grown
  · have h0 := eq0_of (F := F) (by assumption)
    subst h0
    obtain ⟨⟨z1, z2, z3⟩, z4, z5⟩ := HZ.out rfl
    have K3 := Lib.hid ((((K2.out).alloc (.cells #[.int .i64 0] 3)).alloc (.cells #[.int .i64 last] 3)).alloc (.cells #[.int .i64 0, .int .i64 E2, .int .i64 E3] 37))
    have hs2 := B2.out.size
    have B3 := Lib.hid ((((B2.out).alloc (by first | omega | (simp; omega)) (.cells #[.int .i64 0] 3)).alloc (by first | omega | (simp; omega)) (.cells #[.int .i64 last] 3)).alloc (by first | omega | (simp; omega)) (.cells #[.int .i64 0, .int .i64 E2, .int .i64 E3] 37))
    clear K2 B2
    obtain ⟨W3, hW3⟩ : ∃ W3, ((w2.alloc (.cells #[.int .i64 0] 3)).alloc (.cells #[.int .i64 last] 3)).alloc (.cells #[.int .i64 0, .int .i64 E2, .int .i64 E3] 37) = W3 := ⟨_, rfl⟩
    rw [hW3] at K3 B3 ⊢
    clear hW3
    have CN : Hid (∀ w', Below w.heap.size w w' → Calls Tryz.prog 51 #[itp1, .slice A n c, .int .i64 q] w' fun e w'' => e = .returned (.int .i64 (vnum1 xs q)) ∧ Below w'.heap.size w' w'') := fun w' hb => num1_any A n c xs q w' (HR.out.below hb) (by have := HNN.out; omega) z3 (by omega)
    have HV2 : Hid (valN 1 xs q = vnum1 xs q) := by show _ = _; rw [HV.out, if_pos rfl]
    have HD2 : Hid (valD 1 xs q = 64) := by show _ = _; rw [HD.out, if_pos rfl]
    unfold itp1 at CN
    clear z1 z2 z3 z4 z5 HZ HV HD C2 CL C3 CF'
    obtain ⟨q0, q1, q2, q3, q4, q5⟩ := bk6 K3.out
    obtain ⟨v, hv⟩ : ∃ v, vnum1 xs q = v := ⟨_, rfl⟩
    rw [hv] at CN HV2
    clear hv
    go_region_held3 (fun w' : World => (w'.cell? ⟨w1.heap.size, 0, none⟩ = some (.int .i64 1) ∧ w'.cell? ⟨w1.heap.size, 1, none⟩ = some (.int .i64 0) ∧ w'.cell? ⟨w1.heap.size, 2, none⟩ = some (.int .i64 64) ∧ w'.cell? ⟨w1.heap.size, 3, none⟩ = some (.func (.func 76) #[] #[]) ∧ w'.cell? ⟨w1.heap.size, 4, none⟩ = some (.int .i64 8192) ∧ w'.cell? ⟨w1.heap.size, 5, none⟩ = some (.func (.func 77) #[] #[])) ∧ Below W3.heap.size W3 w') (((repeat' apply And.intro) <;> first | assumption | (go_grown; done) | (simp [go_sem]; assumption)))
      ((go_at_call 51; refine (CN.out _ ?_).mono ?_; (focus (have := B3.out; have := this.drew; assumption)); rintro e w3 ⟨rfl, hb3⟩; have K4 : Bk w3 w1.heap.size 90 #[.int .i64 1, .int .i64 0, .int .i64 64, .func (.func 76) #[] #[], .int .i64 8192, .func (.func 77) #[] #[]] := (K3.out.drew).later hb3; have B4 : Below W3.heap.size W3 w3 := (Below.refl _ _).drew.trans hb3; have qq := bk6 K4; obtain ⟨q0, q1, q2, q3, q4, q5⟩ := qq))
    all_goals
      have BW := Lib.hid (B3.out.trans (B4.mono B3.out.size))
      clear hb3 K4 B4
      go_wp2
      refine bodyPost_ret (v := .tuple #[.int .i64 v, .int .i64 64, .int .i64 0]) (by simp [results, Tryz.results21, go_sem]) rfl ⟨retI3 HV2.out.symm HD2.out.symm HF.out.symm, BW.out⟩

set_option maxRecDepth 100000 in
set_option maxHeartbeats 2000000 in
theorem ValueAt3_any (A : Option Addr) (n c : Nat) (xs : List Int) (q : Int) (w : World) (hr : RdI w A n xs) (hn : n ≤ 1000000) :
    Calls Tryz.prog 21 #[.int .i64 3, .slice A n c, .int .i64 q] w fun e w' => e = .returned (.tuple #[.int .i64 (valN 3 xs q), .int .i64 (valD 3 xs q), .int .i64 (valE 3 xs q)]) ∧ Below w.heap.size w w' := by
  have HE : Hid (valE 3 xs q = firstNZ [degE 3, sigE xs, rngE 0 (64 * ((n : Int) - 1)) [q]]) := by show _ = _; unfold valE; rw [hr.1]
  have CF : Hid (∀ {F : Int} (_ : valE 3 xs q = F) (W : World) (g : Nat) (_ : W.cell? ⟨g, 0, none⟩ = some (.int .i64 (degE 3))) (_ : W.cell? ⟨g, 1, none⟩ = some (.int .i64 (sigE xs))) (_ : W.cell? ⟨g, 2, none⟩ = some (.int .i64 (rngE 0 (64 * ((n : Int) - 1)) [q]))), Calls Tryz.prog 33 #[.slice (some ⟨g, 0, none⟩) 3 3] W fun e w' => e = .returned (.int .i64 F) ∧ W = w') := fun h W g h0 h1 h2 => firstError3 (HE.out.symm.trans h) W g h0 h1 h2
  have HNN : Hid (xs.length = n) := hr.1
  have HV : Hid (valN 3 xs q = if valE 3 xs q = 0 then vnum3 xs q else 0) := by show _ = _; unfold valN; simp
  have HD : Hid (valD 3 xs q = if valE 3 xs q = 0 then 1572864 else 0) := by show _ = _; unfold valD; simp
  have HG : Hid (degE 3 = 0) := by show _ = _; unfold degE; simp
  have HZ : Hid (valE 3 xs q = 0 → (0 < xs.length ∧ xs.length ≤ 400 ∧ ∀ x ∈ xs, -32767 ≤ x ∧ x ≤ 32767) ∧ 0 ≤ q ∧ q ≤ 64 * ((xs.length : Int) - 1)) := fun h => (valE_zero h).2
  have C1 := Lib.hid (fun w => itpOf_3 w)
  have C2 : Hid (∀ w', Below w.heap.size w w' → Calls Tryz.prog 48 #[.slice A n c] w' fun e w'' => e = .returned (.int .i64 (sigE xs)) ∧ Below w'.heap.size w' w'') := fun w' hb => checkSignal_any A n c xs w' (hr.below hb) (by omega)
  have CL := Lib.hid (fun w => lastPosition_any n w (by omega))
  have C3 := Lib.hid (fun x y w h1 h2 => from1_any q 0 (64 * ((n : Int) - 1)) x y w h1 h2)
  have HR := Lib.hid hr
  clear hr
  obtain ⟨F, hF⟩ : ∃ F, valE 3 xs q = F := ⟨_, rfl⟩
  have CF' := Lib.hid (CF.out hF)
  rw [hF] at HV HD HZ
  have HF := Lib.hid hF
  rw [HG.out] at CF'
  clear hF CF HG HE
  obtain ⟨E2, hE2⟩ : ∃ E, sigE xs = E := ⟨_, rfl⟩
  obtain ⟨last, hlast⟩ : ∃ E, 64 * ((n : Int) - 1) = E := ⟨_, rfl⟩
  rw [hlast] at C3 CL CF'
  obtain ⟨E3, hE3⟩ : ∃ E, rngE 0 last [q] = E := ⟨_, rfl⟩
  rw [hE2] at C2 CF'
  rw [hE3] at C3 CF'
  have HLA := Lib.hid hlast
  clear hE2 hE3 hlast
  unfold itp3 at C1
  go_enter Tryz.func21, Tryz.ntmps21
  go_wp2_with fail
  refine (C1.out _).mono ?_
  rintro e w1 ⟨rfl, hb1⟩
  have B1 := Lib.hid hb1
  have hz1 := hb1.size
  clear hb1 C1
  go_wp2_with fail
  refine (C2.out _ (by have := B1.out; go_grown)).mono ?_
  rintro e w2 ⟨rfl, hb2⟩
  have K2 := Lib.hid ((Bk.new w1 90 #[.int .i64 3, .int .i64 1, .int .i64 1572864, .func (.func 78) #[] #[], .int .i64 402653184, .func (.func 79) #[] #[]]).later hb2)
  have B2 := Lib.hid ((B1.out.alloc hz1 (.cells #[.int .i64 3, .int .i64 1, .int .i64 1572864, .func (.func 78) #[] #[], .int .i64 402653184, .func (.func 79) #[] #[]] 90)).trans (hb2.mono (by simp; omega)))
  have hz2 : w1.heap.size < w2.heap.size := by have := hb2.size; simp at this; omega
  clear hb2 B1
  go_wp2_with (first | (go_at_call 50; refine (CL.out _).mono ?_; rintro e w' ⟨rfl, rfl⟩) | (go_at_call 49; refine (from_any _ _ _).mono ?_; rintro e w' ⟨rfl, rfl⟩) | (go_at_call 81; refine (C3.out _ _ _ ?_ ?_).mono ?_; (focus (simp [go_sem])); (focus (simp [go_sem])); rintro e w' ⟨rfl, rfl⟩) | (go_at_call 33; refine (CF'.out _ _ ?_ ?_ ?_).mono ?_; (focus (simp [go_sem])); (focus (simp [go_sem])); (focus (simp [go_sem])); rintro e w' ⟨rfl, rfl⟩))
  · have h0 := ne0_of (F := F) (by assumption)
    refine bodyPost_ret (v := .tuple #[.int .i64 0, .int .i64 0, .int .i64 F]) (by simp [results, Tryz.results21, go_sem]) rfl ⟨retI3 (by rw [HV.out, if_neg h0]) (by rw [HD.out, if_neg h0]) HF.out.symm, ?_⟩
    have := B2.out
    have := this.size
    go_grown
  · have h0 := eq0_of (F := F) (by assumption)
    subst h0
    obtain ⟨⟨z1, z2, z3⟩, z4, z5⟩ := HZ.out rfl
    have K3 := Lib.hid ((((K2.out).alloc (.cells #[.int .i64 0] 3)).alloc (.cells #[.int .i64 last] 3)).alloc (.cells #[.int .i64 0, .int .i64 E2, .int .i64 E3] 37))
    have hs2 := B2.out.size
    have B3 := Lib.hid ((((B2.out).alloc (by first | omega | (simp; omega)) (.cells #[.int .i64 0] 3)).alloc (by first | omega | (simp; omega)) (.cells #[.int .i64 last] 3)).alloc (by first | omega | (simp; omega)) (.cells #[.int .i64 0, .int .i64 E2, .int .i64 E3] 37))
    clear K2 B2
    obtain ⟨W3, hW3⟩ : ∃ W3, ((w2.alloc (.cells #[.int .i64 0] 3)).alloc (.cells #[.int .i64 last] 3)).alloc (.cells #[.int .i64 0, .int .i64 E2, .int .i64 E3] 37) = W3 := ⟨_, rfl⟩
    rw [hW3] at K3 B3 ⊢
    clear hW3
    have CN : Hid (∀ w', Below w.heap.size w w' → Calls Tryz.prog 51 #[itp3, .slice A n c, .int .i64 q] w' fun e w'' => e = .returned (.int .i64 (vnum3 xs q)) ∧ Below w'.heap.size w' w'') := fun w' hb => num3_any A n c xs q w' (HR.out.below hb) (by have := HNN.out; omega) z3 (by omega)
    have HV2 : Hid (valN 3 xs q = vnum3 xs q) := by show _ = _; rw [HV.out, if_pos rfl]
    have HD2 : Hid (valD 3 xs q = 1572864) := by show _ = _; rw [HD.out, if_pos rfl]
    unfold itp3 at CN
    clear z1 z2 z3 z4 z5 HZ HV HD C2 CL C3 CF'
    obtain ⟨q0, q1, q2, q3, q4, q5⟩ := bk6 K3.out
    obtain ⟨v, hv⟩ : ∃ v, vnum3 xs q = v := ⟨_, rfl⟩
    rw [hv] at CN HV2
    clear hv
    go_region_held3 (fun w' : World => (w'.cell? ⟨w1.heap.size, 0, none⟩ = some (.int .i64 3) ∧ w'.cell? ⟨w1.heap.size, 1, none⟩ = some (.int .i64 1) ∧ w'.cell? ⟨w1.heap.size, 2, none⟩ = some (.int .i64 1572864) ∧ w'.cell? ⟨w1.heap.size, 3, none⟩ = some (.func (.func 78) #[] #[]) ∧ w'.cell? ⟨w1.heap.size, 4, none⟩ = some (.int .i64 402653184) ∧ w'.cell? ⟨w1.heap.size, 5, none⟩ = some (.func (.func 79) #[] #[])) ∧ Below W3.heap.size W3 w') (((repeat' apply And.intro) <;> first | assumption | (go_grown; done) | (simp [go_sem]; assumption)))
      ((go_at_call 51; refine (CN.out _ ?_).mono ?_; (focus (have := B3.out; have := this.drew; assumption)); rintro e w3 ⟨rfl, hb3⟩; have K4 : Bk w3 w1.heap.size 90 #[.int .i64 3, .int .i64 1, .int .i64 1572864, .func (.func 78) #[] #[], .int .i64 402653184, .func (.func 79) #[] #[]] := (K3.out.drew).later hb3; have B4 : Below W3.heap.size W3 w3 := (Below.refl _ _).drew.trans hb3; have qq := bk6 K4; obtain ⟨q0, q1, q2, q3, q4, q5⟩ := qq))
    all_goals
      have BW := Lib.hid (B3.out.trans (B4.mono B3.out.size))
      clear hb3 K4 B4
      go_wp2
      refine bodyPost_ret (v := .tuple #[.int .i64 v, .int .i64 1572864, .int .i64 0]) (by simp [results, Tryz.results21, go_sem]) rfl ⟨retI3 HV2.out.symm HD2.out.symm HF.out.symm, BW.out⟩

set_option maxRecDepth 100000 in
set_option maxHeartbeats 2000000 in
theorem ValueAt0_any (d : Int) (h1 : d ≠ 1) (h3 : d ≠ 3) (A : Option Addr) (n c : Nat) (xs : List Int) (q : Int) (w : World) (hr : RdI w A n xs) (hn : n ≤ 1000000) :
    Calls Tryz.prog 21 #[.int .i64 d, .slice A n c, .int .i64 q] w fun e w' => e = .returned (.tuple #[.int .i64 (valN d xs q), .int .i64 (valD d xs q), .int .i64 (valE d xs q)]) ∧ Below w.heap.size w w' := by
  have HE : Hid (valE d xs q = firstNZ [degE d, sigE xs, rngE 0 (64 * ((n : Int) - 1)) [q]]) := by show _ = _; unfold valE; rw [hr.1]
  have CF : Hid (∀ {F : Int} (_ : valE d xs q = F) (W : World) (g : Nat) (_ : W.cell? ⟨g, 0, none⟩ = some (.int .i64 (degE d))) (_ : W.cell? ⟨g, 1, none⟩ = some (.int .i64 (sigE xs))) (_ : W.cell? ⟨g, 2, none⟩ = some (.int .i64 (rngE 0 (64 * ((n : Int) - 1)) [q]))), Calls Tryz.prog 33 #[.slice (some ⟨g, 0, none⟩) 3 3] W fun e w' => e = .returned (.int .i64 F) ∧ W = w') := fun h W g h0 h1 h2 => firstError3 (HE.out.symm.trans h) W g h0 h1 h2
  have HNN : Hid (xs.length = n) := hr.1
  have HG : Hid (degE d = 15) := by show _ = _; unfold degE; rw [if_neg (by omega)]
  have HV15 : valE d xs q = 15 := by rw [HE.out, HG.out]; rfl
  have HV : Hid (valN d xs q = 0) := by show _ = _; unfold valN; rw [HV15]; rfl
  have HD : Hid (valD d xs q = 0) := by show _ = _; unfold valD; rw [HV15]; rfl
  have C1 := Lib.hid (fun w => itpOf_no d w h1 h3)
  clear h1 h3
  have C2 : Hid (∀ w', Below w.heap.size w w' → Calls Tryz.prog 48 #[.slice A n c] w' fun e w'' => e = .returned (.int .i64 (sigE xs)) ∧ Below w'.heap.size w' w'') := fun w' hb => checkSignal_any A n c xs w' (hr.below hb) (by omega)
  have CL := Lib.hid (fun w => lastPosition_any n w (by omega))
  have C3 := Lib.hid (fun x y w h1 h2 => from1_any q 0 (64 * ((n : Int) - 1)) x y w h1 h2)
  have HR := Lib.hid hr
  clear hr
  obtain ⟨F, hF⟩ : ∃ F, valE d xs q = F := ⟨_, rfl⟩
  have CF' := Lib.hid (CF.out hF)
  have hF15 : F = 15 := by rw [← hF, HV15]
  clear HV15
  subst hF15
  have HF := Lib.hid hF
  rw [HG.out] at CF'
  clear hF CF HG HE
  obtain ⟨E2, hE2⟩ : ∃ E, sigE xs = E := ⟨_, rfl⟩
  obtain ⟨last, hlast⟩ : ∃ E, 64 * ((n : Int) - 1) = E := ⟨_, rfl⟩
  rw [hlast] at C3 CL CF'
  obtain ⟨E3, hE3⟩ : ∃ E, rngE 0 last [q] = E := ⟨_, rfl⟩
  rw [hE2] at C2 CF'
  rw [hE3] at C3 CF'
  have HLA := Lib.hid hlast
  clear hE2 hE3 hlast
  unfold itp0 at C1
  go_enter Tryz.func21, Tryz.ntmps21
  go_wp2_with fail
  refine (C1.out _).mono ?_
  rintro e w1 ⟨rfl, hb1⟩
  have B1 := Lib.hid hb1
  have hz1 := hb1.size
  clear hb1 C1
  go_wp2_with fail
  refine (C2.out _ (by have := B1.out; go_grown)).mono ?_
  rintro e w2 ⟨rfl, hb2⟩
  have K2 := Lib.hid ((Bk.new w1 90 #[.int .i64 0, .int .i64 0, .int .i64 0, .nilFunc, .int .i64 0, .nilFunc]).later hb2)
  have B2 := Lib.hid ((B1.out.alloc hz1 (.cells #[.int .i64 0, .int .i64 0, .int .i64 0, .nilFunc, .int .i64 0, .nilFunc] 90)).trans (hb2.mono (by simp; omega)))
  have hz2 : w1.heap.size < w2.heap.size := by have := hb2.size; simp at this; omega
  clear hb2 B1
  go_wp2_with (first | (go_at_call 50; refine (CL.out _).mono ?_; rintro e w' ⟨rfl, rfl⟩) | (go_at_call 49; refine (from_any _ _ _).mono ?_; rintro e w' ⟨rfl, rfl⟩) | (go_at_call 81; refine (C3.out _ _ _ ?_ ?_).mono ?_; (focus (simp [go_sem])); (focus (simp [go_sem])); rintro e w' ⟨rfl, rfl⟩) | (go_at_call 33; refine (CF'.out _ _ ?_ ?_ ?_).mono ?_; (focus (simp [go_sem])); (focus (simp [go_sem])); (focus (simp [go_sem])); rintro e w' ⟨rfl, rfl⟩))
  refine bodyPost_ret (v := .tuple #[.int .i64 0, .int .i64 0, .int .i64 15]) (by simp [results, Tryz.results21, go_sem]) rfl ⟨retI3 HV.out.symm HD.out.symm HF.out.symm, ?_⟩
  have := B2.out
  have := this.size
  go_grown

theorem ValueAt_any (d : Int) (A : Option Addr) (n c : Nat) (xs : List Int) (q : Int) (w : World) (hr : RdI w A n xs) (hn : n ≤ 1000000) :
    Calls Tryz.prog 21 #[.int .i64 d, .slice A n c, .int .i64 q] w fun e w' => e = .returned (.tuple #[.int .i64 (valN d xs q), .int .i64 (valD d xs q), .int .i64 (valE d xs q)]) ∧ Below w.heap.size w w' := by
  by_cases h1 : d = 1
  · subst h1; exact ValueAt1_any A n c xs q w hr hn
  · by_cases h3 : d = 3
    · subst h3; exact ValueAt3_any A n c xs q w hr hn
    · exact ValueAt0_any d h1 h3 A n c xs q w hr hn

end Go.Proofs.YtjjflbnopphciacGreatDoor


namespace Go.Proofs.YtjjflbnopphciacGreatDoor
open Go.RowKit

theorem gcd_step (a b : Int) : Int.gcd b (a.tmod b) = Int.gcd a b := by
  unfold Int.gcd
  rw [Int.natAbs_tmod, Nat.gcd_comm a.natAbs, Nat.gcd_rec b.natAbs a.natAbs, Nat.gcd_comm]
theorem tmod_lt (a b : Int) (hb : b ≠ 0) : (a.tmod b).natAbs < b.natAbs := by
  rw [Int.natAbs_tmod]; exact Nat.mod_lt _ (by omega)
/-- The parts of a fraction in lowest terms. -/
def frN (n d : Int) : Int := n.tdiv (Int.gcd n d : Nat)
def frD (n d : Int) : Int := d.tdiv (Int.gcd n d : Nat)
theorem gcd_abs (n d : Int) : Int.gcd d (absF n) = Int.gcd n d := by
  unfold absF
  split
  · rw [Int.gcd_neg, Int.gcd_comm]
  · rw [Int.gcd_comm]
theorem tdiv_bd (n : Int) (g : Int) (h : -1000000000000000000 ≤ n ∧ n ≤ 1000000000000000000) : -1000000000000000000 ≤ n.tdiv g ∧ n.tdiv g ≤ 1000000000000000000 := by
  have h1 := Int.natAbs_tdiv_le_natAbs n g
  omega

set_option maxRecDepth 100000 in
set_option maxHeartbeats 1000000 in
theorem fractionOf_any (n d : Int) (w : World) (hn : -1000000000000000000 ≤ n ∧ n ≤ 1000000000000000000) (hd : 0 < d ∧ d ≤ 1000000000000000000) :
    Calls Tryz.prog 55 #[.int .i64 n, .int .i64 d] w fun e w' => e = .returned (.agg #[.int .i64 (frN n d), .int .i64 (frD n d)]) ∧ Below w.heap.size w w' := by
  have ha := absF_bd n 1000000000000000000 hn
  have CS := Lib.hid (fun w => rsize_any n w (by omega))
  have HG := Lib.hid (gcd_abs n d)
  have HN : Hid (frN n d = n.tdiv (Int.gcd n d : Nat)) := rfl
  have HD : Hid (frD n d = d.tdiv (Int.gcd n d : Nat)) := rfl
  have HPOS : Hid (0 < Int.gcd n d) := Int.gcd_pos_of_ne_zero_right _ (by omega)
  obtain ⟨r, hr⟩ : ∃ r, absF n = r := ⟨_, rfl⟩
  obtain ⟨G, hG⟩ : ∃ G, Int.gcd n d = G := ⟨_, rfl⟩
  rw [hr] at ha CS HG
  rw [hG] at HG HN HD HPOS
  clear hr hG
  go_enter Tryz.func55, Tryz.ntmps55
  go_wp2_with (go_at_call 54; refine (CS.out _).mono ?_; rintro e w' ⟨rfl, rfl⟩)
  obtain ⟨W, hW⟩ : ∃ W, w.alloc (.cells #[.int .i64 0, .int .i64 0] 58) = W := ⟨_, rfl⟩
  have KW : Hid (Bk W w.heap.size 58 #[.int .i64 0, .int .i64 0]) := by show Bk _ _ _ _; rw [← hW]; exact Bk.new _ _ _
  have BW : Hid (Below w.heap.size w W) := by show Below _ _ _; rw [← hW]; exact (Below.refl _ _).alloc (Nat.le_refl _) _
  have hsz : w.heap.size < W.heap.size := by rw [← hW]; simp
  rw [hW]
  clear hW
  go_loopw [5, 6] (fun p q wr => ∃ a b : Int, p = .int .i64 a ∧ q = .int .i64 b ∧ (-1000000000000000000 ≤ a ∧ a ≤ 1000000000000000000) ∧ (-1000000000000000000 ≤ b ∧ b ≤ 1000000000000000000) ∧ 0 < a ∧ 0 ≤ b ∧ Hid (Int.gcd a b = G) ∧ Hid (∃ j, wr = W.drewN j)) (fun _ q _ => (intOf q).natAbs)
  case atStart => exact ⟨d, r, rfl, rfl, by omega, by omega, hd.1, by omega, HG, 0, rfl⟩
  case round =>
    obtain ⟨a, b, rfl, rfl, hab, hbb, ha0, hb0, HI, HJ⟩ := hrel
    by_cases h0 : b = 0
    · subst h0
      obtain ⟨j, rfl⟩ := HJ.out
      have hag : a = (G : Int) := by
        have := HI.out
        rw [Int.gcd_zero_right] at this
        omega
      subst hag
      have hne : ((G : Int) == 0) = false := by rw [beq_eq_false_iff_ne]; omega
      have c0 : (W.drewN j).cell? ⟨w.heap.size, 0, none⟩ = some (.int .i64 0) := by rw [(KW.out.drewN j).cell]; rfl
      have c1 : (W.drewN j).cell? ⟨w.heap.size, 1, none⟩ = some (.int .i64 0) := by rw [(KW.out.drewN j).cell]; rfl
      have f0 : (W.drewN j).frozen? ⟨w.heap.size, 0, none⟩ = false := (KW.out.drewN j).frozen 0
      have f1 : (W.drewN j).frozen? ⟨w.heap.size, 1, none⟩ = false := (KW.out.drewN j).frozen 1
      have hq1 := tdiv_bd n G hn
      have hq2 := tdiv_bd d G (by omega)
      obtain ⟨x, hx⟩ : ∃ x, n.tdiv (G : Int) = x := ⟨_, rfl⟩
      obtain ⟨y, hy⟩ : ∃ y, d.tdiv (G : Int) = y := ⟨_, rfl⟩
      rw [hx] at HN
      rw [hy] at HD
      have HX := Lib.hid hx
      have HY := Lib.hid hy
      have BJ := Lib.hid (belowDrewN BW.out j)
      rw [hx] at hq1
      rw [hy] at hq2
      have hG0 : ¬ G = 0 := by have := HPOS.out; omega
      obtain ⟨W2, hW2⟩ : ∃ W2, W.drewN j = W2 := ⟨_, rfl⟩
      rw [hW2] at c0 c1 f0 f1 BJ ⊢
      clear hx hy hW2
      go_wp2
      go_region
      all_goals
        go_wp2
        refine bodyPost_ret (v := .agg #[.int .i64 (n.tdiv (G : Int)), .int .i64 (d / (G : Int))]) (by simp [results, Tryz.results55, go_sem, c0, c1, f0, f1]) rfl ⟨?_, ?_⟩
        · rw [HN.out, HD.out, ← HX.out, ← HY.out, Int.tdiv_eq_ediv_of_nonneg (a := d) (by omega)]
        · have := BJ.out
          go_grown
    · have h1 : (b == 0) = false := by rw [beq_eq_false_iff_ne]; exact h0
      have h2 : (b != 0) = true := by rw [bne_iff_ne]; exact h0
      have hlt := tmod_lt a b h0
      have HS := Lib.hid (gcd_step a b)
      have htm : a.tmod b = a % b := Int.tmod_eq_emod_of_nonneg (by omega)
      rw [htm] at hlt HS
      have hmb : 0 ≤ a % b ∧ a % b ≤ b := by have := Int.emod_nonneg a h0; omega
      clear htm h0
      go_wp2
      go_quiet (fail)
      go_wp2
      go_roundw
      case rel =>
        refine ⟨b, a % b, rfl, rfl, by omega, by omega, by omega, by omega, ?_, ?_⟩
        · show _ = _; rw [HS.out, HI.out]
        · obtain ⟨j, hj⟩ := HJ.out
          show ∃ _, _ = _
          rw [hj]; exact ⟨_, World.drewN_drewN _ _ _⟩
      case measure => simp only [intOf]; omega

end Go.Proofs.YtjjflbnopphciacGreatDoor


namespace Go.Proofs.YtjjflbnopphciacGreatDoor
open Go.RowKit

def remF (d f : Int) : Int := if d = 1 then f * (f - 64) else (f + 64) * f * (f - 64) * (f - 128)
def rdn (d : Int) : Int := if d = 1 then 8192 else 402653184
theorem rem_bd1 {f : Int} (h : 0 ≤ f ∧ f ≤ 63) : -76800000 ≤ f * (f - 64) ∧ f * (f - 64) ≤ 76800000 := by
  have := mulB (a := f) (b := f - 64) 64 64 (by omega) (by omega) (by omega) (by omega) 4096 (by omega)
  omega
theorem rem_bd3 {f : Int} (h : 0 ≤ f ∧ f ≤ 63) : -76800000 ≤ (f + 64) * f * (f - 64) * (f - 128) ∧ (f + 64) * f * (f - 64) * (f - 128) ≤ 76800000 := by
  obtain ⟨a1, a2, b1, b2, c1, c2, d1, d2, d3⟩ := prods h
  exact d3
def degfE (d f : Int) : Int := firstNZ [degE d, frcE f]
theorem degE_of1 : degE 1 = 0 := by unfold degE; simp
theorem degE_of3 : degE 3 = 0 := by unfold degE; simp
theorem degE_no {d : Int} (h1 : d ≠ 1) (h3 : d ≠ 3) : degE d = 15 := by unfold degE; rw [if_neg (by omega)]
theorem degfE_zero {d f : Int} (h : degfE d f = 0) : 0 ≤ f ∧ f ≤ 63 := rngE_zero (firstNZ_zero h (frcE f) (by simp))

def remN (d f : Int) : Int := if degfE d f = 0 then frN (remF d f) (rdn d) else 0
def remD (d f : Int) : Int := if degfE d f = 0 then frD (remF d f) (rdn d) else 0
theorem retA2 {a b c x y z : Int} (h : a = x) (k : b = y) (l : c = z) : Ending.returned (.tuple #[.agg #[.int .i64 a, .int .i64 b], .int .i64 c]) = Ending.returned (.tuple #[.agg #[.int .i64 x, .int .i64 y], .int .i64 z]) := by rw [h, k, l]
/-- The greatest remainder's size up to a fraction. -/
def mxR (d : Int) : Nat → Int
  | 0 => 0
  | k + 1 => max (mxR d k) (absF (remF d k))

end Go.Proofs.YtjjflbnopphciacGreatDoor


namespace Go.Proofs.YtjjflbnopphciacGreatDoor
open Go.RowKit

theorem absF_nonneg (n : Int) : 0 ≤ absF n := by unfold absF; split <;> omega
theorem remF_bd {d f : Int} (h : 0 ≤ f ∧ f ≤ 63) : -76800000 ≤ remF d f ∧ remF d f ≤ 76800000 := by
  unfold remF
  split
  · exact rem_bd1 h
  · exact rem_bd3 h
theorem mxR_bd (d : Int) : ∀ k : Nat, k ≤ 64 → 0 ≤ mxR d k ∧ mxR d k ≤ 76800000
  | 0, _ => by simp [mxR]
  | k + 1, h => by
    have ih := mxR_bd d k (by omega)
    have hb := absF_bd (remF d k) 76800000 (remF_bd (by omega))
    unfold mxR; omega

set_option maxRecDepth 100000 in
set_option maxHeartbeats 2000000 in
theorem MaximumRemainder1_any (w : World) :
    Calls Tryz.prog 25 #[.int .i64 1] w fun e w' => e = .returned (.tuple #[.agg #[.int .i64 (frN (mxR 1 64) 8192), .int .i64 (frD (mxR 1 64) 8192)], .int .i64 0]) ∧ Below w.heap.size w w' := by
  have C1 := Lib.hid (fun w => itpOf_1 w)
  unfold itp1 at C1
  go_enter Tryz.func25, Tryz.ntmps25
  go_wp2_with fail
  refine (C1.out _).mono ?_
  rintro e w1 ⟨rfl, hb1⟩
  have B1 := Lib.hid ((((Below.refl w.heap.size w).alloc (Nat.le_refl _) (.cells #[.int .i64 0, .int .i64 0] 58)).trans (hb1.mono (by simp))).alloc (by have := hb1.size; simp at this; omega) (.cells #[.int .i64 1, .int .i64 0, .int .i64 64, .func (.func 76) #[] #[], .int .i64 8192, .func (.func 77) #[] #[]] 90))
  have B0 := Lib.hid (((Below.refl w.heap.size w).alloc (Nat.le_refl _) (.cells #[.int .i64 0, .int .i64 0] 58)).trans (hb1.mono (by simp)))
  have K1 := Lib.hid (((Bk.new w 58 #[.int .i64 0, .int .i64 0]).later hb1).alloc (.cells #[.int .i64 1, .int .i64 0, .int .i64 64, .func (.func 76) #[] #[], .int .i64 8192, .func (.func 77) #[] #[]] 90))
  have KI1 := Lib.hid (Bk.new w1 90 #[.int .i64 1, .int .i64 0, .int .i64 64, .func (.func 76) #[] #[], .int .i64 8192, .func (.func 77) #[] #[]])
  have hz1 : w.heap.size < w1.heap.size := by have := hb1.size; simp at this; omega
  have hz2 : w1.heap.size < (w1.alloc (.cells #[.int .i64 1, .int .i64 0, .int .i64 64, .func (.func 76) #[] #[], .int .i64 8192, .func (.func 77) #[] #[]] 90)).heap.size := by simp
  clear hb1 C1
  go_wp2
  obtain ⟨W3, hW3⟩ : ∃ W3, w1.alloc (.cells #[.int .i64 1, .int .i64 0, .int .i64 64, .func (.func 76) #[] #[], .int .i64 8192, .func (.func 77) #[] #[]] 90) = W3 := ⟨_, rfl⟩
  rw [hW3] at K1 KI1 B1 hz2 ⊢
  clear hW3
  have CQ := Lib.hid (fun (f : Int) (h : 0 ≤ f ∧ f ≤ 63) w => rem1_any f w h)
  have CS := Lib.hid (fun (n : Int) w (h : -76800000 ≤ n ∧ n ≤ 76800000) => rsize_any n w (by omega))
  have HB := Lib.hid (fun k h => mxR_bd 1 k h)
  obtain ⟨q0, q1, q2, q3, q4, q5⟩ := bk6 KI1.out
  go_loop [6, 17] (fun s i => ∃ k : Nat, k ≤ 64 ∧ i = .int .i64 k ∧ s = .int .i64 (mxR 1 k)) (fun _ i => 64 - (intOf i).toNat)
  case atStart => exact ⟨0, by omega, rfl, rfl⟩
  case round =>
    obtain ⟨k, hk, rfl, rfl⟩ := hrel
    by_cases hlt : k < 64
    · have hkI : (k : Int) < 64 := by omega
      have hf : 0 ≤ (k : Int) ∧ (k : Int) ≤ 63 := by omega
      have CQk := Lib.hid (CQ.out k hf)
      have HS : Hid (mxR 1 (k + 1) = max (mxR 1 k) (absF (remF 1 k))) := rfl
      have hrb := remF_bd (d := 1) hf
      have HRF : Hid (remF 1 k = (k : Int) * ((k : Int) - 64)) := rfl
      rw [← HRF.out] at CQk
      obtain ⟨r, hr⟩ : ∃ r, remF 1 k = r := ⟨_, rfl⟩
      rw [hr] at CQk hrb HS
      clear hr HRF
      obtain ⟨s, hs⟩ : ∃ s, mxR 1 k = s := ⟨_, rfl⟩
      rw [hs] at HS ⊢
      clear hs
      have CSr := Lib.hid (fun w => CS.out r w hrb)
      obtain ⟨a, ha⟩ : ∃ a, absF r = a := ⟨_, rfl⟩
      rw [ha] at CSr HS
      clear ha
      obtain ⟨m, hm⟩ : ∃ m, (if s < a then a else s) = m := ⟨_, rfl⟩
      have HM : Hid (mxR 1 (k + 1) = m) := by show _ = _; rw [HS.out, ← hm]; split <;> omega
      clear HS
      go_wp2_with (first | (go_at_call 77; refine (CQk.out _).mono ?_; rintro e w' ⟨rfl, rfl⟩) | (go_at_call 54; refine (CSr.out _).mono ?_; rintro e w' ⟨rfl, rfl⟩))
      go_round
      case rel => exact ⟨k + 1, by omega, by go_num, by rw [HM.out]⟩
      case measure => simp [intOf]; omega
    · obtain rfl : k = 64 := by omega
      have hmb := HB.out 64 (by omega)
      have CFR := Lib.hid (fun w => fractionOf_any (mxR 1 64) 8192 w (by omega) (by omega))
      obtain ⟨m, hm⟩ : ∃ m, mxR 1 64 = m := ⟨_, rfl⟩
      rw [hm] at CFR hmb ⊢
      have HM := Lib.hid hm
      have HX : Hid (frN (mxR 1 64) 8192 = frN m 8192) := by show _ = _; rw [HM.out]
      have HY : Hid (frD (mxR 1 64) 8192 = frD m 8192) := by show _ = _; rw [HM.out]
      obtain ⟨x, hx⟩ : ∃ x, frN m 8192 = x := ⟨_, rfl⟩
      obtain ⟨y, hy⟩ : ∃ y, frD m 8192 = y := ⟨_, rfl⟩
      rw [hx] at CFR HX
      rw [hy] at CFR HY
      clear hx hy hm
      go_wp2_with fail
      refine (CFR.out _).mono ?_
      rintro e w3 ⟨rfl, hb3⟩
      have K5 : Hid (Bk w3 w.heap.size 58 #[.int .i64 0, .int .i64 0]) := K1.out.later hb3
      have e0 : w3.cell? ⟨w.heap.size, 0, none⟩ = some (.int .i64 0) := by rw [K5.out.cell]; rfl
      have e1 : w3.cell? ⟨w.heap.size, 1, none⟩ = some (.int .i64 0) := by rw [K5.out.cell]; rfl
      have k0 := K5.out.frozen 0
      have k1 := K5.out.frozen 1
      have BW := Lib.hid (B1.out.trans (hb3.mono B1.out.size))
      clear hb3
      go_wp2
      refine bodyPost_ret (v := .tuple #[.agg #[.int .i64 x, .int .i64 y], .int .i64 0]) (by simp [results, Tryz.results25, go_sem, e0, e1, k0, k1]) rfl ⟨?_, ?_⟩
      · exact retA2 HX.out.symm HY.out.symm rfl
      · have := BW.out
        go_grown

set_option maxRecDepth 100000 in
set_option maxHeartbeats 2000000 in
theorem MaximumRemainder3_any (w : World) :
    Calls Tryz.prog 25 #[.int .i64 3] w fun e w' => e = .returned (.tuple #[.agg #[.int .i64 (frN (mxR 3 64) 402653184), .int .i64 (frD (mxR 3 64) 402653184)], .int .i64 0]) ∧ Below w.heap.size w w' := by
  have C1 := Lib.hid (fun w => itpOf_3 w)
  unfold itp3 at C1
  go_enter Tryz.func25, Tryz.ntmps25
  go_wp2_with fail
  refine (C1.out _).mono ?_
  rintro e w1 ⟨rfl, hb1⟩
  have B1 := Lib.hid ((((Below.refl w.heap.size w).alloc (Nat.le_refl _) (.cells #[.int .i64 0, .int .i64 0] 58)).trans (hb1.mono (by simp))).alloc (by have := hb1.size; simp at this; omega) (.cells #[.int .i64 3, .int .i64 1, .int .i64 1572864, .func (.func 78) #[] #[], .int .i64 402653184, .func (.func 79) #[] #[]] 90))
  have B0 := Lib.hid (((Below.refl w.heap.size w).alloc (Nat.le_refl _) (.cells #[.int .i64 0, .int .i64 0] 58)).trans (hb1.mono (by simp)))
  have K1 := Lib.hid (((Bk.new w 58 #[.int .i64 0, .int .i64 0]).later hb1).alloc (.cells #[.int .i64 3, .int .i64 1, .int .i64 1572864, .func (.func 78) #[] #[], .int .i64 402653184, .func (.func 79) #[] #[]] 90))
  have KI1 := Lib.hid (Bk.new w1 90 #[.int .i64 3, .int .i64 1, .int .i64 1572864, .func (.func 78) #[] #[], .int .i64 402653184, .func (.func 79) #[] #[]])
  have hz1 : w.heap.size < w1.heap.size := by have := hb1.size; simp at this; omega
  have hz2 : w1.heap.size < (w1.alloc (.cells #[.int .i64 3, .int .i64 1, .int .i64 1572864, .func (.func 78) #[] #[], .int .i64 402653184, .func (.func 79) #[] #[]] 90)).heap.size := by simp
  clear hb1 C1
  go_wp2
  obtain ⟨W3, hW3⟩ : ∃ W3, w1.alloc (.cells #[.int .i64 3, .int .i64 1, .int .i64 1572864, .func (.func 78) #[] #[], .int .i64 402653184, .func (.func 79) #[] #[]] 90) = W3 := ⟨_, rfl⟩
  rw [hW3] at K1 KI1 B1 hz2 ⊢
  clear hW3
  have CQ := Lib.hid (fun (f : Int) (h : 0 ≤ f ∧ f ≤ 63) w => rem3_any f w h)
  have CS := Lib.hid (fun (n : Int) w (h : -76800000 ≤ n ∧ n ≤ 76800000) => rsize_any n w (by omega))
  have HB := Lib.hid (fun k h => mxR_bd 3 k h)
  obtain ⟨q0, q1, q2, q3, q4, q5⟩ := bk6 KI1.out
  go_loop [6, 17] (fun s i => ∃ k : Nat, k ≤ 64 ∧ i = .int .i64 k ∧ s = .int .i64 (mxR 3 k)) (fun _ i => 64 - (intOf i).toNat)
  case atStart => exact ⟨0, by omega, rfl, rfl⟩
  case round =>
    obtain ⟨k, hk, rfl, rfl⟩ := hrel
    by_cases hlt : k < 64
    · have hkI : (k : Int) < 64 := by omega
      have hf : 0 ≤ (k : Int) ∧ (k : Int) ≤ 63 := by omega
      have CQk := Lib.hid (CQ.out k hf)
      have HS : Hid (mxR 3 (k + 1) = max (mxR 3 k) (absF (remF 3 k))) := rfl
      have hrb := remF_bd (d := 3) hf
      have HRF : Hid (remF 3 k = ((k : Int) + 64) * k * ((k : Int) - 64) * ((k : Int) - 128)) := rfl
      rw [← HRF.out] at CQk
      obtain ⟨r, hr⟩ : ∃ r, remF 3 k = r := ⟨_, rfl⟩
      rw [hr] at CQk hrb HS
      clear hr HRF
      obtain ⟨s, hs⟩ : ∃ s, mxR 3 k = s := ⟨_, rfl⟩
      rw [hs] at HS ⊢
      clear hs
      have CSr := Lib.hid (fun w => CS.out r w hrb)
      obtain ⟨a, ha⟩ : ∃ a, absF r = a := ⟨_, rfl⟩
      rw [ha] at CSr HS
      clear ha
      obtain ⟨m, hm⟩ : ∃ m, (if s < a then a else s) = m := ⟨_, rfl⟩
      have HM : Hid (mxR 3 (k + 1) = m) := by show _ = _; rw [HS.out, ← hm]; split <;> omega
      clear HS
      go_wp2_with (first | (go_at_call 79; refine (CQk.out _).mono ?_; rintro e w' ⟨rfl, rfl⟩) | (go_at_call 54; refine (CSr.out _).mono ?_; rintro e w' ⟨rfl, rfl⟩))
      go_round
      case rel => exact ⟨k + 1, by omega, by go_num, by rw [HM.out]⟩
      case measure => simp [intOf]; omega
    · obtain rfl : k = 64 := by omega
      have hmb := HB.out 64 (by omega)
      have CFR := Lib.hid (fun w => fractionOf_any (mxR 3 64) 402653184 w (by omega) (by omega))
      obtain ⟨m, hm⟩ : ∃ m, mxR 3 64 = m := ⟨_, rfl⟩
      rw [hm] at CFR hmb ⊢
      have HM := Lib.hid hm
      have HX : Hid (frN (mxR 3 64) 402653184 = frN m 402653184) := by show _ = _; rw [HM.out]
      have HY : Hid (frD (mxR 3 64) 402653184 = frD m 402653184) := by show _ = _; rw [HM.out]
      obtain ⟨x, hx⟩ : ∃ x, frN m 402653184 = x := ⟨_, rfl⟩
      obtain ⟨y, hy⟩ : ∃ y, frD m 402653184 = y := ⟨_, rfl⟩
      rw [hx] at CFR HX
      rw [hy] at CFR HY
      clear hx hy hm
      go_wp2_with fail
      refine (CFR.out _).mono ?_
      rintro e w3 ⟨rfl, hb3⟩
      have K5 : Hid (Bk w3 w.heap.size 58 #[.int .i64 0, .int .i64 0]) := K1.out.later hb3
      have e0 : w3.cell? ⟨w.heap.size, 0, none⟩ = some (.int .i64 0) := by rw [K5.out.cell]; rfl
      have e1 : w3.cell? ⟨w.heap.size, 1, none⟩ = some (.int .i64 0) := by rw [K5.out.cell]; rfl
      have k0 := K5.out.frozen 0
      have k1 := K5.out.frozen 1
      have BW := Lib.hid (B1.out.trans (hb3.mono B1.out.size))
      clear hb3
      go_wp2
      refine bodyPost_ret (v := .tuple #[.agg #[.int .i64 x, .int .i64 y], .int .i64 0]) (by simp [results, Tryz.results25, go_sem, e0, e1, k0, k1]) rfl ⟨?_, ?_⟩
      · exact retA2 HX.out.symm HY.out.symm rfl
      · have := BW.out
        go_grown

set_option maxRecDepth 100000 in
set_option maxHeartbeats 2000000 in
theorem MaximumRemainder0_any (d : Int) (h1 : d ≠ 1) (h3 : d ≠ 3) (w : World) :
    Calls Tryz.prog 25 #[.int .i64 d] w fun e w' => e = .returned (.tuple #[.agg #[.int .i64 0, .int .i64 0], .int .i64 15]) ∧ Below w.heap.size w w' := by
  have C1 := Lib.hid (fun w => itpOf_no d w h1 h3)
  unfold itp0 at C1
  clear h1 h3
  go_enter Tryz.func25, Tryz.ntmps25
  go_wp2_with fail
  refine (C1.out _).mono ?_
  rintro e w1 ⟨rfl, hb1⟩
  have B1 := Lib.hid ((((Below.refl w.heap.size w).alloc (Nat.le_refl _) (.cells #[.int .i64 0, .int .i64 0] 58)).trans (hb1.mono (by simp))).alloc (by have := hb1.size; simp at this; omega) (.cells #[.int .i64 0, .int .i64 0, .int .i64 0, .nilFunc, .int .i64 0, .nilFunc] 90))
  have B0 := Lib.hid (((Below.refl w.heap.size w).alloc (Nat.le_refl _) (.cells #[.int .i64 0, .int .i64 0] 58)).trans (hb1.mono (by simp)))
  have K1 := Lib.hid (((Bk.new w 58 #[.int .i64 0, .int .i64 0]).later hb1).alloc (.cells #[.int .i64 0, .int .i64 0, .int .i64 0, .nilFunc, .int .i64 0, .nilFunc] 90))
  have KI1 := Lib.hid (Bk.new w1 90 #[.int .i64 0, .int .i64 0, .int .i64 0, .nilFunc, .int .i64 0, .nilFunc])
  have hz1 : w.heap.size < w1.heap.size := by have := hb1.size; simp at this; omega
  have hz2 : w1.heap.size < (w1.alloc (.cells #[.int .i64 0, .int .i64 0, .int .i64 0, .nilFunc, .int .i64 0, .nilFunc] 90)).heap.size := by simp
  clear hb1 C1
  have e0 : w1.cell? ⟨w.heap.size, 0, none⟩ = some (.int .i64 0) := by have h := K1.out.cell 0; rw [World.cell?_alloc_lt w1 _ _ hz1] at h; rw [h]; rfl
  have e1 : w1.cell? ⟨w.heap.size, 1, none⟩ = some (.int .i64 0) := by have h := K1.out.cell 1; rw [World.cell?_alloc_lt w1 _ _ hz1] at h; rw [h]; rfl
  have k0 : w1.frozen? ⟨w.heap.size, 0, none⟩ = false := by have h := K1.out.frozen 0; simpa [go_sem, hz1, Nat.ne_of_lt hz1] using h
  have k1 : w1.frozen? ⟨w.heap.size, 1, none⟩ = false := by have h := K1.out.frozen 1; simpa [go_sem, hz1, Nat.ne_of_lt hz1] using h
  have hn := Nat.ne_of_lt hz1
  go_wp2
  refine bodyPost_ret (v := .tuple #[.agg #[.int .i64 0, .int .i64 0], .int .i64 15]) (by simp [results, Tryz.results25, go_sem, e0, e1, k0, k1, hn, hz1]) rfl ⟨rfl, ?_⟩
  have := B0.out
  go_grown


def wtL (d f : Int) : List Int := if degfE d f = 0 then (if d = 1 then wts1 f else wts3 f) else []
def wtD (d f : Int) : Int := if degfE d f = 0 then (if d = 1 then 64 else 1572864) else 0
def WtRes (w : World) (d f : Int) (e : Ending) (w' : World) : Prop :=
  (∃ v, e = .returned (.tuple #[v, .int .i64 (wtD d f), .int .i64 (degfE d f)]) ∧ w'.ownsRow w.heap.size 3 1 v (wtL d f).length ((wtL d f).map (Value.int .i64))) ∧ Below w.heap.size w w'
theorem WtRes.mk {w w' : World} {d f dn E : Int} {v : Value} {l : List Int} (hl : wtL d f = l) (hd : wtD d f = dn) (hE : degfE d f = E) (ho : w'.ownsRow w.heap.size 3 1 v l.length (l.map (Value.int .i64))) (hb : Below w.heap.size w w') :
    WtRes w d f (.returned (.tuple #[v, .int .i64 dn, .int .i64 E])) w' := by
  subst hl hd hE
  exact ⟨⟨v, rfl, ho⟩, hb⟩

end Go.Proofs.YtjjflbnopphciacGreatDoor


namespace Go.Proofs.YtjjflbnopphciacGreatDoor
open Go.RowKit

/-! ### package speed -/
theorem swhen_any (b : Bool) (E : Int) (w : World) :
    Calls Tryz.prog 109 #[.bool b, .int .i64 E] w fun e w' => e = .returned (.int .i64 (if b = true then E else 0)) ∧ w = w' := by
  cases b
  all_goals
    go_enter Tryz.func109, Tryz.ntmps109
    go_wp2
    go_ret
    exact ⟨rfl, rfl⟩
set_option maxHeartbeats 1000000 in
theorem sfirstError_any (A : Option Addr) (n c : Nat) (xs : List Int) (w : World) (hr : RdI w A n xs) (hn : n ≤ 9223372036854775806) :
    Calls Tryz.prog 108 #[.slice A n c] w fun e w' => e = .returned (.int .i64 (firstNZ xs)) ∧ w = w' := by
  have HR := Lib.hid hr; clear hr
  go_enter Tryz.func108, Tryz.ntmps108
  go_wp2
  go_loop [7] (fun i => ∃ k : Nat, k ≤ n ∧ i = .int .i64 k ∧ Hid (firstNZ xs = firstNZ (xs.drop k))) (fun i => n - (intOf i).toNat)
  case atStart => exact ⟨0, Nat.zero_le _, rfl, rfl⟩
  case round =>
    obtain ⟨k, hk, rfl, HF⟩ := hrel
    by_cases hlt : k < n
    · obtain ⟨ad, ha, _, hc⟩ := HR.out.2 (by omega)
      have hck := hc k hlt
      clear hc
      subst ha
      obtain ⟨x, hx⟩ : ∃ x, xs.getD k 0 = x := ⟨_, rfl⟩
      have hs := firstNZ_step xs k (by have := HR.out.1; omega)
      rw [hx] at hck hs
      have HS := Lib.hid hs; clear hs hx
      have hkI : (k : Int) < (n : Int) := by omega
      by_cases h0 : x = 0
      · subst h0
        go_wp2
        go_round
        case rel => exact ⟨k + 1, by omega, by go_num, by show _ = _; rw [HF.out, HS.out]; rfl⟩
        case measure => simp [intOf]; omega
      · have h1 : (x == 0) = false := by rw [beq_eq_false_iff_ne]; exact h0
        have h2 : (x != 0) = true := by rw [bne_iff_ne]; exact h0
        go_wp2
        go_ret
        exact ⟨by rw [HF.out, HS.out, if_neg h0]; rfl, rfl⟩
    · obtain rfl : n = k := by omega
      go_wp2
      go_ret
      exact ⟨by rw [HF.out, List.drop_eq_nil_of_le (by have := HR.out.1; omega)]; rfl, rfl⟩
theorem sfirstError2 {E1 E2 F : Int} (hF : firstNZ [E1, E2] = F) (W : World) (g : Nat) (h0 : W.cell? ⟨g, 0, none⟩ = some (.int .i64 E1)) (h1 : W.cell? ⟨g, 1, none⟩ = some (.int .i64 E2)) :
    Calls Tryz.prog 108 #[.slice (some ⟨g, 0, none⟩) 2 2] W fun e w' => e = .returned (.int .i64 F) ∧ W = w' := by
  subst hF
  exact sfirstError_any _ 2 2 [E1, E2] W (lit2 _ _ _ _ h0 h1) (by omega)
theorem sfirstError3 {E1 E2 E3 F : Int} (hF : firstNZ [E1, E2, E3] = F) (W : World) (g : Nat) (h0 : W.cell? ⟨g, 0, none⟩ = some (.int .i64 E1)) (h1 : W.cell? ⟨g, 1, none⟩ = some (.int .i64 E2)) (h2 : W.cell? ⟨g, 2, none⟩ = some (.int .i64 E3)) :
    Calls Tryz.prog 108 #[.slice (some ⟨g, 0, none⟩) 3 3] W fun e w' => e = .returned (.int .i64 F) ∧ W = w' := by
  subst hF
  exact sfirstError_any _ 3 3 [E1, E2, E3] W (lit3 _ _ _ _ _ h0 h1 h2) (by omega)
theorem checkPosition_any (n : Int) (w : World) :
    Calls Tryz.prog 110 #[.int .i64 n] w fun e w' => e = .returned (.int .i64 (rngE 0 1000000 [n])) ∧ w = w' := by
  have HE := Lib.hid (rngE_one 0 1000000 n)
  by_cases h1 : n < 0
  · go_enter Tryz.func110, Tryz.ntmps110
    go_wp2_with (go_at_call 109; refine (swhen_any true 2 _).mono ?_; rintro e w' ⟨rfl, rfl⟩)
    go_ret
    exact ⟨retI (a := 2) (by rw [HE.out, if_neg (by omega)]), rfl⟩
  · by_cases h2 : 1000000 < n
    · go_enter Tryz.func110, Tryz.ntmps110
      go_wp2_with (go_at_call 109; refine (swhen_any true 2 _).mono ?_; rintro e w' ⟨rfl, rfl⟩)
      go_ret
      exact ⟨retI (a := 2) (by rw [HE.out, if_neg (by omega)]), rfl⟩
    · go_enter Tryz.func110, Tryz.ntmps110
      go_wp2_with (go_at_call 109; refine (swhen_any false 2 _).mono ?_; rintro e w' ⟨rfl, rfl⟩)
      go_ret
      exact ⟨retI (a := 0) (by rw [HE.out, if_pos (by omega)]), rfl⟩
theorem checkTime_any (n : Int) (w : World) :
    Calls Tryz.prog 111 #[.int .i64 n] w fun e w' => e = .returned (.int .i64 (rngE 0 1000000000000 [n])) ∧ w = w' := by
  have HE := Lib.hid (rngE_one 0 1000000000000 n)
  by_cases h1 : n < 0
  · go_enter Tryz.func111, Tryz.ntmps111
    go_wp2_with (go_at_call 109; refine (swhen_any true 2 _).mono ?_; rintro e w' ⟨rfl, rfl⟩)
    go_ret
    exact ⟨retI (a := 2) (by rw [HE.out, if_neg (by omega)]), rfl⟩
  · by_cases h2 : 1000000000000 < n
    · go_enter Tryz.func111, Tryz.ntmps111
      go_wp2_with (go_at_call 109; refine (swhen_any true 2 _).mono ?_; rintro e w' ⟨rfl, rfl⟩)
      go_ret
      exact ⟨retI (a := 2) (by rw [HE.out, if_neg (by omega)]), rfl⟩
    · go_enter Tryz.func111, Tryz.ntmps111
      go_wp2_with (go_at_call 109; refine (swhen_any false 2 _).mono ?_; rintro e w' ⟨rfl, rfl⟩)
      go_ret
      exact ⟨retI (a := 0) (by rw [HE.out, if_pos (by omega)]), rfl⟩

/-- The slice '.slice A n c' reads as nodes. -/
def RdN (w : World) (A : Option Addr) (n : Nat) (ns : List (Int × Int)) : Prop :=
  ns.length = n ∧ (0 < n → ∃ g, A = some ⟨g, 0, none⟩ ∧ g < w.heap.size ∧ ∀ j, j < n → w.cell? ⟨g, j * 2, none⟩ = some (.int .i64 (ns.getD j (0, 0)).1) ∧ w.cell? ⟨g, j * 2 + 1, none⟩ = some (.int .i64 (ns.getD j (0, 0)).2))
theorem RdN.below {w w' : World} {A : Option Addr} {n : Nat} {ns : List (Int × Int)} (h : RdN w A n ns) (hb : Below w.heap.size w w') : RdN w' A n ns := by
  refine ⟨h.1, fun h0 => ?_⟩
  obtain ⟨g, e, hlt, hc⟩ := h.2 h0
  exact ⟨g, e, Nat.lt_of_lt_of_le hlt hb.size, fun j hj => ⟨(hb.cell (p := ⟨g, j * 2, none⟩) hlt).trans (hc j hj).1, (hb.cell (p := ⟨g, j * 2 + 1, none⟩) hlt).trans (hc j hj).2⟩⟩
def nodeE (b x : Int × Int) : Int := firstNZ [rngE 0 1000000 [x.1], rngE 0 1000000000000 [x.2], if x.1 ≤ b.1 ∨ x.2 ≤ b.2 then 9 else 0]
def mapGo : Int × Int → Nat → List (Int × Int) → Int × Int
  | _, _, [] => (0, 0)
  | b, k, x :: l => if nodeE b x = 0 then mapGo x (k + 1) l else ((k : Int), nodeE b x)
def mapR (ns : List (Int × Int)) : Int × Int := if ns.length < 2 then (0, 10) else if 20 < ns.length then (0, 8) else mapGo (-1, -1) 0 ns
theorem mapGo_step (b : Int × Int) (k : Nat) (ns : List (Int × Int)) (hk : k < ns.length) : mapGo b k (ns.drop k) = if nodeE b (ns.getD k (0, 0)) = 0 then mapGo (ns.getD k (0, 0)) (k + 1) (ns.drop (k + 1)) else ((k : Int), nodeE b (ns.getD k (0, 0))) := by
  rw [List.drop_eq_getElem_cons hk]
  simp only [mapGo, List.getD_eq_getElem?_getD, List.getElem?_eq_getElem hk, Option.getD_some]
theorem bk2 {W : World} {g : Nat} {t : TypeId} {x y : Int} (h : Bk W g t #[.int .i64 x, .int .i64 y]) : W.cell? ⟨g, 0, none⟩ = some (.int .i64 x) ∧ W.cell? ⟨g, 1, none⟩ = some (.int .i64 y) ∧ W.frozen? ⟨g, 0, none⟩ = false ∧ W.frozen? ⟨g, 1, none⟩ = false :=
  ⟨by rw [h.cell]; rfl, by rw [h.cell]; rfl, h.frozen 0, h.frozen 1⟩

set_option maxRecDepth 100000 in
set_option maxHeartbeats 4000000 in
theorem CheckMap_any (A : Option Addr) (n c : Nat) (ns : List (Int × Int)) (w : World) (hr : RdN w A n ns) (hn : n ≤ 1000000) :
    Calls Tryz.prog 92 #[.agg #[.slice A n c]] w fun e w' => e = .returned (.tuple #[.int .i64 (mapR ns).1, .int .i64 (mapR ns).2]) ∧ Below w.heap.size w w' := by
  have HR := Lib.hid hr
  have hl := hr.1
  clear hr
  have HM : Hid (mapR ns = if n < 2 then (0, 10) else if 20 < n then (0, 8) else mapGo (-1, -1) 0 ns) := by show _ = _; unfold mapR; rw [hl]
  have HL := Lib.hid hl
  clear hl
  by_cases h1 : n < 2
  · have h1I : (n : Int) < 2 := by omega
    have h2I : ¬ (20 : Int) < n := by omega
    go_enter Tryz.func92, Tryz.ntmps92
    go_wp2
    go_region_held3 (fun w' : World => w'.cell? ⟨w.heap.size, 0, none⟩ = some (.slice A n c)) ((simp [go_sem, *])) (first
      | (go_at_call 109; refine (swhen_any _ _ _).mono ?_; rintro e w' ⟨rfl, rfl⟩)
      | (go_at_call 108; refine (sfirstError2 (E1 := 10) (E2 := 0) (F := 10) rfl _ _ ?_ ?_).mono ?_; (focus (simp [go_sem])); (focus (simp [go_sem])); rintro e w' ⟨rfl, rfl⟩))
    all_goals
      go_wp2
      refine bodyPost_ret (v := .tuple #[.int .i64 0, .int .i64 10]) (by simp [results, Tryz.results92, go_sem, firstNZ]) rfl ⟨retI2 (by rw [HM.out, if_pos h1]) (by rw [HM.out, if_pos h1]), by go_grown⟩
  · by_cases h2 : 20 < n
    · have h1I : ¬ (n : Int) < 2 := by omega
      have h2I : (20 : Int) < n := by omega
      go_enter Tryz.func92, Tryz.ntmps92
      go_wp2
      go_region_held3 (fun w' : World => w'.cell? ⟨w.heap.size, 0, none⟩ = some (.slice A n c)) ((simp [go_sem, *])) (first
        | (go_at_call 109; refine (swhen_any _ _ _).mono ?_; rintro e w' ⟨rfl, rfl⟩)
        | (go_at_call 108; refine (sfirstError2 (E1 := 0) (E2 := 8) (F := 8) rfl _ _ ?_ ?_).mono ?_; (focus (simp [go_sem])); (focus (simp [go_sem])); rintro e w' ⟨rfl, rfl⟩))
      all_goals
        go_wp2
        refine bodyPost_ret (v := .tuple #[.int .i64 0, .int .i64 8]) (by simp [results, Tryz.results92, go_sem, firstNZ]) rfl ⟨retI2 (by rw [HM.out, if_neg h1, if_pos h2]) (by rw [HM.out, if_neg h1, if_pos h2]), by go_grown⟩
    · have h1I : ¬ (n : Int) < 2 := by omega
      have h2I : ¬ (20 : Int) < n := by omega
      go_enter Tryz.func92, Tryz.ntmps92
      go_wp2
      go_region_held3 (fun w' : World => w'.cell? ⟨w.heap.size, 0, none⟩ = some (.slice A n c)) ((simp [go_sem, *])) (first
        | (go_at_call 109; refine (swhen_any _ _ _).mono ?_; rintro e w' ⟨rfl, rfl⟩)
        | (go_at_call 108; refine (sfirstError2 (E1 := 0) (E2 := 0) (F := 0) rfl _ _ ?_ ?_).mono ?_; (focus (simp [go_sem])); (focus (simp [go_sem])); rintro e w' ⟨rfl, rfl⟩))
      all_goals
        go_wp2
        have BW : Hid (Below w.heap.size w ((((w.alloc (.cells #[.slice A n c] 24)).alloc (.cells #[.int .i64 0, .int .i64 0] 37)).alloc (.cells #[.int .i64 (-1), .int .i64 (-1)] 99)).drew)) := by show Below _ _ _; go_grown
        have KW : Hid (Bk ((((w.alloc (.cells #[.slice A n c] 24)).alloc (.cells #[.int .i64 0, .int .i64 0] 37)).alloc (.cells #[.int .i64 (-1), .int .i64 (-1)] 99)).drew) (w.heap.size + 1 + 1) 99 #[.int .i64 (-1), .int .i64 (-1)]) := by
          have h := Bk.new ((w.alloc (.cells #[.slice A n c] 24)).alloc (.cells #[.int .i64 0, .int .i64 0] 37)) 99 #[.int .i64 (-1), .int .i64 (-1)]
          simp only [World.size_alloc] at h
          exact h.drew
        obtain ⟨W, hW⟩ : ∃ W, ((((w.alloc (.cells #[.slice A n c] 24)).alloc (.cells #[.int .i64 0, .int .i64 0] 37)).alloc (.cells #[.int .i64 (-1), .int .i64 (-1)] 99)).drew) = W := ⟨_, rfl⟩
        rw [hW] at KW BW ⊢
        clear hW
        obtain ⟨g5, hg5⟩ : ∃ g5, w.heap.size + 1 + 1 = g5 := ⟨_, rfl⟩
        rw [hg5] at KW ⊢
        have hg5' : w.heap.size < g5 := by omega
        clear hg5
        have HM2 : Hid (mapR ns = mapGo (-1, -1) 0 ns) := by show _ = _; rw [HM.out, if_neg h1, if_neg h2]
        clear HM
        go_loopw [28] (fun i wr => ∃ (k : Nat) (b1 b2 : Int), k ≤ n ∧ i = .int .i64 k ∧ Hid (Bk wr g5 99 #[.int .i64 b1, .int .i64 b2]) ∧ Hid (Below w.heap.size w wr) ∧ Hid (mapR ns = mapGo (b1, b2) k (ns.drop k))) (fun i _ => n - (intOf i).toNat)
        case atStart => exact ⟨0, -1, -1, by omega, rfl, KW, BW, HM2⟩
        case round =>
          obtain ⟨k, b1, b2, hk, rfl, HK, HB, HG⟩ := hrel
          by_cases hlt : k < n
          · have hkI : (k : Int) < (n : Int) := by omega
            have hk0 : (0 : Int) ≤ (k : Int) := by omega
            obtain ⟨g, rfl, hgl, hcs⟩ := (HR.out.below HB.out).2 (by omega)
            obtain ⟨n1, n2⟩ := hcs k hlt
            clear hcs
            have hs := mapGo_step (b1, b2) k ns (by have := HL.out; omega)
            obtain ⟨⟨x, y⟩, hxy⟩ : ∃ p, ns.getD k (0, 0) = p := ⟨_, rfl⟩
            rw [hxy] at n1 n2 hs
            dsimp only at n1 n2
            have HS := Lib.hid hs
            clear hs hxy
            obtain ⟨p1, p2, p3, p4⟩ := bk2 HK.out
            have hlt5 := HK.out.lt
            have hsz := HB.out.size
            obtain ⟨F, hF⟩ : ∃ F, nodeE (b1, b2) (x, y) = F := ⟨_, rfl⟩
            rw [hF] at HS
            have HF : Hid (firstNZ [rngE 0 1000000 [x], rngE 0 1000000000000 [y], if x ≤ b1 ∨ y ≤ b2 then (9 : Int) else 0] = F) := hF
            clear hF
            have CP := Lib.hid (fun w => checkPosition_any x w)
            have CT := Lib.hid (fun w => checkTime_any y w)
            obtain ⟨E1, hE1⟩ : ∃ E, rngE 0 1000000 [x] = E := ⟨_, rfl⟩
            obtain ⟨E2, hE2⟩ : ∃ E, rngE 0 1000000000000 [y] = E := ⟨_, rfl⟩
            rw [hE1] at CP HF
            rw [hE2] at CT HF
            clear hE1 hE2
            go_wp2
            have KX : Hid (Bk (wr.alloc (.cells #[.int .i64 x, .int .i64 y] 99)) wr.heap.size 99 #[.int .i64 x, .int .i64 y]) := Bk.new _ _ _
            have KB : Hid (Bk (wr.alloc (.cells #[.int .i64 x, .int .i64 y] 99)) g5 99 #[.int .i64 b1, .int .i64 b2]) := HK.out.alloc _
            have HB1 : Hid (Below w.heap.size w (wr.alloc (.cells #[.int .i64 x, .int .i64 y] 99))) := HB.out.alloc hsz _
            have hg7 : g5 < wr.heap.size := hlt5
            obtain ⟨g7, hg7e⟩ : ∃ g7, wr.heap.size = g7 := ⟨_, rfl⟩
            obtain ⟨W1, hW1⟩ : ∃ W1, wr.alloc (.cells #[.int .i64 x, .int .i64 y] 99) = W1 := ⟨_, rfl⟩
            have hs1 : w.heap.size ≤ W1.heap.size := by rw [← hW1]; simp; omega
            have hs7 : g7 < W1.heap.size := by rw [← hW1]; simp; omega
            have hs5 : g5 < W1.heap.size := by omega
            rw [hW1] at KX KB HB1 ⊢
            rw [hg7e] at KX hg7 ⊢
            clear hW1 hg7e p1 p2 p3 p4 n1 n2 HK HB hlt5 hsz
            obtain ⟨p1, p2, p3, p4⟩ := bk2 KB.out
            obtain ⟨m1, m2, m3, m4⟩ := bk2 KX.out
            obtain ⟨E3, h3⟩ : ∃ E3 : Int, (if x ≤ b1 ∨ y ≤ b2 then (9 : Int) else 0) = E3 := ⟨_, rfl⟩
            have HE3 : Hid (E3 = if x ≤ b1 ∨ y ≤ b2 then (9 : Int) else 0) := h3.symm
            rw [h3] at HF
            clear h3
            have key : x ≤ b1 ∨ (¬ x ≤ b1 ∧ y ≤ b2) ∨ (¬ x ≤ b1 ∧ ¬ y ≤ b2) := by omega
            rcases key with hx | ⟨hx, hy⟩ | ⟨hx, hy⟩
            all_goals
              first
              | (have _hx : x ≤ b1 := by omega
                 have h3 : E3 = 9 := (by have h := HE3.out; rw [if_pos (by omega)] at h; exact h)
                 subst h3
                 clear HE3
                 refine wp_region_held_drew (S := (fun w' : World => w'.cell? ⟨g7, 0, none⟩ = some (.int .i64 x) ∧ w'.cell? ⟨g7, 1, none⟩ = some (.int .i64 y) ∧ w'.cell? ⟨g5, 0, none⟩ = some (.int .i64 b1) ∧ w'.cell? ⟨g5, 1, none⟩ = some (.int .i64 b2))) (by kernel_rfl) ?_ ?_
                 · (((repeat' apply And.intro) <;> first | assumption | (simp [go_sem, *]; done)))
                 intro hHeld
                 refine wpAnyH_take (i := 0) (v := ?_) rfl (by kernel_rfl) (by kernel_rfl) (by kernel_rfl) (fun _ _ _ h => h) (Or.inl ⟨by rfl, ?_⟩) (by assumption) ?_
                 rotate_left
                 · intro w hSw; (try dsimp only at hSw); go_simp; (try (with_reducible rfl))
                 try simp only [List.getElem_toArray, List.getElem_cons_succ, List.getElem_cons_zero, Act.put, List.setIfInBounds_toArray, List.set_cons_zero, List.set_cons_succ]
                 refine wpAnyH_take (i := 1) (v := ?_) rfl (by kernel_rfl) (by kernel_rfl) (by kernel_rfl) (fun _ _ _ h => h) (Or.inl ⟨by rfl, ?_⟩) (by assumption) ?_
                 rotate_left
                 · intro w hSw; (try dsimp only at hSw); go_simp; (try (with_reducible rfl))
                 try simp only [List.getElem_toArray, List.getElem_cons_succ, List.getElem_cons_zero, Act.put, List.setIfInBounds_toArray, List.set_cons_zero, List.set_cons_succ]
                 refine wpAnyH_take (i := 3) (v := ?_) rfl (by kernel_rfl) (by kernel_rfl) (by kernel_rfl) (fun _ _ _ h => h) (Or.inl ⟨by rfl, ?_⟩) (by assumption) ?_
                 rotate_left
                 · intro w hSw; (try dsimp only at hSw); go_simp; (try (with_reducible rfl))
                 try simp only [List.getElem_toArray, List.getElem_cons_succ, List.getElem_cons_zero, Act.put, List.setIfInBounds_toArray, List.set_cons_zero, List.set_cons_succ]
                 refine wpAnyH_take (i := 4) (v := ?_) rfl (by kernel_rfl) (by kernel_rfl) (by kernel_rfl) (fun _ _ _ h => h) (Or.inl ⟨by rfl, ?_⟩) (by assumption) ?_
                 rotate_left
                 · intro w hSw; (try dsimp only at hSw); go_simp; (try (with_reducible rfl))
                 try simp only [List.getElem_toArray, List.getElem_cons_succ, List.getElem_cons_zero, Act.put, List.setIfInBounds_toArray, List.set_cons_zero, List.set_cons_succ]
                 refine wpAnyH_take (i := 6) (v := ?_) rfl (by kernel_rfl) (by kernel_rfl) (by kernel_rfl) (fun _ _ _ h => h) (Or.inl ⟨by rfl, ?_⟩) (by assumption) ?_
                 rotate_left
                 · intro w hSw; (try dsimp only at hSw); go_simp; (try (with_reducible rfl))
                 try simp only [List.getElem_toArray, List.getElem_cons_succ, List.getElem_cons_zero, Act.put, List.setIfInBounds_toArray, List.set_cons_zero, List.set_cons_succ]
                 refine wpAnyH_take (i := 7) (v := ?_) rfl (by kernel_rfl) (by kernel_rfl) (by kernel_rfl) (fun _ _ _ h => h) (Or.inl ⟨by rfl, ?_⟩) (by assumption) ?_
                 rotate_left
                 · intro w hSw; (try dsimp only at hSw); go_simp; (try (with_reducible rfl))
                 try simp only [List.getElem_toArray, List.getElem_cons_succ, List.getElem_cons_zero, Act.put, List.setIfInBounds_toArray, List.set_cons_zero, List.set_cons_succ]
                 refine wpAnyH_take (i := 8) (v := ?_) rfl (by kernel_rfl) (by kernel_rfl) (by kernel_rfl) (fun _ _ _ h => h) (Or.inl ⟨by rfl, ?_⟩) (by assumption) ?_
                 rotate_left
                 · intro w hSw; (try dsimp only at hSw); go_simp; (try (with_reducible rfl))
                 try simp only [List.getElem_toArray, List.getElem_cons_succ, List.getElem_cons_zero, Act.put, List.setIfInBounds_toArray, List.set_cons_zero, List.set_cons_succ]
                 refine wpAnyH_take (i := 9) (v := ?_) rfl (by kernel_rfl) (by kernel_rfl) (by kernel_rfl) (fun _ _ _ h => h) (Or.inl ⟨by rfl, ?_⟩) (by assumption) ?_
                 rotate_left
                 · intro w hSw; (try dsimp only at hSw); go_simp; (try (with_reducible rfl))
                 try simp only [List.getElem_toArray, List.getElem_cons_succ, List.getElem_cons_zero, Act.put, List.setIfInBounds_toArray, List.set_cons_zero, List.set_cons_succ]
                 refine wpAnyH_take (i := 10) (v := ?_) rfl (by kernel_rfl) (by kernel_rfl) (by kernel_rfl) (fun _ _ _ h => h) (Or.inl ⟨by rfl, ?_⟩) (by assumption) ?_
                 rotate_left
                 · intro w hSw; (try dsimp only at hSw); go_simp; (try (with_reducible rfl))
                 try simp only [List.getElem_toArray, List.getElem_cons_succ, List.getElem_cons_zero, Act.put, List.setIfInBounds_toArray, List.set_cons_zero, List.set_cons_succ]
                 refine wpAnyH_ready (rs := [2]) (by kernel_rfl) (by simp) ?_
                 refine AllReadyH.cons rfl (fun K hK => ?_) AllReadyH.nil
                 go_simp
                 refine (CP.out _).mono ?_; rintro e w' ⟨rfl, rfl⟩
                 go_wp2_with fail
                 refine hK.out _ _ ?_ (fun hHeld => ?_)
                 · clear hK K; (((repeat' apply And.intro) <;> first | assumption | (simp [go_sem, *]; done)))
                 clear hK K
                 try simp only [List.getElem_toArray, List.getElem_cons_succ, List.getElem_cons_zero, Act.put, List.setIfInBounds_toArray, List.set_cons_zero, List.set_cons_succ]
                 refine wpAnyH_ready (rs := [5]) (by kernel_rfl) (by simp) ?_
                 refine AllReadyH.cons rfl (fun K hK => ?_) AllReadyH.nil
                 go_simp
                 refine (CT.out _).mono ?_; rintro e w' ⟨rfl, rfl⟩
                 go_wp2_with fail
                 refine hK.out _ _ ?_ (fun hHeld => ?_)
                 · clear hK K; (((repeat' apply And.intro) <;> first | assumption | (simp [go_sem, *]; done)))
                 clear hK K
                 try simp only [List.getElem_toArray, List.getElem_cons_succ, List.getElem_cons_zero, Act.put, List.setIfInBounds_toArray, List.set_cons_zero, List.set_cons_succ]
                 refine wpAnyH_take (i := 11) (v := ?_) rfl (by kernel_rfl) (by kernel_rfl) (by kernel_rfl) (fun _ _ _ h => h) (Or.inl ⟨by rfl, ?_⟩) (by assumption) ?_
                 rotate_left
                 · intro w hSw; (try dsimp only at hSw); go_simp; (try (with_reducible rfl))
                 try simp only [List.getElem_toArray, List.getElem_cons_succ, List.getElem_cons_zero, Act.put, List.setIfInBounds_toArray, List.set_cons_zero, List.set_cons_succ]
                 refine wpAnyH_take (i := 12) (v := undef) rfl (by kernel_rfl) (by kernel_rfl) (by kernel_rfl) (fun _ _ _ h => h) (Or.inr ⟨by rfl, rfl⟩) (by assumption) ?_
                 try simp only [List.getElem_toArray, List.getElem_cons_succ, List.getElem_cons_zero, Act.put, List.setIfInBounds_toArray, List.set_cons_zero, List.set_cons_succ]
                 refine wpAnyH_take (i := 13) (v := undef) rfl (by kernel_rfl) (by kernel_rfl) (by kernel_rfl) (fun _ _ _ h => h) (Or.inr ⟨by rfl, rfl⟩) (by assumption) ?_
                 try simp only [List.getElem_toArray, List.getElem_cons_succ, List.getElem_cons_zero, Act.put, List.setIfInBounds_toArray, List.set_cons_zero, List.set_cons_succ]
                 refine wpAnyH_take (i := 14) (v := undef) rfl (by kernel_rfl) (by kernel_rfl) (by kernel_rfl) (fun _ _ _ h => h) (Or.inr ⟨by rfl, rfl⟩) (by assumption) ?_
                 try simp only [List.getElem_toArray, List.getElem_cons_succ, List.getElem_cons_zero, Act.put, List.setIfInBounds_toArray, List.set_cons_zero, List.set_cons_succ]
                 refine wpAnyH_take (i := 15) (v := undef) rfl (by kernel_rfl) (by kernel_rfl) (by kernel_rfl) (fun _ _ _ h => h) (Or.inr ⟨by rfl, rfl⟩) (by assumption) ?_
                 try simp only [List.getElem_toArray, List.getElem_cons_succ, List.getElem_cons_zero, Act.put, List.setIfInBounds_toArray, List.set_cons_zero, List.set_cons_succ]
                 refine wpAnyH_take (i := 16) (v := undef) rfl (by kernel_rfl) (by kernel_rfl) (by kernel_rfl) (fun _ _ _ h => h) (Or.inr ⟨by rfl, rfl⟩) (by assumption) ?_
                 try simp only [List.getElem_toArray, List.getElem_cons_succ, List.getElem_cons_zero, Act.put, List.setIfInBounds_toArray, List.set_cons_zero, List.set_cons_succ]
                 refine wpAnyH_take (i := 17) (v := ?_) rfl (by kernel_rfl) (by kernel_rfl) (by kernel_rfl) (fun _ _ _ h => h) (Or.inl ⟨by rfl, ?_⟩) (by assumption) ?_
                 rotate_left
                 · intro w hSw; (try dsimp only at hSw); go_simp; (try (with_reducible rfl))
                 try simp only [List.getElem_toArray, List.getElem_cons_succ, List.getElem_cons_zero, Act.put, List.setIfInBounds_toArray, List.set_cons_zero, List.set_cons_succ]
                 refine wpAnyH_ready (rs := [18]) (by kernel_rfl) (by simp) ?_
                 refine AllReadyH.cons rfl (fun K hK => ?_) AllReadyH.nil
                 go_simp
                 refine (swhen_any _ _ _).mono ?_; rintro e w' ⟨rfl, rfl⟩
                 go_wp2_with fail
                 refine hK.out _ _ ?_ (fun hHeld => ?_)
                 · clear hK K; (((repeat' apply And.intro) <;> first | assumption | (simp [go_sem, *]; done)))
                 clear hK K
                 try simp only [List.getElem_toArray, List.getElem_cons_succ, List.getElem_cons_zero, Act.put, List.setIfInBounds_toArray, List.set_cons_zero, List.set_cons_succ]
                 refine wpAnyH_ready (rs := [19]) (by kernel_rfl) (by simp) ?_
                 refine AllReadyH.cons rfl (fun K hK => ?_) AllReadyH.nil
                 go_simp
                 refine hK.out _ _ ?_ (fun hHeld => ?_)
                 · clear hK K; (((repeat' apply And.intro) <;> first | assumption | (simp [go_sem, *]; done)))
                 clear hK K
                 try simp only [List.getElem_toArray, List.getElem_cons_succ, List.getElem_cons_zero, Act.put, List.setIfInBounds_toArray, List.set_cons_zero, List.set_cons_succ]
                 refine wpAnyH_ready (rs := [20]) (by kernel_rfl) (by simp) ?_
                 refine AllReadyH.cons rfl (fun K hK => ?_) AllReadyH.nil
                 go_simp
                 refine (sfirstError3 HF.out _ _ ?_ ?_ ?_).mono ?_; (focus (simp [go_sem])); (focus (simp [go_sem])); (focus (simp [go_sem])); rintro e w' ⟨rfl, rfl⟩
                 go_wp2_with fail
                 refine hK.out _ _ ?_ (fun hHeld => ?_)
                 · clear hK K; (((repeat' apply And.intro) <;> first | assumption | (simp [go_sem, *]; done)))
                 clear hK K
                 try simp only [List.getElem_toArray, List.getElem_cons_succ, List.getElem_cons_zero, Act.put, List.setIfInBounds_toArray, List.set_cons_zero, List.set_cons_succ]
                 refine wpAnyH_take (i := 21) (v := ?_) rfl (by kernel_rfl) (by kernel_rfl) (by kernel_rfl) (fun _ _ _ h => h) (Or.inl ⟨by rfl, ?_⟩) (by assumption) ?_
                 rotate_left
                 · intro w hSw; (try dsimp only at hSw); go_simp; (try (with_reducible rfl))
                 try simp only [List.getElem_toArray, List.getElem_cons_succ, List.getElem_cons_zero, Act.put, List.setIfInBounds_toArray, List.set_cons_zero, List.set_cons_succ]
                 refine wpAnyH_done (by kernel_rfl) ?_ _)
              | (have h9 : E3 = 9 ∨ E3 = 0 := by have := HE3.out; split at this <;> omega
                 first
                   | (have h3 : E3 = 9 := (by have h := HE3.out; rw [if_pos (by omega)] at h; exact h); subst h3)
                   | (have h3 : E3 = 0 := (by have h := HE3.out; rw [if_neg (by omega)] at h; exact h); subst h3)
                 clear h9 HE3
                 go_region_held3 (fun w' : World => w'.cell? ⟨g7, 0, none⟩ = some (.int .i64 x) ∧ w'.cell? ⟨g7, 1, none⟩ = some (.int .i64 y) ∧ w'.cell? ⟨g5, 0, none⟩ = some (.int .i64 b1) ∧ w'.cell? ⟨g5, 1, none⟩ = some (.int .i64 b2)) (((repeat' apply And.intro) <;> first | assumption | (simp [go_sem, *]; done))) (first
                   | (go_at_call 110; refine (CP.out _).mono ?_; rintro e w' ⟨rfl, rfl⟩)
                   | (go_at_call 111; refine (CT.out _).mono ?_; rintro e w' ⟨rfl, rfl⟩)
                   | (go_at_call 109; refine (swhen_any _ _ _).mono ?_; rintro e w' ⟨rfl, rfl⟩)
                   | (go_at_call 108; refine (sfirstError3 HF.out _ _ ?_ ?_ ?_).mono ?_; (focus (simp [go_sem])); (focus (simp [go_sem])); (focus (simp [go_sem])); rintro e w' ⟨rfl, rfl⟩)))
            all_goals
              first
              | (have KB2 := Lib.hid ((KB.out.alloc (.cells #[.int .i64 E1, .int .i64 E2, .int .i64 9] 37)).drew)
                 have KX2 := Lib.hid ((KX.out.alloc (.cells #[.int .i64 E1, .int .i64 E2, .int .i64 9] 37)).drew)
                 have HB2 := Lib.hid ((HB1.out.alloc hs1 (.cells #[.int .i64 E1, .int .i64 E2, .int .i64 9] 37)).drew)
                 obtain ⟨W2, hW2⟩ : ∃ W2, (W1.alloc (.cells #[.int .i64 E1, .int .i64 E2, .int .i64 9] 37)).drew = W2 := ⟨_, rfl⟩
                 rw [hW2] at KB2 KX2 HB2 ⊢
                 clear hW2)
              | (have KB2 := Lib.hid ((KB.out.alloc (.cells #[.int .i64 E1, .int .i64 E2, .int .i64 0] 37)).drew)
                 have KX2 := Lib.hid ((KX.out.alloc (.cells #[.int .i64 E1, .int .i64 E2, .int .i64 0] 37)).drew)
                 have HB2 := Lib.hid ((HB1.out.alloc hs1 (.cells #[.int .i64 E1, .int .i64 E2, .int .i64 0] 37)).drew)
                 obtain ⟨W2, hW2⟩ : ∃ W2, (W1.alloc (.cells #[.int .i64 E1, .int .i64 E2, .int .i64 0] 37)).drew = W2 := ⟨_, rfl⟩
                 rw [hW2] at KB2 KX2 HB2 ⊢
                 clear hW2)
              clear p1 p2 p3 p4 m1 m2 m3 m4 KB KX HB1 hs1 hs7 hs5 HF CP CT
              obtain ⟨p1, p2, p3, p4⟩ := bk2 KB2.out
              obtain ⟨m1, m2, m3, m4⟩ := bk2 KX2.out
              go_wp2
              · have h0 := ne0_of (F := F) (by assumption)
                refine bodyPost_ret (v := .tuple #[.int .i64 k, .int .i64 F]) (by simp [results, Tryz.results92, go_sem]) rfl ⟨retI2 ?_ ?_, HB2.out⟩
                · rw [HG.out, HS.out, if_neg h0]
                · rw [HG.out, HS.out, if_neg h0]
              · have h0 := eq0_of (F := F) (by assumption)
                go_roundw
                case rel =>
                  refine ⟨k + 1, x, y, by omega, by go_num, ?_, ?_, ?_⟩
                  · have h := (KB2.out.set_ 0 (.int .i64 x)).set_ 1 (.int .i64 y)
                    exact h
                  · exact (HB2.out.setCell (p := ⟨g5, 0, none⟩) (by simp; omega) _).setCell (p := ⟨g5, 1, none⟩) (by simp; omega) _
                  · show _ = _; rw [HG.out, HS.out, if_pos h0]
                case measure => simp [intOf]; omega
          · obtain rfl : k = n := by omega
            go_wp2
            refine bodyPost_ret (v := .tuple #[.int .i64 0, .int .i64 0]) (by simp [results, Tryz.results92, go_sem]) rfl ⟨retI2 ?_ ?_, HB.out⟩
            · rw [HG.out, List.drop_eq_nil_of_le (by have := HL.out; omega)]; rfl
            · rw [HG.out, List.drop_eq_nil_of_le (by have := HL.out; omega)]; rfl

end Go.Proofs.YtjjflbnopphciacGreatDoor

