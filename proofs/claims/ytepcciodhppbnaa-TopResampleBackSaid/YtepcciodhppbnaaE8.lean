import Derived.Test.YtepcciodhppbnaaE7


namespace Go.Proofs.Ytepcciodhppbnaa
open Go.RowKit

def degE (d : Int) : Int := if d = 1 ∨ d = 3 then 0 else 15
def valE (d : Int) (xs : List Int) (q : Int) : Int := firstNZ [degE d, sigE xs, rngE 0 (64 * ((xs.length : Int) - 1)) [q]]
def valN (d : Int) (xs : List Int) (q : Int) : Int := if valE d xs q = 0 then (if d = 1 then vnum1 xs q else vnum3 xs q) else 0
def valD (d : Int) (xs : List Int) (q : Int) : Int := if valE d xs q = 0 then (if d = 1 then 64 else 1572864) else 0
theorem fromB_all {lo hi : Int} {xs : List Int} (h : fromB lo hi xs = true) : ∀ x ∈ xs, lo ≤ x ∧ x ≤ hi := by
  intro x hx
  unfold fromB at h
  have := List.all_eq_true.1 h x hx
  simpa using this
theorem numE_zero {m : Int} {xs : List Int} (h : numE m xs = 0) : xs.length ≤ 400 ∧ ∀ x ∈ xs, -m ≤ x ∧ x ≤ m := by
  unfold numE at h
  by_cases h1 : 400 < xs.length
  · rw [if_pos h1] at h; cases h
  · rw [if_neg h1] at h
    refine ⟨by omega, fromB_all ?_⟩
    unfold rngE at h
    by_cases h2 : fromB (-m) m xs = true
    · exact h2
    · rw [if_neg h2] at h; cases h
theorem sigE_zero {xs : List Int} (h : sigE xs = 0) : xs.length ≤ 400 ∧ ∀ x ∈ xs, -32767 ≤ x ∧ x ≤ 32767 := numE_zero h
theorem valE_zero {d : Int} {xs : List Int} {q : Int} (h : valE d xs q = 0) : (d = 1 ∨ d = 3) ∧ (0 < xs.length ∧ xs.length ≤ 400 ∧ ∀ x ∈ xs, -32767 ≤ x ∧ x ≤ 32767) ∧ 0 ≤ q ∧ q ≤ 64 * ((xs.length : Int) - 1) := by
  have h1 := firstNZ_zero h (degE d) (by simp)
  have h2 := sigE_zero (firstNZ_zero h (sigE xs) (by simp))
  have h3 := rngE_zero (firstNZ_zero h (rngE 0 (64 * ((xs.length : Int) - 1)) [q]) (by simp))
  refine ⟨?_, ⟨by omega, h2.1, h2.2⟩, h3⟩
  unfold degE at h1
  by_cases h4 : d = 1 ∨ d = 3
  · exact h4
  · rw [if_neg h4] at h1; cases h1
theorem lastPosition_any (n : Nat) (w : World) (hn : n ≤ 1000000000) :
    Calls Try.prog 64 #[.int .i64 n] w fun e w' => e = .returned (.int .i64 (64 * ((n : Int) - 1))) ∧ w = w' := by
  have h1 : IntKind.i64.wrap ((n : Int) - 1) = (n : Int) - 1 := IntWalk.i64_in _ (by omega)
  have h2 : IntKind.i64.wrap (64 * ((n : Int) - 1)) = 64 * ((n : Int) - 1) := IntWalk.i64_in _ (by omega)
  go_enter Try.func64, Try.ntmps64
  go_wp2
  go_ret
  exact ⟨rfl, rfl⟩

set_option maxRecDepth 100000 in
set_option maxHeartbeats 2000000 in
theorem ValueAt1_any (A : Option Addr) (n c : Nat) (xs : List Int) (q : Int) (w : World) (hr : RdI w A n xs) (hn : n ≤ 1000000) :
    Calls Try.prog 57 #[.int .i64 1, .slice A n c, .int .i64 q] w fun e w' => e = .returned (.tuple #[.int .i64 (valN 1 xs q), .int .i64 (valD 1 xs q), .int .i64 (valE 1 xs q)]) ∧ Below w.heap.size w w' := by
  have HE : Hid (valE 1 xs q = firstNZ [degE 1, sigE xs, rngE 0 (64 * ((n : Int) - 1)) [q]]) := by show _ = _; unfold valE; rw [hr.1]
  have CF : Hid (∀ {F : Int} (_ : valE 1 xs q = F) (W : World) (g : Nat) (_ : W.cell? ⟨g, 0, none⟩ = some (.int .i64 (degE 1))) (_ : W.cell? ⟨g, 1, none⟩ = some (.int .i64 (sigE xs))) (_ : W.cell? ⟨g, 2, none⟩ = some (.int .i64 (rngE 0 (64 * ((n : Int) - 1)) [q]))), Calls Try.prog 62 #[.slice (some ⟨g, 0, none⟩) 3 3] W fun e w' => e = .returned (.int .i64 F) ∧ W = w') := fun h W g h0 h1 h2 => firstError3 (HE.out.symm.trans h) W g h0 h1 h2
  have HNN : Hid (xs.length = n) := hr.1
  have HV : Hid (valN 1 xs q = if valE 1 xs q = 0 then vnum1 xs q else 0) := by show _ = _; unfold valN; simp
  have HD : Hid (valD 1 xs q = if valE 1 xs q = 0 then 64 else 0) := by show _ = _; unfold valD; simp
  have HG : Hid (degE 1 = 0) := by show _ = _; unfold degE; simp
  have HZ : Hid (valE 1 xs q = 0 → (0 < xs.length ∧ xs.length ≤ 400 ∧ ∀ x ∈ xs, -32767 ≤ x ∧ x ≤ 32767) ∧ 0 ≤ q ∧ q ≤ 64 * ((xs.length : Int) - 1)) := fun h => (valE_zero h).2
  have C1 := Lib.hid (fun w => itpOf_1 w)
  have C2 : Hid (∀ w', Below w.heap.size w w' → Calls Try.prog 71 #[.slice A n c] w' fun e w'' => e = .returned (.int .i64 (sigE xs)) ∧ Below w'.heap.size w' w'') := fun w' hb => checkSignal_any A n c xs w' (hr.below hb) (by omega)
  have CL := Lib.hid (fun w => lastPosition_any n w (by omega))
  have C3 := Lib.hid (fun x y w h1 h2 => from1_any q 0 (64 * ((n : Int) - 1)) x y w h1 h2)
  have HR := Lib.hid hr
  clear hr
  obtain ⟨F, hF⟩ : ∃ F, valE 1 xs q = F := ⟨_, rfl⟩
  have CF' := Lib.hid (CF.out hF)
  rw [hF] at HV HD HZ
  have HF := Lib.hid hF
  rw [HG.out] at CF'
  clear hF CF HG HE
  obtain ⟨E2, hE2⟩ : ∃ E, sigE xs = E := ⟨_, rfl⟩
  obtain ⟨last, hlast⟩ : ∃ E, 64 * ((n : Int) - 1) = E := ⟨_, rfl⟩
  rw [hlast] at C3 CL CF'
  obtain ⟨E3, hE3⟩ : ∃ E, rngE 0 last [q] = E := ⟨_, rfl⟩
  rw [hE2] at C2 CF'
  rw [hE3] at C3 CF'
  have HLA := Lib.hid hlast
  clear hE2 hE3 hlast
  unfold itp1 at C1
  go_enter Try.func57, Try.ntmps57
  go_wp2_with fail
  refine (C1.out _).mono ?_
  rintro e w1 ⟨rfl, hb1⟩
  have B1 := Lib.hid hb1
  have hz1 := hb1.size
  clear hb1 C1
  go_wp2_with fail
  refine (C2.out _ (by have := B1.out; go_grown)).mono ?_
  rintro e w2 ⟨rfl, hb2⟩
  have K2 := Lib.hid ((Bk.new w1 112 #[.int .i64 1, .int .i64 0, .int .i64 64, .func (.func 120) #[] #[], .int .i64 8192, .func (.func 121) #[] #[]]).later hb2)
  have B2 := Lib.hid ((B1.out.alloc hz1 (.cells #[.int .i64 1, .int .i64 0, .int .i64 64, .func (.func 120) #[] #[], .int .i64 8192, .func (.func 121) #[] #[]] 112)).trans (hb2.mono (by simp; omega)))
  have hz2 : w1.heap.size < w2.heap.size := by have := hb2.size; simp at this; omega
  clear hb2 B1
  go_wp2_with (first | (go_at_call 64; refine (CL.out _).mono ?_; rintro e w' ⟨rfl, rfl⟩) | (go_at_call 63; refine (from_any _ _ _).mono ?_; rintro e w' ⟨rfl, rfl⟩) | (go_at_call 117; refine (C3.out _ _ _ ?_ ?_).mono ?_; (focus (simp [go_sem])); (focus (simp [go_sem])); rintro e w' ⟨rfl, rfl⟩) | (go_at_call 62; refine (CF'.out _ _ ?_ ?_ ?_).mono ?_; (focus (simp [go_sem])); (focus (simp [go_sem])); (focus (simp [go_sem])); rintro e w' ⟨rfl, rfl⟩))
  · have h0 := ne0_of (F := F) (by assumption)
    refine bodyPost_ret (v := .tuple #[.int .i64 0, .int .i64 0, .int .i64 F]) (by simp [results, Try.results57, go_sem]) rfl ⟨retI3 (by rw [HV.out, if_neg h0]) (by rw [HD.out, if_neg h0]) HF.out.symm, ?_⟩
    have := B2.out
    have := this.size
    go_grown
  · have h0 := eq0_of (F := F) (by assumption)
    subst h0
    obtain ⟨⟨z1, z2, z3⟩, z4, z5⟩ := HZ.out rfl
    have K3 := Lib.hid ((((K2.out).alloc (.cells #[.int .i64 0] 3)).alloc (.cells #[.int .i64 last] 3)).alloc (.cells #[.int .i64 0, .int .i64 E2, .int .i64 E3] 30))
    have hs2 := B2.out.size
    have B3 := Lib.hid ((((B2.out).alloc (by first | omega | (simp; omega)) (.cells #[.int .i64 0] 3)).alloc (by first | omega | (simp; omega)) (.cells #[.int .i64 last] 3)).alloc (by first | omega | (simp; omega)) (.cells #[.int .i64 0, .int .i64 E2, .int .i64 E3] 30))
    clear K2 B2
    obtain ⟨W3, hW3⟩ : ∃ W3, ((w2.alloc (.cells #[.int .i64 0] 3)).alloc (.cells #[.int .i64 last] 3)).alloc (.cells #[.int .i64 0, .int .i64 E2, .int .i64 E3] 30) = W3 := ⟨_, rfl⟩
    rw [hW3] at K3 B3 ⊢
    clear hW3
    have CN : Hid (∀ w', Below w.heap.size w w' → Calls Try.prog 114 #[itp1, .slice A n c, .int .i64 q] w' fun e w'' => e = .returned (.int .i64 (vnum1 xs q)) ∧ Below w'.heap.size w' w'') := fun w' hb => num1_any A n c xs q w' (HR.out.below hb) (by have := HNN.out; omega) z3 (by omega)
    have HV2 : Hid (valN 1 xs q = vnum1 xs q) := by show _ = _; rw [HV.out, if_pos rfl]
    have HD2 : Hid (valD 1 xs q = 64) := by show _ = _; rw [HD.out, if_pos rfl]
    unfold itp1 at CN
    clear z1 z2 z3 z4 z5 HZ HV HD C2 CL C3 CF'
    obtain ⟨q0, q1, q2, q3, q4, q5⟩ := bk6 K3.out
    obtain ⟨v, hv⟩ : ∃ v, vnum1 xs q = v := ⟨_, rfl⟩
    rw [hv] at CN HV2
    clear hv
    go_region_held3 (fun w' : World => (w'.cell? ⟨w1.heap.size, 0, none⟩ = some (.int .i64 1) ∧ w'.cell? ⟨w1.heap.size, 1, none⟩ = some (.int .i64 0) ∧ w'.cell? ⟨w1.heap.size, 2, none⟩ = some (.int .i64 64) ∧ w'.cell? ⟨w1.heap.size, 3, none⟩ = some (.func (.func 120) #[] #[]) ∧ w'.cell? ⟨w1.heap.size, 4, none⟩ = some (.int .i64 8192) ∧ w'.cell? ⟨w1.heap.size, 5, none⟩ = some (.func (.func 121) #[] #[])) ∧ Below W3.heap.size W3 w') (((repeat' apply And.intro) <;> first | assumption | (go_grown; done) | (simp [go_sem]; assumption)))
      ((go_at_call 114; refine (CN.out _ ?_).mono ?_; (focus (have := B3.out; have := this.drew; assumption)); rintro e w3 ⟨rfl, hb3⟩; have K4 : Bk w3 w1.heap.size 112 #[.int .i64 1, .int .i64 0, .int .i64 64, .func (.func 120) #[] #[], .int .i64 8192, .func (.func 121) #[] #[]] := (K3.out.drew).later hb3; have B4 : Below W3.heap.size W3 w3 := (Below.refl _ _).drew.trans hb3; have qq := bk6 K4; obtain ⟨q0, q1, q2, q3, q4, q5⟩ := qq))
    all_goals
      have BW := Lib.hid (B3.out.trans (B4.mono B3.out.size))
      clear hb3 K4 B4
      go_wp2
      refine bodyPost_ret (v := .tuple #[.int .i64 v, .int .i64 64, .int .i64 0]) (by simp [results, Try.results57, go_sem]) rfl ⟨retI3 HV2.out.symm HD2.out.symm HF.out.symm, BW.out⟩

set_option maxRecDepth 100000 in
set_option maxHeartbeats 2000000 in
theorem ValueAt3_any (A : Option Addr) (n c : Nat) (xs : List Int) (q : Int) (w : World) (hr : RdI w A n xs) (hn : n ≤ 1000000) :
    Calls Try.prog 57 #[.int .i64 3, .slice A n c, .int .i64 q] w fun e w' => e = .returned (.tuple #[.int .i64 (valN 3 xs q), .int .i64 (valD 3 xs q), .int .i64 (valE 3 xs q)]) ∧ Below w.heap.size w w' := by
  have HE : Hid (valE 3 xs q = firstNZ [degE 3, sigE xs, rngE 0 (64 * ((n : Int) - 1)) [q]]) := by show _ = _; unfold valE; rw [hr.1]
  have CF : Hid (∀ {F : Int} (_ : valE 3 xs q = F) (W : World) (g : Nat) (_ : W.cell? ⟨g, 0, none⟩ = some (.int .i64 (degE 3))) (_ : W.cell? ⟨g, 1, none⟩ = some (.int .i64 (sigE xs))) (_ : W.cell? ⟨g, 2, none⟩ = some (.int .i64 (rngE 0 (64 * ((n : Int) - 1)) [q]))), Calls Try.prog 62 #[.slice (some ⟨g, 0, none⟩) 3 3] W fun e w' => e = .returned (.int .i64 F) ∧ W = w') := fun h W g h0 h1 h2 => firstError3 (HE.out.symm.trans h) W g h0 h1 h2
  have HNN : Hid (xs.length = n) := hr.1
  have HV : Hid (valN 3 xs q = if valE 3 xs q = 0 then vnum3 xs q else 0) := by show _ = _; unfold valN; simp
  have HD : Hid (valD 3 xs q = if valE 3 xs q = 0 then 1572864 else 0) := by show _ = _; unfold valD; simp
  have HG : Hid (degE 3 = 0) := by show _ = _; unfold degE; simp
  have HZ : Hid (valE 3 xs q = 0 → (0 < xs.length ∧ xs.length ≤ 400 ∧ ∀ x ∈ xs, -32767 ≤ x ∧ x ≤ 32767) ∧ 0 ≤ q ∧ q ≤ 64 * ((xs.length : Int) - 1)) := fun h => (valE_zero h).2
  have C1 := Lib.hid (fun w => itpOf_3 w)
  have C2 : Hid (∀ w', Below w.heap.size w w' → Calls Try.prog 71 #[.slice A n c] w' fun e w'' => e = .returned (.int .i64 (sigE xs)) ∧ Below w'.heap.size w' w'') := fun w' hb => checkSignal_any A n c xs w' (hr.below hb) (by omega)
  have CL := Lib.hid (fun w => lastPosition_any n w (by omega))
  have C3 := Lib.hid (fun x y w h1 h2 => from1_any q 0 (64 * ((n : Int) - 1)) x y w h1 h2)
  have HR := Lib.hid hr
  clear hr
  obtain ⟨F, hF⟩ : ∃ F, valE 3 xs q = F := ⟨_, rfl⟩
  have CF' := Lib.hid (CF.out hF)
  rw [hF] at HV HD HZ
  have HF := Lib.hid hF
  rw [HG.out] at CF'
  clear hF CF HG HE
  obtain ⟨E2, hE2⟩ : ∃ E, sigE xs = E := ⟨_, rfl⟩
  obtain ⟨last, hlast⟩ : ∃ E, 64 * ((n : Int) - 1) = E := ⟨_, rfl⟩
  rw [hlast] at C3 CL CF'
  obtain ⟨E3, hE3⟩ : ∃ E, rngE 0 last [q] = E := ⟨_, rfl⟩
  rw [hE2] at C2 CF'
  rw [hE3] at C3 CF'
  have HLA := Lib.hid hlast
  clear hE2 hE3 hlast
  unfold itp3 at C1
  go_enter Try.func57, Try.ntmps57
  go_wp2_with fail
  refine (C1.out _).mono ?_
  rintro e w1 ⟨rfl, hb1⟩
  have B1 := Lib.hid hb1
  have hz1 := hb1.size
  clear hb1 C1
  go_wp2_with fail
  refine (C2.out _ (by have := B1.out; go_grown)).mono ?_
  rintro e w2 ⟨rfl, hb2⟩
  have K2 := Lib.hid ((Bk.new w1 112 #[.int .i64 3, .int .i64 1, .int .i64 1572864, .func (.func 122) #[] #[], .int .i64 402653184, .func (.func 123) #[] #[]]).later hb2)
  have B2 := Lib.hid ((B1.out.alloc hz1 (.cells #[.int .i64 3, .int .i64 1, .int .i64 1572864, .func (.func 122) #[] #[], .int .i64 402653184, .func (.func 123) #[] #[]] 112)).trans (hb2.mono (by simp; omega)))
  have hz2 : w1.heap.size < w2.heap.size := by have := hb2.size; simp at this; omega
  clear hb2 B1
  go_wp2_with (first | (go_at_call 64; refine (CL.out _).mono ?_; rintro e w' ⟨rfl, rfl⟩) | (go_at_call 63; refine (from_any _ _ _).mono ?_; rintro e w' ⟨rfl, rfl⟩) | (go_at_call 117; refine (C3.out _ _ _ ?_ ?_).mono ?_; (focus (simp [go_sem])); (focus (simp [go_sem])); rintro e w' ⟨rfl, rfl⟩) | (go_at_call 62; refine (CF'.out _ _ ?_ ?_ ?_).mono ?_; (focus (simp [go_sem])); (focus (simp [go_sem])); (focus (simp [go_sem])); rintro e w' ⟨rfl, rfl⟩))
  · have h0 := ne0_of (F := F) (by assumption)
    refine bodyPost_ret (v := .tuple #[.int .i64 0, .int .i64 0, .int .i64 F]) (by simp [results, Try.results57, go_sem]) rfl ⟨retI3 (by rw [HV.out, if_neg h0]) (by rw [HD.out, if_neg h0]) HF.out.symm, ?_⟩
    have := B2.out
    have := this.size
    go_grown
  · have h0 := eq0_of (F := F) (by assumption)
    subst h0
    obtain ⟨⟨z1, z2, z3⟩, z4, z5⟩ := HZ.out rfl
    have K3 := Lib.hid ((((K2.out).alloc (.cells #[.int .i64 0] 3)).alloc (.cells #[.int .i64 last] 3)).alloc (.cells #[.int .i64 0, .int .i64 E2, .int .i64 E3] 30))
    have hs2 := B2.out.size
    have B3 := Lib.hid ((((B2.out).alloc (by first | omega | (simp; omega)) (.cells #[.int .i64 0] 3)).alloc (by first | omega | (simp; omega)) (.cells #[.int .i64 last] 3)).alloc (by first | omega | (simp; omega)) (.cells #[.int .i64 0, .int .i64 E2, .int .i64 E3] 30))
    clear K2 B2
    obtain ⟨W3, hW3⟩ : ∃ W3, ((w2.alloc (.cells #[.int .i64 0] 3)).alloc (.cells #[.int .i64 last] 3)).alloc (.cells #[.int .i64 0, .int .i64 E2, .int .i64 E3] 30) = W3 := ⟨_, rfl⟩
    rw [hW3] at K3 B3 ⊢
    clear hW3
    have CN : Hid (∀ w', Below w.heap.size w w' → Calls Try.prog 114 #[itp3, .slice A n c, .int .i64 q] w' fun e w'' => e = .returned (.int .i64 (vnum3 xs q)) ∧ Below w'.heap.size w' w'') := fun w' hb => num3_any A n c xs q w' (HR.out.below hb) (by have := HNN.out; omega) z3 (by omega)
    have HV2 : Hid (valN 3 xs q = vnum3 xs q) := by show _ = _; rw [HV.out, if_pos rfl]
    have HD2 : Hid (valD 3 xs q = 1572864) := by show _ = _; rw [HD.out, if_pos rfl]
    unfold itp3 at CN
    clear z1 z2 z3 z4 z5 HZ HV HD C2 CL C3 CF'
    obtain ⟨q0, q1, q2, q3, q4, q5⟩ := bk6 K3.out
    obtain ⟨v, hv⟩ : ∃ v, vnum3 xs q = v := ⟨_, rfl⟩
    rw [hv] at CN HV2
    clear hv
    go_region_held3 (fun w' : World => (w'.cell? ⟨w1.heap.size, 0, none⟩ = some (.int .i64 3) ∧ w'.cell? ⟨w1.heap.size, 1, none⟩ = some (.int .i64 1) ∧ w'.cell? ⟨w1.heap.size, 2, none⟩ = some (.int .i64 1572864) ∧ w'.cell? ⟨w1.heap.size, 3, none⟩ = some (.func (.func 122) #[] #[]) ∧ w'.cell? ⟨w1.heap.size, 4, none⟩ = some (.int .i64 402653184) ∧ w'.cell? ⟨w1.heap.size, 5, none⟩ = some (.func (.func 123) #[] #[])) ∧ Below W3.heap.size W3 w') (((repeat' apply And.intro) <;> first | assumption | (go_grown; done) | (simp [go_sem]; assumption)))
      ((go_at_call 114; refine (CN.out _ ?_).mono ?_; (focus (have := B3.out; have := this.drew; assumption)); rintro e w3 ⟨rfl, hb3⟩; have K4 : Bk w3 w1.heap.size 112 #[.int .i64 3, .int .i64 1, .int .i64 1572864, .func (.func 122) #[] #[], .int .i64 402653184, .func (.func 123) #[] #[]] := (K3.out.drew).later hb3; have B4 : Below W3.heap.size W3 w3 := (Below.refl _ _).drew.trans hb3; have qq := bk6 K4; obtain ⟨q0, q1, q2, q3, q4, q5⟩ := qq))
    all_goals
      have BW := Lib.hid (B3.out.trans (B4.mono B3.out.size))
      clear hb3 K4 B4
      go_wp2
      refine bodyPost_ret (v := .tuple #[.int .i64 v, .int .i64 1572864, .int .i64 0]) (by simp [results, Try.results57, go_sem]) rfl ⟨retI3 HV2.out.symm HD2.out.symm HF.out.symm, BW.out⟩

set_option maxRecDepth 100000 in
set_option maxHeartbeats 2000000 in
theorem ValueAt0_any (d : Int) (h1 : d ≠ 1) (h3 : d ≠ 3) (A : Option Addr) (n c : Nat) (xs : List Int) (q : Int) (w : World) (hr : RdI w A n xs) (hn : n ≤ 1000000) :
    Calls Try.prog 57 #[.int .i64 d, .slice A n c, .int .i64 q] w fun e w' => e = .returned (.tuple #[.int .i64 (valN d xs q), .int .i64 (valD d xs q), .int .i64 (valE d xs q)]) ∧ Below w.heap.size w w' := by
  have HE : Hid (valE d xs q = firstNZ [degE d, sigE xs, rngE 0 (64 * ((n : Int) - 1)) [q]]) := by show _ = _; unfold valE; rw [hr.1]
  have CF : Hid (∀ {F : Int} (_ : valE d xs q = F) (W : World) (g : Nat) (_ : W.cell? ⟨g, 0, none⟩ = some (.int .i64 (degE d))) (_ : W.cell? ⟨g, 1, none⟩ = some (.int .i64 (sigE xs))) (_ : W.cell? ⟨g, 2, none⟩ = some (.int .i64 (rngE 0 (64 * ((n : Int) - 1)) [q]))), Calls Try.prog 62 #[.slice (some ⟨g, 0, none⟩) 3 3] W fun e w' => e = .returned (.int .i64 F) ∧ W = w') := fun h W g h0 h1 h2 => firstError3 (HE.out.symm.trans h) W g h0 h1 h2
  have HNN : Hid (xs.length = n) := hr.1
  have HG : Hid (degE d = 15) := by show _ = _; unfold degE; rw [if_neg (by omega)]
  have HV15 : valE d xs q = 15 := by rw [HE.out, HG.out]; rfl
  have HV : Hid (valN d xs q = 0) := by show _ = _; unfold valN; rw [HV15]; rfl
  have HD : Hid (valD d xs q = 0) := by show _ = _; unfold valD; rw [HV15]; rfl
  have C1 := Lib.hid (fun w => itpOf_no d w h1 h3)
  clear h1 h3
  have C2 : Hid (∀ w', Below w.heap.size w w' → Calls Try.prog 71 #[.slice A n c] w' fun e w'' => e = .returned (.int .i64 (sigE xs)) ∧ Below w'.heap.size w' w'') := fun w' hb => checkSignal_any A n c xs w' (hr.below hb) (by omega)
  have CL := Lib.hid (fun w => lastPosition_any n w (by omega))
  have C3 := Lib.hid (fun x y w h1 h2 => from1_any q 0 (64 * ((n : Int) - 1)) x y w h1 h2)
  have HR := Lib.hid hr
  clear hr
  obtain ⟨F, hF⟩ : ∃ F, valE d xs q = F := ⟨_, rfl⟩
  have CF' := Lib.hid (CF.out hF)
  have hF15 : F = 15 := by rw [← hF, HV15]
  clear HV15
  subst hF15
  have HF := Lib.hid hF
  rw [HG.out] at CF'
  clear hF CF HG HE
  obtain ⟨E2, hE2⟩ : ∃ E, sigE xs = E := ⟨_, rfl⟩
  obtain ⟨last, hlast⟩ : ∃ E, 64 * ((n : Int) - 1) = E := ⟨_, rfl⟩
  rw [hlast] at C3 CL CF'
  obtain ⟨E3, hE3⟩ : ∃ E, rngE 0 last [q] = E := ⟨_, rfl⟩
  rw [hE2] at C2 CF'
  rw [hE3] at C3 CF'
  have HLA := Lib.hid hlast
  clear hE2 hE3 hlast
  unfold itp0 at C1
  go_enter Try.func57, Try.ntmps57
  go_wp2_with fail
  refine (C1.out _).mono ?_
  rintro e w1 ⟨rfl, hb1⟩
  have B1 := Lib.hid hb1
  have hz1 := hb1.size
  clear hb1 C1
  go_wp2_with fail
  refine (C2.out _ (by have := B1.out; go_grown)).mono ?_
  rintro e w2 ⟨rfl, hb2⟩
  have K2 := Lib.hid ((Bk.new w1 112 #[.int .i64 0, .int .i64 0, .int .i64 0, .nilFunc, .int .i64 0, .nilFunc]).later hb2)
  have B2 := Lib.hid ((B1.out.alloc hz1 (.cells #[.int .i64 0, .int .i64 0, .int .i64 0, .nilFunc, .int .i64 0, .nilFunc] 112)).trans (hb2.mono (by simp; omega)))
  have hz2 : w1.heap.size < w2.heap.size := by have := hb2.size; simp at this; omega
  clear hb2 B1
  go_wp2_with (first | (go_at_call 64; refine (CL.out _).mono ?_; rintro e w' ⟨rfl, rfl⟩) | (go_at_call 63; refine (from_any _ _ _).mono ?_; rintro e w' ⟨rfl, rfl⟩) | (go_at_call 117; refine (C3.out _ _ _ ?_ ?_).mono ?_; (focus (simp [go_sem])); (focus (simp [go_sem])); rintro e w' ⟨rfl, rfl⟩) | (go_at_call 62; refine (CF'.out _ _ ?_ ?_ ?_).mono ?_; (focus (simp [go_sem])); (focus (simp [go_sem])); (focus (simp [go_sem])); rintro e w' ⟨rfl, rfl⟩))
  refine bodyPost_ret (v := .tuple #[.int .i64 0, .int .i64 0, .int .i64 15]) (by simp [results, Try.results57, go_sem]) rfl ⟨retI3 HV.out.symm HD.out.symm HF.out.symm, ?_⟩
  have := B2.out
  have := this.size
  go_grown

theorem ValueAt_any (d : Int) (A : Option Addr) (n c : Nat) (xs : List Int) (q : Int) (w : World) (hr : RdI w A n xs) (hn : n ≤ 1000000) :
    Calls Try.prog 57 #[.int .i64 d, .slice A n c, .int .i64 q] w fun e w' => e = .returned (.tuple #[.int .i64 (valN d xs q), .int .i64 (valD d xs q), .int .i64 (valE d xs q)]) ∧ Below w.heap.size w w' := by
  by_cases h1 : d = 1
  · subst h1; exact ValueAt1_any A n c xs q w hr hn
  · by_cases h3 : d = 3
    · subst h3; exact ValueAt3_any A n c xs q w hr hn
    · exact ValueAt0_any d h1 h3 A n c xs q w hr hn

end Go.Proofs.Ytepcciodhppbnaa
