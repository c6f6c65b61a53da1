import Derived.Test.YtepcciodhppbnaaE6

namespace Go.Proofs.Ytepcciodhppbnaa
open Go.RowKit

/-- The numerator of the value at a position. -/
def vnum1 (xs : List Int) (q : Int) : Int := vsum (wts1 (q % 64)) xs (q / 64) 2
def vnum3 (xs : List Int) (q : Int) : Int := vsum (wts3 (q % 64)) xs (q / 64 - 1) 4
theorem vsum_clear {ws xs : List Int} {first : Int} {k : Nat} {p q : Int} (hp : ws.getD k 0 = p) (hq : xs.getD (clmp xs.length (first + k)) 0 = q) : vsum ws xs first (k + 1) = vsum ws xs first k + p * q := by show vsum ws xs first k + ws.getD k 0 * xs.getD (clmp xs.length (first + k)) 0 = _; rw [hp, hq]

set_option maxRecDepth 100000 in
set_option maxHeartbeats 1000000 in
theorem num1_any (A : Option Addr) (n c : Nat) (xs : List Int) (q : Int) (w : World) (hr : RdI w A n xs) (hn : 0 < n ∧ n ≤ 1000000) (hx : ∀ x ∈ xs, -32767 ≤ x ∧ x ≤ 32767) (hq : 0 ≤ q ∧ q ≤ 100000000) :
    Calls Try.prog 114 #[itp1, .slice A n c, .int .i64 q] w fun e w' => e = .returned (.int .i64 (vnum1 xs q)) ∧ Below w.heap.size w w' := by
  have hw := wts1_bd (f := q % 64) (by omega)
  have HB : Hid (∀ k : Nat, -(131068000000 * (k : Int)) ≤ vsum (wts1 (q % 64)) xs (q / 64) k ∧ vsum (wts1 (q % 64)) xs (q / 64) k ≤ 131068000000 * (k : Int)) := fun k => vsum_bd hw hx k
  have HG : Hid (∀ k, -32767 ≤ xs.getD k 0 ∧ xs.getD k 0 ≤ 32767) := fun k => getD_bd (by omega) hx k
  have HWG : Hid (∀ k, -4000000 ≤ (wts1 (q % 64)).getD k 0 ∧ (wts1 (q % 64)).getD k 0 ≤ 4000000) := fun k => getD_bd (by omega) hw k
  have HR := Lib.hid hr
  have CW := Lib.hid (fun w => wts1_any (q % 64) w (by omega))
  have HN : Hid (vnum1 xs q = vsum (wts1 (q % 64)) xs (q / 64) 2) := rfl
  have HL : Hid ((wts1 (q % 64)).length = 2) := rfl
  clear hw hx hr
  obtain ⟨ws, hws⟩ : ∃ ws, wts1 (q % 64) = ws := ⟨_, rfl⟩
  rw [hws] at HB HWG CW HN HL
  clear hws
  obtain ⟨fi, hfi⟩ : ∃ fi, q / 64 = fi := ⟨_, rfl⟩
  have hfb : -1 ≤ fi ∧ fi ≤ 100000000 := by omega
  rw [hfi] at HB HN
  have hq64 : IntKind.i64.wrap (q / 64) = fi := by rw [← hfi]; exact IntWalk.i64_in _ (by omega)
  have HFI := Lib.hid hfi
  clear hfi
  unfold itp1
  go_enter Try.func114, Try.ntmps114
  go_wp2_with (go_at_call 120; refine (CW.out _).mono ?_; rintro e w' ⟨rfl, rfl⟩)
  have RW : Hid (RdI ((w.alloc (.cells #[.int .i64 1, .int .i64 0, .int .i64 64, .func (.func 120) #[] #[], .int .i64 8192, .func (.func 121) #[] #[]] 112)).alloc (.cells (iArr ws) 3)) (some ⟨w.heap.size + 1, 0, none⟩) 2 ws) := rd_of_bk (by have h := Bk.new (w.alloc (.cells #[.int .i64 1, .int .i64 0, .int .i64 64, .func (.func 120) #[] #[], .int .i64 8192, .func (.func 121) #[] #[]] 112)) 3 (iArr ws); simpa using h) HL.out
  have RX : Hid (RdI ((w.alloc (.cells #[.int .i64 1, .int .i64 0, .int .i64 64, .func (.func 120) #[] #[], .int .i64 8192, .func (.func 121) #[] #[]] 112)).alloc (.cells (iArr ws) 3)) A n xs) := HR.out.below (below2 _ _ _)
  have BW := Lib.hid (below2 w (.cells #[.int .i64 1, .int .i64 0, .int .i64 64, .func (.func 120) #[] #[], .int .i64 8192, .func (.func 121) #[] #[]] 112) (.cells (iArr ws) 3))
  obtain ⟨W, hW⟩ : ∃ W, (w.alloc (.cells #[.int .i64 1, .int .i64 0, .int .i64 64, .func (.func 120) #[] #[], .int .i64 8192, .func (.func 121) #[] #[]] 112)).alloc (.cells (iArr ws) 3) = W := ⟨_, rfl⟩
  rw [hW] at RW RX BW ⊢
  clear hW
  go_loop [8, 22] (fun s i => ∃ k : Nat, k ≤ 2 ∧ i = .int .i64 k ∧ s = .int .i64 (vsum ws xs fi k)) (fun _ i => 2 - (intOf i).toNat)
  case atStart => exact ⟨0, by omega, rfl, rfl⟩
  case round =>
    obtain ⟨k, hk, rfl, rfl⟩ := hrel
    by_cases hlt : k < 2
    · have hck : W.cell? ⟨w.heap.size + 1, k, none⟩ = some (.int .i64 (ws.getD k 0)) := by
        obtain ⟨ad, ha, _, hc⟩ := RW.out.2 (by omega)
        obtain rfl := Option.some.inj ha
        have := hc k hlt
        rwa [addOff] at this
      obtain ⟨ad, ha, _, hc⟩ := RX.out.2 hn.1
      obtain ⟨j, hj⟩ : ∃ j, clmp xs.length (fi + k) = j := ⟨_, rfl⟩
      have hjn : j < n := by rw [← hj, HR.out.1]; exact clmp_lt hn.1 _
      have hcj := hc j hjn
      clear hc
      subst ha
      obtain ⟨p, hp⟩ : ∃ p, ws.getD k 0 = p := ⟨_, rfl⟩
      obtain ⟨y, hy⟩ : ∃ y, xs.getD j 0 = y := ⟨_, rfl⟩
      have hpb := HWG.out k
      have hyb := HG.out j
      rw [hp] at hck hpb
      rw [hy] at hcj hyb
      have HS : Hid (vsum ws xs fi (k + 1) = vsum ws xs fi k + p * y) := vsum_clear hp (by rw [hj]; exact hy)
      have hsb := HB.out k
      have hsb2 := HB.out (k + 1)
      rw [HS.out] at hsb2
      obtain ⟨s, hs⟩ : ∃ s, vsum ws xs fi k = s := ⟨_, rfl⟩
      rw [hs] at hsb hsb2 HS ⊢
      have hpy := mulB (a := p) (b := y) 4000000 32767 hpb hyb (by omega) (by omega) 131068000000 (by omega)
      obtain ⟨m, hm⟩ : ∃ m : Int, (if (n : Int) - 1 < fi + k then (n : Int) - 1 else fi + k) = m := ⟨_, rfl⟩
      have hmj : (if 0 < m then m else 0) = (j : Int) := by
        have e := HR.out.1
        rw [← hj, ← hm, e]
        unfold clmp
        split <;> split <;> omega
      have w1 : IntKind.i64.wrap (fi + (k : Int)) = fi + k := IntWalk.i64_in _ (by omega)
      have w2 : IntKind.i64.wrap ((n : Int) - 1) = (n : Int) - 1 := IntWalk.i64_in _ (by omega)
      have w3 : IntKind.i64.wrap (p * y) = p * y := IntWalk.i64_in _ (by omega)
      have w4 : IntKind.i64.wrap (s + p * y) = s + p * y := IntWalk.i64_in _ (by omega)
      have hjI : (j : Int) < (n : Int) := by omega
      have hkI : (k : Int) < 2 := by omega
      clear hj hp hy hs hpb hyb hsb hsb2 hpy
      go_wp2
      go_round
      case rel => exact ⟨k + 1, by omega, by go_num, by rw [HS.out]⟩
      case measure => simp [intOf]; omega
    · obtain rfl : k = 2 := by omega
      go_wp2
      go_ret
      exact ⟨retI HN.out.symm, BW.out⟩

set_option maxRecDepth 100000 in
set_option maxHeartbeats 1000000 in
theorem num3_any (A : Option Addr) (n c : Nat) (xs : List Int) (q : Int) (w : World) (hr : RdI w A n xs) (hn : 0 < n ∧ n ≤ 1000000) (hx : ∀ x ∈ xs, -32767 ≤ x ∧ x ≤ 32767) (hq : 0 ≤ q ∧ q ≤ 100000000) :
    Calls Try.prog 114 #[itp3, .slice A n c, .int .i64 q] w fun e w' => e = .returned (.int .i64 (vnum3 xs q)) ∧ Below w.heap.size w w' := by
  have hw := wts3_bd (f := q % 64) (by omega)
  have HB : Hid (∀ k : Nat, -(131068000000 * (k : Int)) ≤ vsum (wts3 (q % 64)) xs (q / 64 - 1) k ∧ vsum (wts3 (q % 64)) xs (q / 64 - 1) k ≤ 131068000000 * (k : Int)) := fun k => vsum_bd hw hx k
  have HG : Hid (∀ k, -32767 ≤ xs.getD k 0 ∧ xs.getD k 0 ≤ 32767) := fun k => getD_bd (by omega) hx k
  have HWG : Hid (∀ k, -4000000 ≤ (wts3 (q % 64)).getD k 0 ∧ (wts3 (q % 64)).getD k 0 ≤ 4000000) := fun k => getD_bd (by omega) hw k
  have HR := Lib.hid hr
  have CW := Lib.hid (fun w => wts3_any (q % 64) w (by omega))
  have HN : Hid (vnum3 xs q = vsum (wts3 (q % 64)) xs (q / 64 - 1) 4) := rfl
  have HL : Hid ((wts3 (q % 64)).length = 4) := rfl
  clear hw hx hr
  obtain ⟨ws, hws⟩ : ∃ ws, wts3 (q % 64) = ws := ⟨_, rfl⟩
  rw [hws] at HB HWG CW HN HL
  clear hws
  obtain ⟨fi, hfi⟩ : ∃ fi, q / 64 - 1 = fi := ⟨_, rfl⟩
  have hfb : -1 ≤ fi ∧ fi ≤ 100000000 := by omega
  rw [hfi] at HB HN
  have hq64 : IntKind.i64.wrap (q / 64 - 1) = fi := by rw [← hfi]; exact IntWalk.i64_in _ (by omega)
  have HFI := Lib.hid hfi
  clear hfi
  unfold itp3
  go_enter Try.func114, Try.ntmps114
  go_wp2_with (go_at_call 122; refine (CW.out _).mono ?_; rintro e w' ⟨rfl, rfl⟩)
  have RW : Hid (RdI ((w.alloc (.cells #[.int .i64 3, .int .i64 1, .int .i64 1572864, .func (.func 122) #[] #[], .int .i64 402653184, .func (.func 123) #[] #[]] 112)).alloc (.cells (iArr ws) 3)) (some ⟨w.heap.size + 1, 0, none⟩) 4 ws) := rd_of_bk (by have h := Bk.new (w.alloc (.cells #[.int .i64 3, .int .i64 1, .int .i64 1572864, .func (.func 122) #[] #[], .int .i64 402653184, .func (.func 123) #[] #[]] 112)) 3 (iArr ws); simpa using h) HL.out
  have RX : Hid (RdI ((w.alloc (.cells #[.int .i64 3, .int .i64 1, .int .i64 1572864, .func (.func 122) #[] #[], .int .i64 402653184, .func (.func 123) #[] #[]] 112)).alloc (.cells (iArr ws) 3)) A n xs) := HR.out.below (below2 _ _ _)
  have BW := Lib.hid (below2 w (.cells #[.int .i64 3, .int .i64 1, .int .i64 1572864, .func (.func 122) #[] #[], .int .i64 402653184, .func (.func 123) #[] #[]] 112) (.cells (iArr ws) 3))
  obtain ⟨W, hW⟩ : ∃ W, (w.alloc (.cells #[.int .i64 3, .int .i64 1, .int .i64 1572864, .func (.func 122) #[] #[], .int .i64 402653184, .func (.func 123) #[] #[]] 112)).alloc (.cells (iArr ws) 3) = W := ⟨_, rfl⟩
  rw [hW] at RW RX BW ⊢
  clear hW
  go_loop [8, 22] (fun s i => ∃ k : Nat, k ≤ 4 ∧ i = .int .i64 k ∧ s = .int .i64 (vsum ws xs fi k)) (fun _ i => 4 - (intOf i).toNat)
  case atStart => exact ⟨0, by omega, rfl, rfl⟩
  case round =>
    obtain ⟨k, hk, rfl, rfl⟩ := hrel
    by_cases hlt : k < 4
    · have hck : W.cell? ⟨w.heap.size + 1, k, none⟩ = some (.int .i64 (ws.getD k 0)) := by
        obtain ⟨ad, ha, _, hc⟩ := RW.out.2 (by omega)
        obtain rfl := Option.some.inj ha
        have := hc k hlt
        rwa [addOff] at this
      obtain ⟨ad, ha, _, hc⟩ := RX.out.2 hn.1
      obtain ⟨j, hj⟩ : ∃ j, clmp xs.length (fi + k) = j := ⟨_, rfl⟩
      have hjn : j < n := by rw [← hj, HR.out.1]; exact clmp_lt hn.1 _
      have hcj := hc j hjn
      clear hc
      subst ha
      obtain ⟨p, hp⟩ : ∃ p, ws.getD k 0 = p := ⟨_, rfl⟩
      obtain ⟨y, hy⟩ : ∃ y, xs.getD j 0 = y := ⟨_, rfl⟩
      have hpb := HWG.out k
      have hyb := HG.out j
      rw [hp] at hck hpb
      rw [hy] at hcj hyb
      have HS : Hid (vsum ws xs fi (k + 1) = vsum ws xs fi k + p * y) := vsum_clear hp (by rw [hj]; exact hy)
      have hsb := HB.out k
      have hsb2 := HB.out (k + 1)
      rw [HS.out] at hsb2
      obtain ⟨s, hs⟩ : ∃ s, vsum ws xs fi k = s := ⟨_, rfl⟩
      rw [hs] at hsb hsb2 HS ⊢
      have hpy := mulB (a := p) (b := y) 4000000 32767 hpb hyb (by omega) (by omega) 131068000000 (by omega)
      obtain ⟨m, hm⟩ : ∃ m : Int, (if (n : Int) - 1 < fi + k then (n : Int) - 1 else fi + k) = m := ⟨_, rfl⟩
      have hmj : (if 0 < m then m else 0) = (j : Int) := by
        have e := HR.out.1
        rw [← hj, ← hm, e]
        unfold clmp
        split <;> split <;> omega
      have w1 : IntKind.i64.wrap (fi + (k : Int)) = fi + k := IntWalk.i64_in _ (by omega)
      have w2 : IntKind.i64.wrap ((n : Int) - 1) = (n : Int) - 1 := IntWalk.i64_in _ (by omega)
      have w3 : IntKind.i64.wrap (p * y) = p * y := IntWalk.i64_in _ (by omega)
      have w4 : IntKind.i64.wrap (s + p * y) = s + p * y := IntWalk.i64_in _ (by omega)
      have hjI : (j : Int) < (n : Int) := by omega
      have hkI : (k : Int) < 4 := by omega
      clear hj hp hy hs hpb hyb hsb hsb2 hpy
      go_wp2
      go_round
      case rel => exact ⟨k + 1, by omega, by go_num, by rw [HS.out]⟩
      case measure => simp [intOf]; omega
    · obtain rfl : k = 4 := by omega
      go_wp2
      go_ret
      exact ⟨retI HN.out.symm, BW.out⟩


theorem num1_bd {xs : List Int} {q : Int} (hx : ∀ x ∈ xs, -32767 ≤ x ∧ x ≤ 32767) (hq : 0 ≤ q) : -1000000000000 ≤ vnum1 xs q ∧ vnum1 xs q ≤ 1000000000000 := by
  have := vsum_bd (first := q / 64) (wts1_bd (f := q % 64) (by omega)) hx 2
  unfold vnum1; omega
theorem num3_bd {xs : List Int} {q : Int} (hx : ∀ x ∈ xs, -32767 ≤ x ∧ x ≤ 32767) (hq : 0 ≤ q) : -1000000000000 ≤ vnum3 xs q ∧ vnum3 xs q ≤ 1000000000000 := by
  have := vsum_bd (first := q / 64 - 1) (wts3_bd (f := q % 64) (by omega)) hx 4
  unfold vnum3; omega
theorem below1 (w : World) (o : Obj) : Below w.heap.size w (w.alloc o) := (Below.refl _ _).alloc (Nat.le_refl _) _
/-- The sample that stands for a value. -/
def outV (num den : Int) : Int := max (-32767) (min ((2 * num + den) / (2 * den)) 32767)

set_option maxRecDepth 100000 in
set_option maxHeartbeats 1000000 in
theorem out1_any (A : Option Addr) (n c : Nat) (xs : List Int) (q : Int) (w : World) (hr : RdI w A n xs) (hn : 0 < n ∧ n ≤ 1000000) (hx : ∀ x ∈ xs, -32767 ≤ x ∧ x ≤ 32767) (hq : 0 ≤ q ∧ q ≤ 100000000) :
    Calls Try.prog 72 #[itp1, .slice A n c, .int .i64 q] w fun e w' => e = .returned (.int .i64 (outV (vnum1 xs q) 64)) ∧ Below w.heap.size w w' := by
  have hb := num1_bd (q := q) hx hq.1
  have CN : Hid (∀ w', Below w.heap.size w w' → Calls Try.prog 114 #[itp1, .slice A n c, .int .i64 q] w' fun e w'' => e = .returned (.int .i64 (vnum1 xs q)) ∧ Below w'.heap.size w' w'') := fun w' hb => num1_any A n c xs q w' (hr.below hb) hn hx hq
  clear hr hx hn hq
  have HV : Hid (outV (vnum1 xs q) 64 = max (-32767) (min ((2 * vnum1 xs q + 64) / (2 * 64)) 32767)) := rfl
  obtain ⟨v, hv⟩ : ∃ v, vnum1 xs q = v := ⟨_, rfl⟩
  rw [hv] at hb CN HV
  have HO : Hid (Ending.returned (.int .i64 (outV (vnum1 xs q) 64)) = Ending.returned (.int .i64 (outV v 64))) := by show _ = _; rw [hv]
  clear hv
  have CR := Lib.hid (fun w => nearest_any v 64 (by omega) (by omega) w)
  obtain ⟨z, hz⟩ : ∃ z, (2 * v + 64) / (2 * 64) = z := ⟨_, rfl⟩
  rw [hz] at CR
  have HZ : Hid (outV v 64 = max (-32767) (min z 32767)) := by show _ = _; unfold outV; rw [hz]
  clear hz hb HV
  unfold itp1 at CN
  unfold itp1
  go_enter Try.func72, Try.ntmps72
  go_wp2
  go_region_held3 (fun w' : World => (w'.cell? ⟨w.heap.size, 0, none⟩ = some (.int .i64 1) ∧ w'.cell? ⟨w.heap.size, 1, none⟩ = some (.int .i64 0) ∧ w'.cell? ⟨w.heap.size, 2, none⟩ = some (.int .i64 64) ∧ w'.cell? ⟨w.heap.size, 3, none⟩ = some (.func (.func 120) #[] #[]) ∧ w'.cell? ⟨w.heap.size, 4, none⟩ = some (.int .i64 8192) ∧ w'.cell? ⟨w.heap.size, 5, none⟩ = some (.func (.func 121) #[] #[])) ∧ Below w.heap.size w w')
    (((repeat' apply And.intro) <;> first | assumption | (simp [go_sem]; done) | (go_grown; done)))
    (first
      | (go_at_call 114; refine (CN.out _ ?_).mono ?_; (focus go_grown); rintro e w3 ⟨rfl, hb3⟩; have K3 : Bk w3 w.heap.size 112 #[.int .i64 1, .int .i64 0, .int .i64 64, .func (.func 120) #[] #[], .int .i64 8192, .func (.func 121) #[] #[]] := (Bk.new w _ _).drew.later hb3; have B3 : Below w.heap.size w w3 := ((below1 w _).drew).trans (hb3.mono (by simp)); have q := bk6 K3; obtain ⟨q0, q1, q2, q3, q4, q5⟩ := q)
      | (go_at_call 125; refine (CR.out _).mono ?_; rintro e w' ⟨rfl, rfl⟩))
  obtain ⟨m, hm⟩ : ∃ m : Int, (if 32767 < z then 32767 else z) = m := ⟨_, rfl⟩
  obtain ⟨o, ho⟩ : ∃ o : Int, (if -32767 < m then m else -32767) = o := ⟨_, rfl⟩
  have HO2 : Hid (outV v 64 = o) := by
    show _ = _
    rw [HZ.out, ← ho, ← hm]
    split <;> split <;> omega
  clear hb3 K3 q0 q1 q2 q3 q4 q5
  go_wp2
  go_ret
  exact ⟨by rw [HO.out]; exact retI HO2.out.symm, B3⟩

set_option maxRecDepth 100000 in
set_option maxHeartbeats 1000000 in
theorem out3_any (A : Option Addr) (n c : Nat) (xs : List Int) (q : Int) (w : World) (hr : RdI w A n xs) (hn : 0 < n ∧ n ≤ 1000000) (hx : ∀ x ∈ xs, -32767 ≤ x ∧ x ≤ 32767) (hq : 0 ≤ q ∧ q ≤ 100000000) :
    Calls Try.prog 72 #[itp3, .slice A n c, .int .i64 q] w fun e w' => e = .returned (.int .i64 (outV (vnum3 xs q) 1572864)) ∧ Below w.heap.size w w' := by
  have hb := num3_bd (q := q) hx hq.1
  have CN : Hid (∀ w', Below w.heap.size w w' → Calls Try.prog 114 #[itp3, .slice A n c, .int .i64 q] w' fun e w'' => e = .returned (.int .i64 (vnum3 xs q)) ∧ Below w'.heap.size w' w'') := fun w' hb => num3_any A n c xs q w' (hr.below hb) hn hx hq
  clear hr hx hn hq
  have HV : Hid (outV (vnum3 xs q) 1572864 = max (-32767) (min ((2 * vnum3 xs q + 1572864) / (2 * 1572864)) 32767)) := rfl
  obtain ⟨v, hv⟩ : ∃ v, vnum3 xs q = v := ⟨_, rfl⟩
  rw [hv] at hb CN HV
  have HO : Hid (Ending.returned (.int .i64 (outV (vnum3 xs q) 1572864)) = Ending.returned (.int .i64 (outV v 1572864))) := by show _ = _; rw [hv]
  clear hv
  have CR := Lib.hid (fun w => nearest_any v 1572864 (by omega) (by omega) w)
  obtain ⟨z, hz⟩ : ∃ z, (2 * v + 1572864) / (2 * 1572864) = z := ⟨_, rfl⟩
  rw [hz] at CR
  have HZ : Hid (outV v 1572864 = max (-32767) (min z 32767)) := by show _ = _; unfold outV; rw [hz]
  clear hz hb HV
  unfold itp3 at CN
  unfold itp3
  go_enter Try.func72, Try.ntmps72
  go_wp2
  go_region_held3 (fun w' : World => (w'.cell? ⟨w.heap.size, 0, none⟩ = some (.int .i64 3) ∧ w'.cell? ⟨w.heap.size, 1, none⟩ = some (.int .i64 1) ∧ w'.cell? ⟨w.heap.size, 2, none⟩ = some (.int .i64 1572864) ∧ w'.cell? ⟨w.heap.size, 3, none⟩ = some (.func (.func 122) #[] #[]) ∧ w'.cell? ⟨w.heap.size, 4, none⟩ = some (.int .i64 402653184) ∧ w'.cell? ⟨w.heap.size, 5, none⟩ = some (.func (.func 123) #[] #[])) ∧ Below w.heap.size w w')
    (((repeat' apply And.intro) <;> first | assumption | (simp [go_sem]; done) | (go_grown; done)))
    (first
      | (go_at_call 114; refine (CN.out _ ?_).mono ?_; (focus go_grown); rintro e w3 ⟨rfl, hb3⟩; have K3 : Bk w3 w.heap.size 112 #[.int .i64 3, .int .i64 1, .int .i64 1572864, .func (.func 122) #[] #[], .int .i64 402653184, .func (.func 123) #[] #[]] := (Bk.new w _ _).drew.later hb3; have B3 : Below w.heap.size w w3 := ((below1 w _).drew).trans (hb3.mono (by simp)); have q := bk6 K3; obtain ⟨q0, q1, q2, q3, q4, q5⟩ := q)
      | (go_at_call 125; refine (CR.out _).mono ?_; rintro e w' ⟨rfl, rfl⟩))
  obtain ⟨m, hm⟩ : ∃ m : Int, (if 32767 < z then 32767 else z) = m := ⟨_, rfl⟩
  obtain ⟨o, ho⟩ : ∃ o : Int, (if -32767 < m then m else -32767) = o := ⟨_, rfl⟩
  have HO2 : Hid (outV v 1572864 = o) := by
    show _ = _
    rw [HZ.out, ← ho, ← hm]
    split <;> split <;> omega
  clear hb3 K3 q0 q1 q2 q3 q4 q5
  go_wp2
  go_ret
  exact ⟨by rw [HO.out]; exact retI HO2.out.symm, B3⟩

end Go.Proofs.Ytepcciodhppbnaa
