import Derived.Test.YtepcciodhppbnaaE27

namespace Go.Proofs.Ytepcciodhppbnaa
open Go.RowKit

theorem refWeights1_any (f : Int) (w : World) (h : 0 ≤ f ∧ f ≤ 63) :
    Calls Try.prog 126 #[.int .i64 1, .int .i64 f] w fun e w' => e = .returned (.tuple #[.slice (some ⟨w.heap.size, 0, none⟩) 2 2, .int .i64 64]) ∧ w' = w.alloc (.cells (iArr (wts1 f)) 3) := by
  have h1 : IntKind.i64.wrap (64 - f) = 64 - f := IntWalk.i64_in _ (by omega)
  go_enter Try.func126, Try.ntmps126
  go_wp2
  go_ret2
  exact ⟨rfl, rfl⟩
set_option maxHeartbeats 1000000 in
theorem refWeights3_any (f : Int) (w : World) (h : 0 ≤ f ∧ f ≤ 63) :
    Calls Try.prog 126 #[.int .i64 3, .int .i64 f] w fun e w' => e = .returned (.tuple #[.slice (some ⟨w.heap.size, 0, none⟩) 4 4, .int .i64 1572864]) ∧ w' = w.alloc (.cells (iArr (wts3 f)) 3) := by
  obtain ⟨a1, a2, b1, b2, c1, c2, d1, d2, d3⟩ := prods h
  have h1 : IntKind.i64.wrap (-f) = -f := IntWalk.i64_in _ (by omega)
  have h2 : IntKind.i64.wrap (f - 64) = f - 64 := IntWalk.i64_in _ (by omega)
  have h3 : IntKind.i64.wrap (f - 128) = f - 128 := IntWalk.i64_in _ (by omega)
  have h4 : IntKind.i64.wrap (f + 64) = f + 64 := IntWalk.i64_in _ (by omega)
  have h5 : IntKind.i64.wrap (3 * (f + 64)) = 3 * (f + 64) := IntWalk.i64_in _ (by omega)
  have h6 : IntKind.i64.wrap (-3 * (f + 64)) = -3 * (f + 64) := IntWalk.i64_in _ (by omega)
  have k1 := wrapOf _ a1 (by omega)
  have k2 := wrapOf _ a2 (by omega)
  have k3 := wrapOf _ b1 (by omega)
  have k4 := wrapOf _ b2 (by omega)
  have k5 := wrapOf _ c1 (by omega)
  have k6 := wrapOf _ c2 (by omega)
  have k7 := wrapOf _ d1 (by omega)
  have k8 := wrapOf _ d2 (by omega)
  clear a1 a2 b1 b2 c1 c2 d1 d2 d3
  go_enter Try.func126, Try.ntmps126
  go_wp2
  go_ret2
  exact ⟨rfl, rfl⟩

set_option maxRecDepth 100000 in
set_option maxHeartbeats 2000000 in
theorem refValue1_any (A : Option Addr) (n c : Nat) (xs : List Int) (q : Int) (w : World) (hr : RdI w A n xs) (hn : 0 < n ∧ n ≤ 1000000) (hx : ∀ x ∈ xs, -32767 ≤ x ∧ x ≤ 32767) (hq : 0 ≤ q ∧ q ≤ 100000000) :
    Calls Try.prog 73 #[.int .i64 1, .slice A n c, .int .i64 q] w fun e w' => e = .returned (.tuple #[.int .i64 (vnum1 xs q), .int .i64 64]) ∧ Below w.heap.size w w' := by
  have hw := wts1_bd (f := q % 64) (by omega)
  have HB : Hid (∀ k : Nat, -(131068000000 * (k : Int)) ≤ vsum (wts1 (q % 64)) xs (q / 64) k ∧ vsum (wts1 (q % 64)) xs (q / 64) k ≤ 131068000000 * (k : Int)) := fun k => vsum_bd hw hx k
  have HG : Hid (∀ k, -32767 ≤ xs.getD k 0 ∧ xs.getD k 0 ≤ 32767) := fun k => getD_bd (by omega) hx k
  have HWG : Hid (∀ k, -4000000 ≤ (wts1 (q % 64)).getD k 0 ∧ (wts1 (q % 64)).getD k 0 ≤ 4000000) := fun k => getD_bd (by omega) hw k
  have HR := Lib.hid hr
  have CW := Lib.hid (fun w => refWeights1_any (q % 64) w (by omega))
  have HN : Hid (vnum1 xs q = vsum (wts1 (q % 64)) xs (q / 64) 2) := rfl
  have HL : Hid ((wts1 (q % 64)).length = 2) := rfl
  clear hw hx hr
  obtain ⟨ws, hws⟩ : ∃ ws, wts1 (q % 64) = ws := ⟨_, rfl⟩
  rw [hws] at HB HWG CW HN HL
  clear hws
  obtain ⟨fi, hfi⟩ : ∃ fi, q / 64 = fi := ⟨_, rfl⟩
  have hfb : -1 ≤ fi ∧ fi ≤ 100000000 := by omega
  rw [hfi] at HB HN
  have hq64 : IntKind.i64.wrap (q / 64) = q / 64 := IntWalk.i64_in _ (by omega)
  have hqf : IntKind.i64.wrap (q / 64) = fi := by rw [← hfi]; exact IntWalk.i64_in _ (by omega)
  go_enter Try.func73, Try.ntmps73
  go_wp2_with (go_at_call 126; refine (CW.out _).mono ?_; rintro e w' ⟨rfl, rfl⟩)
  have RW : Hid (RdI (w.alloc (.cells (iArr ws) 3)) (some ⟨w.heap.size, 0, none⟩) 2 ws) := rd_of_bk (Bk.new _ _ _) HL.out
  have RX : Hid (RdI (w.alloc (.cells (iArr ws) 3)) A n xs) := HR.out.below (below1 _ _)
  have BW := Lib.hid (below1 w (.cells (iArr ws) 3))
  obtain ⟨W, hW⟩ : ∃ W, w.alloc (.cells (iArr ws) 3) = W := ⟨_, rfl⟩
  rw [hW] at RW RX BW ⊢
  clear hW
  try rw [hfi]
  clear hqf hq64
  have HFI := Lib.hid hfi
  clear hfi
  go_loopw [11, 12] (fun s i wr => ∃ k : Nat, k ≤ 2 ∧ i = .int .i64 k ∧ s = .int .i64 (vsum ws xs fi k) ∧ Hid (∃ j, wr = W.drewN j)) (fun _ i _ => 2 - (intOf i).toNat)
  case atStart => exact ⟨0, by omega, rfl, rfl, 0, rfl⟩
  case round =>
    obtain ⟨k, hk, rfl, rfl, HJ⟩ := hrel
    obtain ⟨jj, hjj⟩ := HJ.out
    have hbw : Below W.heap.size W wr := by rw [hjj]; exact belowDrewN (Below.refl _ _) jj
    by_cases hlt : k < 2
    · have hck : wr.cell? ⟨w.heap.size, k, none⟩ = some (.int .i64 (ws.getD k 0)) := by
        obtain ⟨ad, ha, _, hc⟩ := (RW.out.below hbw).2 (by omega)
        obtain rfl := Option.some.inj ha
        have := hc k hlt
        rwa [addOff] at this
      obtain ⟨ad, ha, _, hc⟩ := (RX.out.below hbw).2 hn.1
      obtain ⟨j, hj⟩ : ∃ j, clmp xs.length (fi + k) = j := ⟨_, rfl⟩
      have hjn : j < n := by rw [← hj, HR.out.1]; exact clmp_lt hn.1 _
      have hcj := hc j hjn
      clear hc
      subst ha
      obtain ⟨p, hp⟩ : ∃ p, ws.getD k 0 = p := ⟨_, rfl⟩
      obtain ⟨y, hy⟩ : ∃ y, xs.getD j 0 = y := ⟨_, rfl⟩
      have hpb := HWG.out k
      have hyb := HG.out j
      rw [hp] at hck hpb
      rw [hy] at hcj hyb
      have HS : Hid (vsum ws xs fi (k + 1) = vsum ws xs fi k + p * y) := vsum_clear hp (by rw [hj]; exact hy)
      have hsb := HB.out k
      have hsb2 := HB.out (k + 1)
      rw [HS.out] at hsb2
      obtain ⟨s, hs⟩ : ∃ s, vsum ws xs fi k = s := ⟨_, rfl⟩
      rw [hs] at hsb hsb2 HS ⊢
      have hpy := mulB (a := p) (b := y) 4000000 32767 hpb hyb (by omega) (by omega) 131068000000 (by omega)
      obtain ⟨m, hm⟩ : ∃ m : Int, (if 0 < fi + (k : Int) then fi + (k : Int) else 0) = m := ⟨_, rfl⟩
      have hmj : (if m < (n : Int) - 1 then m else (n : Int) - 1) = (j : Int) := by
        have e := HR.out.1
        rw [← hj, ← hm, e]
        unfold clmp
        split <;> split <;> omega
      have w1 : IntKind.i64.wrap (fi + (k : Int)) = fi + k := IntWalk.i64_in _ (by omega)
      have w2 : IntKind.i64.wrap ((n : Int) - 1) = (n : Int) - 1 := IntWalk.i64_in _ (by omega)
      have w3 : IntKind.i64.wrap (p * y) = p * y := IntWalk.i64_in _ (by omega)
      have w4 : IntKind.i64.wrap (s + p * y) = s + p * y := IntWalk.i64_in _ (by omega)
      have hjI : (j : Int) < (n : Int) := by omega
      have hkI : (k : Int) < 2 := by omega
      have hk0 : (0 : Int) ≤ (k : Int) := by omega
      have hj0 : (0 : Int) ≤ (j : Int) := by omega
      have HJJ : Hid (∃ j, wr.drew = W.drewN j) := ⟨jj + 1, by rw [hjj]; rfl⟩
      clear hj hp hy hs hpb hyb hsb hsb2 hpy HJ hjj hbw
      go_wp2
      go_region
      go_wp2
      go_roundw
      case rel => exact ⟨k + 1, by omega, by go_num, by rw [HS.out], HJJ⟩
      case measure => simp [intOf]; omega
    · obtain rfl : k = 2 := by omega
      have BX := Lib.hid (BW.out.trans (hbw.mono BW.out.size))
      clear hjj HJ hbw
      go_wp2
      go_ret2
      exact ⟨by rw [HN.out]; rfl, BX.out⟩

set_option maxRecDepth 100000 in
set_option maxHeartbeats 2000000 in
theorem refValue3_any (A : Option Addr) (n c : Nat) (xs : List Int) (q : Int) (w : World) (hr : RdI w A n xs) (hn : 0 < n ∧ n ≤ 1000000) (hx : ∀ x ∈ xs, -32767 ≤ x ∧ x ≤ 32767) (hq : 0 ≤ q ∧ q ≤ 100000000) :
    Calls Try.prog 73 #[.int .i64 3, .slice A n c, .int .i64 q] w fun e w' => e = .returned (.tuple #[.int .i64 (vnum3 xs q), .int .i64 1572864]) ∧ Below w.heap.size w w' := by
  have hw := wts3_bd (f := q % 64) (by omega)
  have HB : Hid (∀ k : Nat, -(131068000000 * (k : Int)) ≤ vsum (wts3 (q % 64)) xs (q / 64 - 1) k ∧ vsum (wts3 (q % 64)) xs (q / 64 - 1) k ≤ 131068000000 * (k : Int)) := fun k => vsum_bd hw hx k
  have HG : Hid (∀ k, -32767 ≤ xs.getD k 0 ∧ xs.getD k 0 ≤ 32767) := fun k => getD_bd (by omega) hx k
  have HWG : Hid (∀ k, -4000000 ≤ (wts3 (q % 64)).getD k 0 ∧ (wts3 (q % 64)).getD k 0 ≤ 4000000) := fun k => getD_bd (by omega) hw k
  have HR := Lib.hid hr
  have CW := Lib.hid (fun w => refWeights3_any (q % 64) w (by omega))
  have HN : Hid (vnum3 xs q = vsum (wts3 (q % 64)) xs (q / 64 - 1) 4) := rfl
  have HL : Hid ((wts3 (q % 64)).length = 4) := rfl
  clear hw hx hr
  obtain ⟨ws, hws⟩ : ∃ ws, wts3 (q % 64) = ws := ⟨_, rfl⟩
  rw [hws] at HB HWG CW HN HL
  clear hws
  obtain ⟨fi, hfi⟩ : ∃ fi, q / 64 - 1 = fi := ⟨_, rfl⟩
  have hfb : -1 ≤ fi ∧ fi ≤ 100000000 := by omega
  rw [hfi] at HB HN
  have hq64 : IntKind.i64.wrap (q / 64) = q / 64 := IntWalk.i64_in _ (by omega)
  have hqf : IntKind.i64.wrap (q / 64 - 1) = fi := by rw [← hfi]; exact IntWalk.i64_in _ (by omega)
  go_enter Try.func73, Try.ntmps73
  go_wp2_with (go_at_call 126; refine (CW.out _).mono ?_; rintro e w' ⟨rfl, rfl⟩)
  have RW : Hid (RdI (w.alloc (.cells (iArr ws) 3)) (some ⟨w.heap.size, 0, none⟩) 4 ws) := rd_of_bk (Bk.new _ _ _) HL.out
  have RX : Hid (RdI (w.alloc (.cells (iArr ws) 3)) A n xs) := HR.out.below (below1 _ _)
  have BW := Lib.hid (below1 w (.cells (iArr ws) 3))
  obtain ⟨W, hW⟩ : ∃ W, w.alloc (.cells (iArr ws) 3) = W := ⟨_, rfl⟩
  rw [hW] at RW RX BW ⊢
  clear hW
  try rw [hfi]
  clear hqf hq64
  have HFI := Lib.hid hfi
  clear hfi
  go_loopw [11, 12] (fun s i wr => ∃ k : Nat, k ≤ 4 ∧ i = .int .i64 k ∧ s = .int .i64 (vsum ws xs fi k) ∧ Hid (∃ j, wr = W.drewN j)) (fun _ i _ => 4 - (intOf i).toNat)
  case atStart => exact ⟨0, by omega, rfl, rfl, 0, rfl⟩
  case round =>
    obtain ⟨k, hk, rfl, rfl, HJ⟩ := hrel
    obtain ⟨jj, hjj⟩ := HJ.out
    have hbw : Below W.heap.size W wr := by rw [hjj]; exact belowDrewN (Below.refl _ _) jj
    by_cases hlt : k < 4
    · have hck : wr.cell? ⟨w.heap.size, k, none⟩ = some (.int .i64 (ws.getD k 0)) := by
        obtain ⟨ad, ha, _, hc⟩ := (RW.out.below hbw).2 (by omega)
        obtain rfl := Option.some.inj ha
        have := hc k hlt
        rwa [addOff] at this
      obtain ⟨ad, ha, _, hc⟩ := (RX.out.below hbw).2 hn.1
      obtain ⟨j, hj⟩ : ∃ j, clmp xs.length (fi + k) = j := ⟨_, rfl⟩
      have hjn : j < n := by rw [← hj, HR.out.1]; exact clmp_lt hn.1 _
      have hcj := hc j hjn
      clear hc
      subst ha
      obtain ⟨p, hp⟩ : ∃ p, ws.getD k 0 = p := ⟨_, rfl⟩
      obtain ⟨y, hy⟩ : ∃ y, xs.getD j 0 = y := ⟨_, rfl⟩
      have hpb := HWG.out k
      have hyb := HG.out j
      rw [hp] at hck hpb
      rw [hy] at hcj hyb
      have HS : Hid (vsum ws xs fi (k + 1) = vsum ws xs fi k + p * y) := vsum_clear hp (by rw [hj]; exact hy)
      have hsb := HB.out k
      have hsb2 := HB.out (k + 1)
      rw [HS.out] at hsb2
      obtain ⟨s, hs⟩ : ∃ s, vsum ws xs fi k = s := ⟨_, rfl⟩
      rw [hs] at hsb hsb2 HS ⊢
      have hpy := mulB (a := p) (b := y) 4000000 32767 hpb hyb (by omega) (by omega) 131068000000 (by omega)
      obtain ⟨m, hm⟩ : ∃ m : Int, (if 0 < fi + (k : Int) then fi + (k : Int) else 0) = m := ⟨_, rfl⟩
      have hmj : (if m < (n : Int) - 1 then m else (n : Int) - 1) = (j : Int) := by
        have e := HR.out.1
        rw [← hj, ← hm, e]
        unfold clmp
        split <;> split <;> omega
      have w1 : IntKind.i64.wrap (fi + (k : Int)) = fi + k := IntWalk.i64_in _ (by omega)
      have w2 : IntKind.i64.wrap ((n : Int) - 1) = (n : Int) - 1 := IntWalk.i64_in _ (by omega)
      have w3 : IntKind.i64.wrap (p * y) = p * y := IntWalk.i64_in _ (by omega)
      have w4 : IntKind.i64.wrap (s + p * y) = s + p * y := IntWalk.i64_in _ (by omega)
      have hjI : (j : Int) < (n : Int) := by omega
      have hkI : (k : Int) < 4 := by omega
      have hk0 : (0 : Int) ≤ (k : Int) := by omega
      have hj0 : (0 : Int) ≤ (j : Int) := by omega
      have HJJ : Hid (∃ j, wr.drew = W.drewN j) := ⟨jj + 1, by rw [hjj]; rfl⟩
      clear hj hp hy hs hpb hyb hsb hsb2 hpy HJ hjj hbw
      go_wp2
      go_region
      go_wp2
      go_roundw
      case rel => exact ⟨k + 1, by omega, by go_num, by rw [HS.out], HJJ⟩
      case measure => simp [intOf]; omega
    · obtain rfl : k = 4 := by omega
      have BX := Lib.hid (BW.out.trans (hbw.mono BW.out.size))
      clear hjj HJ hbw
      go_wp2
      go_ret2
      exact ⟨by rw [HN.out]; rfl, BX.out⟩

end Go.Proofs.Ytepcciodhppbnaa


namespace Go.Proofs.Ytepcciodhppbnaa
open Go.RowKit

def psum (ws : List Int) : Nat → Int
  | 0 => 0
  | k + 1 => psum ws k + ws.getD k 0
theorem psum_bd {ws : List Int} (h : ∀ x ∈ ws, -4000000 ≤ x ∧ x ≤ 4000000) : ∀ k : Nat, -(4000000 * (k : Int)) ≤ psum ws k ∧ psum ws k ≤ 4000000 * (k : Int)
  | 0 => by simp [psum]
  | k + 1 => by
    have h1 := psum_bd h k
    have h2 := getD_bd (xs := ws) (A := 4000000) (by omega) h k
    show _ ≤ psum ws k + ws.getD k 0 ∧ psum ws k + ws.getD k 0 ≤ _
    omega
theorem psum1 {f : Int} : psum (wts1 f) 2 = 64 := by simp [psum, wts1]
theorem psum3 {f : Int} (h : 0 ≤ f ∧ f ≤ 63) : psum (wts3 f) 4 = 1572864 := by
  obtain ⟨j, rfl⟩ := Int.eq_ofNat_of_zero_le h.1
  have key : ∀ k : Fin 64, psum (wts3 (k.val : Int)) 4 = 1572864 := by decide +kernel
  exact key ⟨j, by omega⟩
theorem oneAt {W W' : World} {g : Nat} {t : TypeId} {cs : Array Value} (h : Bk W g t cs) (hb : Below W.heap.size W W') : Bk W' g t cs := h.later hb

end Go.Proofs.Ytepcciodhppbnaa


namespace Go.Proofs.Ytepcciodhppbnaa
open Go.RowKit

theorem val_bad {d q E : Int} {xs : List Int} {n : Nat} (h : valE d xs q = E) (hE : ¬ E = 0) (hn : n ≤ 1000000) (B : Option Addr) (cb : Nat) (W : World) (hr : RdI W B n xs) :
    Calls Try.prog 57 #[.int .i64 d, .slice B n cb, .int .i64 q] W fun e w' => e = .returned (.tuple #[.int .i64 0, .int .i64 0, .int .i64 E]) ∧ Below W.heap.size W w' := by
  have := ValueAt_any d B n cb xs q W hr hn
  have h1 : valN d xs q = 0 := by unfold valN; rw [h, if_neg hE]
  have h2 : valD d xs q = 0 := by unfold valD; rw [h, if_neg hE]
  rwa [h, h1, h2] at this
theorem pureC {C : World → Prop} (h : ∀ w, C w) : ∀ w, C w := h
theorem shortB_le {n : Nat} (h : shortB n = true) : n ≤ 402 := by
  unfold shortB at h
  have := of_decide_eq_true h
  omega
theorem rw_good1 {f : Int} (hf : 0 ≤ f ∧ f ≤ 63) (W : World) : Calls Try.prog 126 #[.int .i64 1, .int .i64 f] W fun e w' => (∃ A' c', e = .returned (.tuple #[.slice A' 2 c', .int .i64 64]) ∧ RdI w' A' 2 (wts1 f)) ∧ Below W.heap.size W w' := by
  refine (refWeights1_any f W hf).mono ?_
  rintro e w' ⟨rfl, rfl⟩
  exact ⟨⟨_, _, rfl, rd_of_bk (Bk.new _ _ _) rfl⟩, below1 _ _⟩
theorem val_good1 {q : Int} {xs : List Int} {n : Nat} (h : valE 1 xs q = 0) (hn : n ≤ 1000000) (B : Option Addr) (cb : Nat) (W : World) (hr : RdI W B n xs) :
    Calls Try.prog 57 #[.int .i64 1, .slice B n cb, .int .i64 q] W fun e w' => e = .returned (.tuple #[.int .i64 (vnum1 xs q), .int .i64 64, .int .i64 0]) ∧ Below W.heap.size W w' := by
  have := ValueAt_any 1 B n cb xs q W hr hn
  have h1 : valN 1 xs q = vnum1 xs q := by unfold valN; rw [h, if_pos rfl]; rw [if_pos rfl]
  have h2 : valD 1 xs q = 64 := by unfold valD; rw [h, if_pos rfl]; rw [if_pos rfl]
  rwa [h, h1, h2] at this
theorem rw_good3 {f : Int} (hf : 0 ≤ f ∧ f ≤ 63) (W : World) : Calls Try.prog 126 #[.int .i64 3, .int .i64 f] W fun e w' => (∃ A' c', e = .returned (.tuple #[.slice A' 4 c', .int .i64 1572864]) ∧ RdI w' A' 4 (wts3 f)) ∧ Below W.heap.size W w' := by
  refine (refWeights3_any f W hf).mono ?_
  rintro e w' ⟨rfl, rfl⟩
  exact ⟨⟨_, _, rfl, rd_of_bk (Bk.new _ _ _) rfl⟩, below1 _ _⟩
theorem val_good3 {q : Int} {xs : List Int} {n : Nat} (h : valE 3 xs q = 0) (hn : n ≤ 1000000) (B : Option Addr) (cb : Nat) (W : World) (hr : RdI W B n xs) :
    Calls Try.prog 57 #[.int .i64 3, .slice B n cb, .int .i64 q] W fun e w' => e = .returned (.tuple #[.int .i64 (vnum3 xs q), .int .i64 1572864, .int .i64 0]) ∧ Below W.heap.size W w' := by
  have := ValueAt_any 3 B n cb xs q W hr hn
  have h1 : valN 3 xs q = vnum3 xs q := by unfold valN; rw [h, if_pos rfl]; rw [if_neg (by decide)]
  have h2 : valD 3 xs q = 1572864 := by unfold valD; rw [h, if_pos rfl]; rw [if_neg (by decide)]
  rwa [h, h1, h2] at this
end Go.Proofs.Ytepcciodhppbnaa

