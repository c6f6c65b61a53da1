import Derived.Test.YtnieajfofbidmaaE28

namespace Go.Proofs.Ytnieajfofbidmaa
open Go.RowKit

def psum (ws : List Int) : Nat → Int
  | 0 => 0
  | k + 1 => psum ws k + ws.getD k 0
theorem psum_bd {ws : List Int} (h : ∀ x ∈ ws, -4000000 ≤ x ∧ x ≤ 4000000) : ∀ k : Nat, -(4000000 * (k : Int)) ≤ psum ws k ∧ psum ws k ≤ 4000000 * (k : Int)
  | 0 => by simp [psum]
  | k + 1 => by
    have h1 := psum_bd h k
    have h2 := getD_bd (xs := ws) (A := 4000000) (by omega) h k
    show _ ≤ psum ws k + ws.getD k 0 ∧ psum ws k + ws.getD k 0 ≤ _
    omega
theorem psum1 {f : Int} : psum (wts1 f) 2 = 64 := by simp [psum, wts1]
theorem psum3 {f : Int} (h : 0 ≤ f ∧ f ≤ 63) : psum (wts3 f) 4 = 1572864 := by
  obtain ⟨j, rfl⟩ := Int.eq_ofNat_of_zero_le h.1
  have key : ∀ k : Fin 64, psum (wts3 (k.val : Int)) 4 = 1572864 := by decide +kernel
  exact key ⟨j, by omega⟩
theorem oneAt {W W' : World} {g : Nat} {t : TypeId} {cs : Array Value} (h : Bk W g t cs) (hb : Below W.heap.size W W') : Bk W' g t cs := h.later hb

set_option maxRecDepth 100000 in
set_option maxHeartbeats 4000000 in
theorem wtw_deg (x0 x1 x2 : Int) (A : Option Addr) (n c : Nat) (xs : List Int) (w : World) (D : Int) (hD : ¬ D = 0) (hr : RdI w A n xs) (hn : n ≤ 402) (hsh : shortB n = true) (hA : A = none → n = 0 ∧ c = 0)
    (CWt : ∀ W, Calls Try.prog 57 #[.int .i64 x0, .int .i64 x1] W fun e w' => (∃ A' c', e = .returned (.tuple #[.slice A' 0 c', .int .i64 0, .int .i64 D]) ∧ RdI w' A' 0 []) ∧ Below W.heap.size W w')
    (CV : ∀ B cb W, RdI W B n xs → Calls Try.prog 58 #[.int .i64 x0, .slice B n cb, .int .i64 x2] W fun e w' => e = .returned (.tuple #[.int .i64 0, .int .i64 0, .int .i64 D]) ∧ Below W.heap.size W w')
    (CD : ∀ W, Calls Try.prog 53 #[.int .i64 x0] W fun e w' => e = .returned (.int .i64 D) ∧ W = w')
    : Calls Try.prog 11 #[.agg #[.int .i64 x0, .int .i64 x1, .int .i64 x2], .slice A n c] w fun e w' => e = .returned (.bool true) ∧ Below w.heap.size w w' := by
  have HR := Lib.hid hr
  have CC : Hid (∀ W, Below w.heap.size w W → Calls Try.prog 25 #[.slice A n c] W (OwnS W xs)) := fun W hb => copyInts_any A n c xs W hA (hr.below hb) (by omega)
  have CSh := Lib.hid (fun W => short_any A n c W (by omega))
  rw [hsh] at CSh
  have CWt := Lib.hid CWt
  have CV := Lib.hid CV
  have CD := Lib.hid CD
  have dD0 : (D == 0) = false := by rw [beq_eq_false_iff_ne]; exact hD
  have dD1 : (D != 0) = true := by rw [bne_iff_ne]; exact hD
  clear hr hsh hA
  have w1n : IntKind.i64.wrap ((n : Int) - 1) = (n : Int) - 1 := IntWalk.i64_in _ (by omega)
  have w2n : IntKind.i64.wrap (64 * ((n : Int) - 1)) = 64 * ((n : Int) - 1) := IntWalk.i64_in _ (by omega)
  have K0 := Lib.hid (Bk.new w 78 #[.int .i64 x0, .int .i64 x1, .int .i64 x2])
  have B0 := Lib.hid (below1 w (.cells #[.int .i64 x0, .int .i64 x1, .int .i64 x2] 78))
  go_enter Try.func11, Try.ntmps11
  go_wp2_with fail
  refine (awake_any _).mono ?_
  rintro e w1 ⟨rfl, hb⟩
  have K1 := Lib.hid (K0.out.later hb)
  have B1 := Lib.hid (B0.out.trans (hb.mono B0.out.size))
  clear hb K0 B0
  go_wp2_with fail
  refine (CSh.out _).mono ?_
  rintro e w' ⟨rfl, rfl⟩
  obtain ⟨d0, d1, d2⟩ := bk3 K1.out
  go_wp2_with fail
  refine (CWt.out _).mono ?_
  rintro e w2 ⟨⟨A2, c2, rfl, hr2⟩, hb⟩
  have K2 := Lib.hid (K1.out.later hb)
  have B2 := Lib.hid (B1.out.trans (hb.mono B1.out.size))
  have RS2 := Lib.hid hr2
  clear hb hr2 K1 B1 d0 d1 d2 CWt
  obtain ⟨d0, d1, d2⟩ := bk3 K2.out
  go_wp2
  go_region_held3 (fun w' : World => w'.cell? ⟨w.heap.size, 0, none⟩ = some (.int .i64 x0) ∧ w'.cell? ⟨w.heap.size, 1, none⟩ = some (.int .i64 x1) ∧ w'.cell? ⟨w.heap.size, 2, none⟩ = some (.int .i64 x2)) ((go_split_ands; simp [go_sem, *])) (first
    | (go_at_call 25; refine (CC.out _ B2.out.drew).mono ?_; rintro e w3 ⟨⟨v3, rfl, hrow3⟩, hb3⟩; obtain ⟨A3, c3, rfl, _, hr3⟩ := rd_of_own hrow3; have hxl := HR.out.1; rw [hxl] at hr3 ⊢; have K3 := (K2.out.drew).later hb3; obtain ⟨d0, d1, d2⟩ := bk3 K3)
    | (go_at_call 58; refine (CV.out A3 c3 _ hr3).mono ?_; rintro e w4 ⟨rfl, hb4⟩; have K4 := K3.later hb4; obtain ⟨d0, d1, d2⟩ := bk3 K4))
  all_goals
    have K4 := Lib.hid K4
    have B4 := Lib.hid ((B2.out.drew.trans (hb3.mono B2.out.drew.size)).trans (hb4.mono (Nat.le_trans B2.out.drew.size hb3.size)))
    have RS4 := Lib.hid ((RS2.out.drew.below hb3).below hb4)
    clear hb3 hb4 K2 B2 RS2 CV CC K3 hr3 hrow3 hxl
    clear d0 d1 d2
    obtain ⟨d0, d1, d2⟩ := bk3 K4.out
    go_wp2_with fail
    refine (CD.out _).mono ?_
    rintro e w' ⟨rfl, rfl⟩
    go_wp2
    go_ret
    exact ⟨by simp, B4.out⟩

set_option maxRecDepth 100000 in
set_option maxHeartbeats 4000000 in
theorem wtw_frc_sig (x0 x1 x2 : Int) (A : Option Addr) (n c : Nat) (xs : List Int) (w : World) (Fr : Int) (hFr : ¬ Fr = 0) (Sg : Int) (hSg : ¬ Sg = 0) (hr : RdI w A n xs) (hn : n ≤ 402) (hsh : shortB n = true) (hA : A = none → n = 0 ∧ c = 0)
    (CWt : ∀ W, Calls Try.prog 57 #[.int .i64 x0, .int .i64 x1] W fun e w' => (∃ A' c', e = .returned (.tuple #[.slice A' 0 c', .int .i64 0, .int .i64 Fr]) ∧ RdI w' A' 0 []) ∧ Below W.heap.size W w')
    (CV : ∀ B cb W, RdI W B n xs → Calls Try.prog 58 #[.int .i64 x0, .slice B n cb, .int .i64 x2] W fun e w' => e = .returned (.tuple #[.int .i64 0, .int .i64 0, .int .i64 Sg]) ∧ Below W.heap.size W w')
    (CD : ∀ W, Calls Try.prog 53 #[.int .i64 x0] W fun e w' => e = .returned (.int .i64 0) ∧ W = w')
    (CF : ∀ W, Calls Try.prog 55 #[.int .i64 x1] W fun e w' => e = .returned (.int .i64 Fr) ∧ W = w')
    (CSg : ∀ W, RdI W A n xs → Calls Try.prog 31 #[.slice A n c] W fun e w' => e = .returned (.int .i64 Sg) ∧ W = w')
    : Calls Try.prog 11 #[.agg #[.int .i64 x0, .int .i64 x1, .int .i64 x2], .slice A n c] w fun e w' => e = .returned (.bool true) ∧ Below w.heap.size w w' := by
  have HR := Lib.hid hr
  have CC : Hid (∀ W, Below w.heap.size w W → Calls Try.prog 25 #[.slice A n c] W (OwnS W xs)) := fun W hb => copyInts_any A n c xs W hA (hr.below hb) (by omega)
  have CSh := Lib.hid (fun W => short_any A n c W (by omega))
  rw [hsh] at CSh
  have CWt := Lib.hid CWt
  have CV := Lib.hid CV
  have CD := Lib.hid CD
  have CF := Lib.hid CF
  have CSg := Lib.hid CSg
  have dF0 : (Fr == 0) = false := by rw [beq_eq_false_iff_ne]; exact hFr
  have dF1 : (Fr != 0) = true := by rw [bne_iff_ne]; exact hFr
  have dS0 : (Sg == 0) = false := by rw [beq_eq_false_iff_ne]; exact hSg
  have dS1 : (Sg != 0) = true := by rw [bne_iff_ne]; exact hSg
  clear hr hsh hA
  have w1n : IntKind.i64.wrap ((n : Int) - 1) = (n : Int) - 1 := IntWalk.i64_in _ (by omega)
  have w2n : IntKind.i64.wrap (64 * ((n : Int) - 1)) = 64 * ((n : Int) - 1) := IntWalk.i64_in _ (by omega)
  have K0 := Lib.hid (Bk.new w 78 #[.int .i64 x0, .int .i64 x1, .int .i64 x2])
  have B0 := Lib.hid (below1 w (.cells #[.int .i64 x0, .int .i64 x1, .int .i64 x2] 78))
  go_enter Try.func11, Try.ntmps11
  go_wp2_with fail
  refine (awake_any _).mono ?_
  rintro e w1 ⟨rfl, hb⟩
  have K1 := Lib.hid (K0.out.later hb)
  have B1 := Lib.hid (B0.out.trans (hb.mono B0.out.size))
  clear hb K0 B0
  go_wp2_with fail
  refine (CSh.out _).mono ?_
  rintro e w' ⟨rfl, rfl⟩
  obtain ⟨d0, d1, d2⟩ := bk3 K1.out
  go_wp2_with fail
  refine (CWt.out _).mono ?_
  rintro e w2 ⟨⟨A2, c2, rfl, hr2⟩, hb⟩
  have K2 := Lib.hid (K1.out.later hb)
  have B2 := Lib.hid (B1.out.trans (hb.mono B1.out.size))
  have RS2 := Lib.hid hr2
  clear hb hr2 K1 B1 d0 d1 d2 CWt
  obtain ⟨d0, d1, d2⟩ := bk3 K2.out
  go_wp2
  go_region_held3 (fun w' : World => w'.cell? ⟨w.heap.size, 0, none⟩ = some (.int .i64 x0) ∧ w'.cell? ⟨w.heap.size, 1, none⟩ = some (.int .i64 x1) ∧ w'.cell? ⟨w.heap.size, 2, none⟩ = some (.int .i64 x2)) ((go_split_ands; simp [go_sem, *])) (first
    | (go_at_call 25; refine (CC.out _ B2.out.drew).mono ?_; rintro e w3 ⟨⟨v3, rfl, hrow3⟩, hb3⟩; obtain ⟨A3, c3, rfl, _, hr3⟩ := rd_of_own hrow3; have hxl := HR.out.1; rw [hxl] at hr3 ⊢; have K3 := (K2.out.drew).later hb3; obtain ⟨d0, d1, d2⟩ := bk3 K3)
    | (go_at_call 58; refine (CV.out A3 c3 _ hr3).mono ?_; rintro e w4 ⟨rfl, hb4⟩; have K4 := K3.later hb4; obtain ⟨d0, d1, d2⟩ := bk3 K4))
  all_goals
    have K4 := Lib.hid K4
    have B4 := Lib.hid ((B2.out.drew.trans (hb3.mono B2.out.drew.size)).trans (hb4.mono (Nat.le_trans B2.out.drew.size hb3.size)))
    have RS4 := Lib.hid ((RS2.out.drew.below hb3).below hb4)
    clear hb3 hb4 K2 B2 RS2 CV CC K3 hr3 hrow3 hxl
    clear d0 d1 d2
    obtain ⟨d0, d1, d2⟩ := bk3 K4.out
    go_wp2_with fail
    refine (CD.out _).mono ?_
    rintro e w' ⟨rfl, rfl⟩
    go_wp2_with fail
    refine (CF.out _).mono ?_
    rintro e w' ⟨rfl, rfl⟩
    go_wp2_with fail
    refine (CSg.out _ (HR.out.below B4.out)).mono ?_
    rintro e w' ⟨rfl, rfl⟩
    go_wp2
    go_ret
    exact ⟨by simp, B4.out⟩

set_option maxRecDepth 100000 in
set_option maxHeartbeats 4000000 in
theorem wtw_frc_rng (x0 x1 x2 : Int) (A : Option Addr) (n c : Nat) (xs : List Int) (w : World) (Fr : Int) (hFr : ¬ Fr = 0) (hr : RdI w A n xs) (hn : n ≤ 402) (hsh : shortB n = true) (hA : A = none → n = 0 ∧ c = 0)
    (CWt : ∀ W, Calls Try.prog 57 #[.int .i64 x0, .int .i64 x1] W fun e w' => (∃ A' c', e = .returned (.tuple #[.slice A' 0 c', .int .i64 0, .int .i64 Fr]) ∧ RdI w' A' 0 []) ∧ Below W.heap.size W w')
    (CV : ∀ B cb W, RdI W B n xs → Calls Try.prog 58 #[.int .i64 x0, .slice B n cb, .int .i64 x2] W fun e w' => e = .returned (.tuple #[.int .i64 0, .int .i64 0, .int .i64 2]) ∧ Below W.heap.size W w')
    (CD : ∀ W, Calls Try.prog 53 #[.int .i64 x0] W fun e w' => e = .returned (.int .i64 0) ∧ W = w')
    (CF : ∀ W, Calls Try.prog 55 #[.int .i64 x1] W fun e w' => e = .returned (.int .i64 Fr) ∧ W = w')
    (CSg : ∀ W, RdI W A n xs → Calls Try.prog 31 #[.slice A n c] W fun e w' => e = .returned (.int .i64 0) ∧ W = w')
    (CWi : ∀ W, Calls Try.prog 20 #[.int .i64 x2, .int .i64 0, .int .i64 (64 * ((n : Int) - 1))] W fun e w' => e = .returned (.bool false) ∧ W = w')
    : Calls Try.prog 11 #[.agg #[.int .i64 x0, .int .i64 x1, .int .i64 x2], .slice A n c] w fun e w' => e = .returned (.bool true) ∧ Below w.heap.size w w' := by
  have HR := Lib.hid hr
  have CC : Hid (∀ W, Below w.heap.size w W → Calls Try.prog 25 #[.slice A n c] W (OwnS W xs)) := fun W hb => copyInts_any A n c xs W hA (hr.below hb) (by omega)
  have CSh := Lib.hid (fun W => short_any A n c W (by omega))
  rw [hsh] at CSh
  have CWt := Lib.hid CWt
  have CV := Lib.hid CV
  have CD := Lib.hid CD
  have CF := Lib.hid CF
  have CSg := Lib.hid CSg
  have CWi := Lib.hid CWi
  have dF0 : (Fr == 0) = false := by rw [beq_eq_false_iff_ne]; exact hFr
  have dF1 : (Fr != 0) = true := by rw [bne_iff_ne]; exact hFr
  clear hr hsh hA
  have w1n : IntKind.i64.wrap ((n : Int) - 1) = (n : Int) - 1 := IntWalk.i64_in _ (by omega)
  have w2n : IntKind.i64.wrap (64 * ((n : Int) - 1)) = 64 * ((n : Int) - 1) := IntWalk.i64_in _ (by omega)
  have K0 := Lib.hid (Bk.new w 78 #[.int .i64 x0, .int .i64 x1, .int .i64 x2])
  have B0 := Lib.hid (below1 w (.cells #[.int .i64 x0, .int .i64 x1, .int .i64 x2] 78))
  go_enter Try.func11, Try.ntmps11
  go_wp2_with fail
  refine (awake_any _).mono ?_
  rintro e w1 ⟨rfl, hb⟩
  have K1 := Lib.hid (K0.out.later hb)
  have B1 := Lib.hid (B0.out.trans (hb.mono B0.out.size))
  clear hb K0 B0
  go_wp2_with fail
  refine (CSh.out _).mono ?_
  rintro e w' ⟨rfl, rfl⟩
  obtain ⟨d0, d1, d2⟩ := bk3 K1.out
  go_wp2_with fail
  refine (CWt.out _).mono ?_
  rintro e w2 ⟨⟨A2, c2, rfl, hr2⟩, hb⟩
  have K2 := Lib.hid (K1.out.later hb)
  have B2 := Lib.hid (B1.out.trans (hb.mono B1.out.size))
  have RS2 := Lib.hid hr2
  clear hb hr2 K1 B1 d0 d1 d2 CWt
  obtain ⟨d0, d1, d2⟩ := bk3 K2.out
  go_wp2
  go_region_held3 (fun w' : World => w'.cell? ⟨w.heap.size, 0, none⟩ = some (.int .i64 x0) ∧ w'.cell? ⟨w.heap.size, 1, none⟩ = some (.int .i64 x1) ∧ w'.cell? ⟨w.heap.size, 2, none⟩ = some (.int .i64 x2)) ((go_split_ands; simp [go_sem, *])) (first
    | (go_at_call 25; refine (CC.out _ B2.out.drew).mono ?_; rintro e w3 ⟨⟨v3, rfl, hrow3⟩, hb3⟩; obtain ⟨A3, c3, rfl, _, hr3⟩ := rd_of_own hrow3; have hxl := HR.out.1; rw [hxl] at hr3 ⊢; have K3 := (K2.out.drew).later hb3; obtain ⟨d0, d1, d2⟩ := bk3 K3)
    | (go_at_call 58; refine (CV.out A3 c3 _ hr3).mono ?_; rintro e w4 ⟨rfl, hb4⟩; have K4 := K3.later hb4; obtain ⟨d0, d1, d2⟩ := bk3 K4))
  all_goals
    have K4 := Lib.hid K4
    have B4 := Lib.hid ((B2.out.drew.trans (hb3.mono B2.out.drew.size)).trans (hb4.mono (Nat.le_trans B2.out.drew.size hb3.size)))
    have RS4 := Lib.hid ((RS2.out.drew.below hb3).below hb4)
    clear hb3 hb4 K2 B2 RS2 CV CC K3 hr3 hrow3 hxl
    clear d0 d1 d2
    obtain ⟨d0, d1, d2⟩ := bk3 K4.out
    go_wp2_with fail
    refine (CD.out _).mono ?_
    rintro e w' ⟨rfl, rfl⟩
    go_wp2_with fail
    refine (CF.out _).mono ?_
    rintro e w' ⟨rfl, rfl⟩
    go_wp2_with fail
    refine (CSg.out _ (HR.out.below B4.out)).mono ?_
    rintro e w' ⟨rfl, rfl⟩
    go_wp2_with fail
    refine (CWi.out _).mono ?_
    rintro e w' ⟨rfl, rfl⟩
    go_wp2
    go_ret
    exact ⟨by simp, B4.out⟩

set_option maxRecDepth 100000 in
set_option maxHeartbeats 4000000 in
theorem wtw_frc_good (x0 x1 x2 : Int) (A : Option Addr) (n c : Nat) (xs : List Int) (w : World) (Fr : Int) (hFr : ¬ Fr = 0) (N V : Int) (hr : RdI w A n xs) (hn : n ≤ 402) (hsh : shortB n = true) (hA : A = none → n = 0 ∧ c = 0)
    (CWt : ∀ W, Calls Try.prog 57 #[.int .i64 x0, .int .i64 x1] W fun e w' => (∃ A' c', e = .returned (.tuple #[.slice A' 0 c', .int .i64 0, .int .i64 Fr]) ∧ RdI w' A' 0 []) ∧ Below W.heap.size W w')
    (CV : ∀ B cb W, RdI W B n xs → Calls Try.prog 58 #[.int .i64 x0, .slice B n cb, .int .i64 x2] W fun e w' => e = .returned (.tuple #[.int .i64 N, .int .i64 V, .int .i64 0]) ∧ Below W.heap.size W w')
    (CD : ∀ W, Calls Try.prog 53 #[.int .i64 x0] W fun e w' => e = .returned (.int .i64 0) ∧ W = w')
    (CF : ∀ W, Calls Try.prog 55 #[.int .i64 x1] W fun e w' => e = .returned (.int .i64 Fr) ∧ W = w')
    (CSg : ∀ W, RdI W A n xs → Calls Try.prog 31 #[.slice A n c] W fun e w' => e = .returned (.int .i64 0) ∧ W = w')
    (CWi : ∀ W, Calls Try.prog 20 #[.int .i64 x2, .int .i64 0, .int .i64 (64 * ((n : Int) - 1))] W fun e w' => e = .returned (.bool true) ∧ W = w')
    (CRV : ∀ W, RdI W A n xs → Calls Try.prog 60 #[.int .i64 x0, .slice A n c, .int .i64 x2] W fun e w' => e = .returned (.tuple #[.int .i64 N, .int .i64 V]) ∧ Below W.heap.size W w')
    : Calls Try.prog 11 #[.agg #[.int .i64 x0, .int .i64 x1, .int .i64 x2], .slice A n c] w fun e w' => e = .returned (.bool true) ∧ Below w.heap.size w w' := by
  have HR := Lib.hid hr
  have CC : Hid (∀ W, Below w.heap.size w W → Calls Try.prog 25 #[.slice A n c] W (OwnS W xs)) := fun W hb => copyInts_any A n c xs W hA (hr.below hb) (by omega)
  have CSh := Lib.hid (fun W => short_any A n c W (by omega))
  rw [hsh] at CSh
  have CWt := Lib.hid CWt
  have CV := Lib.hid CV
  have CD := Lib.hid CD
  have CF := Lib.hid CF
  have CSg := Lib.hid CSg
  have CWi := Lib.hid CWi
  have CRV := Lib.hid CRV
  have dF0 : (Fr == 0) = false := by rw [beq_eq_false_iff_ne]; exact hFr
  have dF1 : (Fr != 0) = true := by rw [bne_iff_ne]; exact hFr
  clear hr hsh hA
  have w1n : IntKind.i64.wrap ((n : Int) - 1) = (n : Int) - 1 := IntWalk.i64_in _ (by omega)
  have w2n : IntKind.i64.wrap (64 * ((n : Int) - 1)) = 64 * ((n : Int) - 1) := IntWalk.i64_in _ (by omega)
  have K0 := Lib.hid (Bk.new w 78 #[.int .i64 x0, .int .i64 x1, .int .i64 x2])
  have B0 := Lib.hid (below1 w (.cells #[.int .i64 x0, .int .i64 x1, .int .i64 x2] 78))
  go_enter Try.func11, Try.ntmps11
  go_wp2_with fail
  refine (awake_any _).mono ?_
  rintro e w1 ⟨rfl, hb⟩
  have K1 := Lib.hid (K0.out.later hb)
  have B1 := Lib.hid (B0.out.trans (hb.mono B0.out.size))
  clear hb K0 B0
  go_wp2_with fail
  refine (CSh.out _).mono ?_
  rintro e w' ⟨rfl, rfl⟩
  obtain ⟨d0, d1, d2⟩ := bk3 K1.out
  go_wp2_with fail
  refine (CWt.out _).mono ?_
  rintro e w2 ⟨⟨A2, c2, rfl, hr2⟩, hb⟩
  have K2 := Lib.hid (K1.out.later hb)
  have B2 := Lib.hid (B1.out.trans (hb.mono B1.out.size))
  have RS2 := Lib.hid hr2
  clear hb hr2 K1 B1 d0 d1 d2 CWt
  obtain ⟨d0, d1, d2⟩ := bk3 K2.out
  go_wp2
  go_region_held3 (fun w' : World => w'.cell? ⟨w.heap.size, 0, none⟩ = some (.int .i64 x0) ∧ w'.cell? ⟨w.heap.size, 1, none⟩ = some (.int .i64 x1) ∧ w'.cell? ⟨w.heap.size, 2, none⟩ = some (.int .i64 x2)) ((go_split_ands; simp [go_sem, *])) (first
    | (go_at_call 25; refine (CC.out _ B2.out.drew).mono ?_; rintro e w3 ⟨⟨v3, rfl, hrow3⟩, hb3⟩; obtain ⟨A3, c3, rfl, _, hr3⟩ := rd_of_own hrow3; have hxl := HR.out.1; rw [hxl] at hr3 ⊢; have K3 := (K2.out.drew).later hb3; obtain ⟨d0, d1, d2⟩ := bk3 K3)
    | (go_at_call 58; refine (CV.out A3 c3 _ hr3).mono ?_; rintro e w4 ⟨rfl, hb4⟩; have K4 := K3.later hb4; obtain ⟨d0, d1, d2⟩ := bk3 K4))
  all_goals
    have K4 := Lib.hid K4
    have B4 := Lib.hid ((B2.out.drew.trans (hb3.mono B2.out.drew.size)).trans (hb4.mono (Nat.le_trans B2.out.drew.size hb3.size)))
    have RS4 := Lib.hid ((RS2.out.drew.below hb3).below hb4)
    clear hb3 hb4 K2 B2 RS2 CV CC K3 hr3 hrow3 hxl
    clear d0 d1 d2
    obtain ⟨d0, d1, d2⟩ := bk3 K4.out
    go_wp2_with fail
    refine (CD.out _).mono ?_
    rintro e w' ⟨rfl, rfl⟩
    go_wp2_with fail
    refine (CF.out _).mono ?_
    rintro e w' ⟨rfl, rfl⟩
    go_wp2_with fail
    refine (CSg.out _ (HR.out.below B4.out)).mono ?_
    rintro e w' ⟨rfl, rfl⟩
    go_wp2_with fail
    refine (CWi.out _).mono ?_
    rintro e w' ⟨rfl, rfl⟩
    go_wp2_with fail
    refine (CRV.out _ (HR.out.below B4.out)).mono ?_
    rintro e w7 ⟨rfl, hb⟩
    have B7 := Lib.hid (B4.out.trans (hb.mono B4.out.size))
    clear hb
    go_wp2
    go_ret
    exact ⟨by simp, B7.out⟩

set_option maxRecDepth 100000 in
set_option maxHeartbeats 4000000 in
theorem wtw_good_sig (x0 x1 x2 : Int) (A : Option Addr) (n c : Nat) (xs : List Int) (w : World) (m : Nat) (den : Int) (ws : List Int) (hm : m ≤ 4) (hws : ∀ x ∈ ws, -4000000 ≤ x ∧ x ≤ 4000000) (hps : psum ws m = den) (Sg : Int) (hSg : ¬ Sg = 0) (hr : RdI w A n xs) (hn : n ≤ 402) (hsh : shortB n = true) (hA : A = none → n = 0 ∧ c = 0)
    (CWt : ∀ W, Calls Try.prog 57 #[.int .i64 x0, .int .i64 x1] W fun e w' => (∃ A' c', e = .returned (.tuple #[.slice A' m c', .int .i64 den, .int .i64 0]) ∧ RdI w' A' m ws) ∧ Below W.heap.size W w')
    (CV : ∀ B cb W, RdI W B n xs → Calls Try.prog 58 #[.int .i64 x0, .slice B n cb, .int .i64 x2] W fun e w' => e = .returned (.tuple #[.int .i64 0, .int .i64 0, .int .i64 Sg]) ∧ Below W.heap.size W w')
    (CD : ∀ W, Calls Try.prog 53 #[.int .i64 x0] W fun e w' => e = .returned (.int .i64 0) ∧ W = w')
    (CF : ∀ W, Calls Try.prog 55 #[.int .i64 x1] W fun e w' => e = .returned (.int .i64 0) ∧ W = w')
    (CRW : ∀ W, Calls Try.prog 59 #[.int .i64 x0, .int .i64 x1] W fun e w' => (∃ A' c', e = .returned (.tuple #[.slice A' m c', .int .i64 den]) ∧ RdI w' A' m ws) ∧ Below W.heap.size W w')
    (CSg : ∀ W, RdI W A n xs → Calls Try.prog 31 #[.slice A n c] W fun e w' => e = .returned (.int .i64 Sg) ∧ W = w')
    : Calls Try.prog 11 #[.agg #[.int .i64 x0, .int .i64 x1, .int .i64 x2], .slice A n c] w fun e w' => e = .returned (.bool true) ∧ Below w.heap.size w w' := by
  have HR := Lib.hid hr
  have CC : Hid (∀ W, Below w.heap.size w W → Calls Try.prog 25 #[.slice A n c] W (OwnS W xs)) := fun W hb => copyInts_any A n c xs W hA (hr.below hb) (by omega)
  have CSh := Lib.hid (fun W => short_any A n c W (by omega))
  rw [hsh] at CSh
  have CWt := Lib.hid CWt
  have CV := Lib.hid CV
  have CD := Lib.hid CD
  have CF := Lib.hid CF
  have CRW := Lib.hid CRW
  have CSg := Lib.hid CSg
  have dS0 : (Sg == 0) = false := by rw [beq_eq_false_iff_ne]; exact hSg
  have dS1 : (Sg != 0) = true := by rw [bne_iff_ne]; exact hSg
  have HPB := Lib.hid (psum_bd hws)
  have HPS := Lib.hid hps
  have HWG : Hid (∀ k, -4000000 ≤ ws.getD k 0 ∧ ws.getD k 0 ≤ 4000000) := fun k => getD_bd (by omega) hws k
  clear hws hps
  clear hr hsh hA
  have w1n : IntKind.i64.wrap ((n : Int) - 1) = (n : Int) - 1 := IntWalk.i64_in _ (by omega)
  have w2n : IntKind.i64.wrap (64 * ((n : Int) - 1)) = 64 * ((n : Int) - 1) := IntWalk.i64_in _ (by omega)
  have K0 := Lib.hid (Bk.new w 78 #[.int .i64 x0, .int .i64 x1, .int .i64 x2])
  have B0 := Lib.hid (below1 w (.cells #[.int .i64 x0, .int .i64 x1, .int .i64 x2] 78))
  go_enter Try.func11, Try.ntmps11
  go_wp2_with fail
  refine (awake_any _).mono ?_
  rintro e w1 ⟨rfl, hb⟩
  have K1 := Lib.hid (K0.out.later hb)
  have B1 := Lib.hid (B0.out.trans (hb.mono B0.out.size))
  clear hb K0 B0
  go_wp2_with fail
  refine (CSh.out _).mono ?_
  rintro e w' ⟨rfl, rfl⟩
  obtain ⟨d0, d1, d2⟩ := bk3 K1.out
  go_wp2_with fail
  refine (CWt.out _).mono ?_
  rintro e w2 ⟨⟨A2, c2, rfl, hr2⟩, hb⟩
  have K2 := Lib.hid (K1.out.later hb)
  have B2 := Lib.hid (B1.out.trans (hb.mono B1.out.size))
  have RS2 := Lib.hid hr2
  clear hb hr2 K1 B1 d0 d1 d2 CWt
  obtain ⟨d0, d1, d2⟩ := bk3 K2.out
  go_wp2
  go_region_held3 (fun w' : World => w'.cell? ⟨w.heap.size, 0, none⟩ = some (.int .i64 x0) ∧ w'.cell? ⟨w.heap.size, 1, none⟩ = some (.int .i64 x1) ∧ w'.cell? ⟨w.heap.size, 2, none⟩ = some (.int .i64 x2)) ((go_split_ands; simp [go_sem, *])) (first
    | (go_at_call 25; refine (CC.out _ B2.out.drew).mono ?_; rintro e w3 ⟨⟨v3, rfl, hrow3⟩, hb3⟩; obtain ⟨A3, c3, rfl, _, hr3⟩ := rd_of_own hrow3; have hxl := HR.out.1; rw [hxl] at hr3 ⊢; have K3 := (K2.out.drew).later hb3; obtain ⟨d0, d1, d2⟩ := bk3 K3)
    | (go_at_call 58; refine (CV.out A3 c3 _ hr3).mono ?_; rintro e w4 ⟨rfl, hb4⟩; have K4 := K3.later hb4; obtain ⟨d0, d1, d2⟩ := bk3 K4))
  all_goals
    have K4 := Lib.hid K4
    have B4 := Lib.hid ((B2.out.drew.trans (hb3.mono B2.out.drew.size)).trans (hb4.mono (Nat.le_trans B2.out.drew.size hb3.size)))
    have RS4 := Lib.hid ((RS2.out.drew.below hb3).below hb4)
    clear hb3 hb4 K2 B2 RS2 CV CC K3 hr3 hrow3 hxl
    clear d0 d1 d2
    obtain ⟨d0, d1, d2⟩ := bk3 K4.out
    go_wp2_with fail
    refine (CD.out _).mono ?_
    rintro e w' ⟨rfl, rfl⟩
    go_wp2_with fail
    refine (CF.out _).mono ?_
    rintro e w' ⟨rfl, rfl⟩
    go_wp2_with fail
    refine (CRW.out _).mono ?_
    rintro e w5 ⟨⟨A5, c5, rfl, hr5⟩, hb⟩
    have K5 := Lib.hid (K4.out.later hb)
    have B5 := Lib.hid (B4.out.trans (hb.mono B4.out.size))
    have RS5 := Lib.hid (RS4.out.below hb)
    have RQ5 := Lib.hid hr5
    clear hb hr5 K4 B4 RS4 d0 d1 d2 CRW
    have CI : Hid (Calls Try.prog 29 #[.slice A2 m c2, .slice A5 m c5] w5 fun e w' => e = .returned (.bool true) ∧ ∃ k, w' = w5.drewN k) := Lib.hid (by simpa using ints_any A2 A5 m m c2 c5 ws ws w5 RS5.out RQ5.out (by omega) (by omega))
    go_wp2_with fail
    refine CI.out.mono ?_
    rintro e w' ⟨rfl, kk, rfl⟩
    have K6 := Lib.hid (K5.out.drewN kk)
    have B6 := Lib.hid (belowDrewN B5.out kk)
    have RS6 := Lib.hid (RS5.out.below (belowDrewN (Below.refl _ _) kk))
    clear K5 B5 RS5 RQ5 CI
    obtain ⟨w6, hw6⟩ : ∃ W, w5.drewN kk = W := ⟨_, rfl⟩
    rw [hw6] at K6 B6 RS6 ⊢
    clear hw6
    obtain ⟨d0, d1, d2⟩ := bk3 K6.out
    go_wp2
    go_loop [15, 16] (fun s i => ∃ k : Nat, k ≤ m ∧ i = .int .i64 k ∧ s = .int .i64 (psum ws k)) (fun _ i => m - (intOf i).toNat)
    case atStart => exact ⟨0, Nat.zero_le _, rfl, rfl⟩
    case round =>
      obtain ⟨k, hk, rfl, rfl⟩ := hrel
      by_cases hlt : k < m
      · obtain ⟨ad, ha, _, hc⟩ := RS6.out.2 (by omega)
        have hck := hc k hlt
        clear hc
        subst ha
        have h1 := HPB.out k
        have h2 := HWG.out k
        have HS : Hid (psum ws (k + 1) = psum ws k + ws.getD k 0) := rfl
        obtain ⟨y, hy⟩ : ∃ y, ws.getD k 0 = y := ⟨_, rfl⟩
        obtain ⟨s, hs⟩ : ∃ s, psum ws k = s := ⟨_, rfl⟩
        rw [hy] at hck h2 HS
        rw [hs] at h1 HS ⊢
        have hwp : IntKind.i64.wrap (s + y) = s + y := IntWalk.i64_in _ (by omega)
        have hkI : (k : Int) < (m : Int) := by omega
        have hk0 : (0 : Int) ≤ (k : Int) := by omega
        clear hy hs h1 h2
        go_wp2
        go_round
        case rel => exact ⟨k + 1, by omega, by go_num, by rw [HS.out]⟩
        case measure => simp [intOf]; omega
      · obtain rfl : m = k := by omega
        have hps := HPS.out
        rw [hps]
        clear hps
        go_wp2_with fail
        refine (CSg.out _ (HR.out.below B6.out)).mono ?_
        rintro e w' ⟨rfl, rfl⟩
        go_wp2
        go_ret
        exact ⟨by simp, B6.out⟩

set_option maxRecDepth 100000 in
set_option maxHeartbeats 4000000 in
theorem wtw_good_rng (x0 x1 x2 : Int) (A : Option Addr) (n c : Nat) (xs : List Int) (w : World) (m : Nat) (den : Int) (ws : List Int) (hm : m ≤ 4) (hws : ∀ x ∈ ws, -4000000 ≤ x ∧ x ≤ 4000000) (hps : psum ws m = den) (hr : RdI w A n xs) (hn : n ≤ 402) (hsh : shortB n = true) (hA : A = none → n = 0 ∧ c = 0)
    (CWt : ∀ W, Calls Try.prog 57 #[.int .i64 x0, .int .i64 x1] W fun e w' => (∃ A' c', e = .returned (.tuple #[.slice A' m c', .int .i64 den, .int .i64 0]) ∧ RdI w' A' m ws) ∧ Below W.heap.size W w')
    (CV : ∀ B cb W, RdI W B n xs → Calls Try.prog 58 #[.int .i64 x0, .slice B n cb, .int .i64 x2] W fun e w' => e = .returned (.tuple #[.int .i64 0, .int .i64 0, .int .i64 2]) ∧ Below W.heap.size W w')
    (CD : ∀ W, Calls Try.prog 53 #[.int .i64 x0] W fun e w' => e = .returned (.int .i64 0) ∧ W = w')
    (CF : ∀ W, Calls Try.prog 55 #[.int .i64 x1] W fun e w' => e = .returned (.int .i64 0) ∧ W = w')
    (CRW : ∀ W, Calls Try.prog 59 #[.int .i64 x0, .int .i64 x1] W fun e w' => (∃ A' c', e = .returned (.tuple #[.slice A' m c', .int .i64 den]) ∧ RdI w' A' m ws) ∧ Below W.heap.size W w')
    (CSg : ∀ W, RdI W A n xs → Calls Try.prog 31 #[.slice A n c] W fun e w' => e = .returned (.int .i64 0) ∧ W = w')
    (CWi : ∀ W, Calls Try.prog 20 #[.int .i64 x2, .int .i64 0, .int .i64 (64 * ((n : Int) - 1))] W fun e w' => e = .returned (.bool false) ∧ W = w')
    : Calls Try.prog 11 #[.agg #[.int .i64 x0, .int .i64 x1, .int .i64 x2], .slice A n c] w fun e w' => e = .returned (.bool true) ∧ Below w.heap.size w w' := by
  have HR := Lib.hid hr
  have CC : Hid (∀ W, Below w.heap.size w W → Calls Try.prog 25 #[.slice A n c] W (OwnS W xs)) := fun W hb => copyInts_any A n c xs W hA (hr.below hb) (by omega)
  have CSh := Lib.hid (fun W => short_any A n c W (by omega))
  rw [hsh] at CSh
  have CWt := Lib.hid CWt
  have CV := Lib.hid CV
  have CD := Lib.hid CD
  have CF := Lib.hid CF
  have CRW := Lib.hid CRW
  have CSg := Lib.hid CSg
  have CWi := Lib.hid CWi
  have HPB := Lib.hid (psum_bd hws)
  have HPS := Lib.hid hps
  have HWG : Hid (∀ k, -4000000 ≤ ws.getD k 0 ∧ ws.getD k 0 ≤ 4000000) := fun k => getD_bd (by omega) hws k
  clear hws hps
  clear hr hsh hA
  have w1n : IntKind.i64.wrap ((n : Int) - 1) = (n : Int) - 1 := IntWalk.i64_in _ (by omega)
  have w2n : IntKind.i64.wrap (64 * ((n : Int) - 1)) = 64 * ((n : Int) - 1) := IntWalk.i64_in _ (by omega)
  have K0 := Lib.hid (Bk.new w 78 #[.int .i64 x0, .int .i64 x1, .int .i64 x2])
  have B0 := Lib.hid (below1 w (.cells #[.int .i64 x0, .int .i64 x1, .int .i64 x2] 78))
  go_enter Try.func11, Try.ntmps11
  go_wp2_with fail
  refine (awake_any _).mono ?_
  rintro e w1 ⟨rfl, hb⟩
  have K1 := Lib.hid (K0.out.later hb)
  have B1 := Lib.hid (B0.out.trans (hb.mono B0.out.size))
  clear hb K0 B0
  go_wp2_with fail
  refine (CSh.out _).mono ?_
  rintro e w' ⟨rfl, rfl⟩
  obtain ⟨d0, d1, d2⟩ := bk3 K1.out
  go_wp2_with fail
  refine (CWt.out _).mono ?_
  rintro e w2 ⟨⟨A2, c2, rfl, hr2⟩, hb⟩
  have K2 := Lib.hid (K1.out.later hb)
  have B2 := Lib.hid (B1.out.trans (hb.mono B1.out.size))
  have RS2 := Lib.hid hr2
  clear hb hr2 K1 B1 d0 d1 d2 CWt
  obtain ⟨d0, d1, d2⟩ := bk3 K2.out
  go_wp2
  go_region_held3 (fun w' : World => w'.cell? ⟨w.heap.size, 0, none⟩ = some (.int .i64 x0) ∧ w'.cell? ⟨w.heap.size, 1, none⟩ = some (.int .i64 x1) ∧ w'.cell? ⟨w.heap.size, 2, none⟩ = some (.int .i64 x2)) ((go_split_ands; simp [go_sem, *])) (first
    | (go_at_call 25; refine (CC.out _ B2.out.drew).mono ?_; rintro e w3 ⟨⟨v3, rfl, hrow3⟩, hb3⟩; obtain ⟨A3, c3, rfl, _, hr3⟩ := rd_of_own hrow3; have hxl := HR.out.1; rw [hxl] at hr3 ⊢; have K3 := (K2.out.drew).later hb3; obtain ⟨d0, d1, d2⟩ := bk3 K3)
    | (go_at_call 58; refine (CV.out A3 c3 _ hr3).mono ?_; rintro e w4 ⟨rfl, hb4⟩; have K4 := K3.later hb4; obtain ⟨d0, d1, d2⟩ := bk3 K4))
  all_goals
    have K4 := Lib.hid K4
    have B4 := Lib.hid ((B2.out.drew.trans (hb3.mono B2.out.drew.size)).trans (hb4.mono (Nat.le_trans B2.out.drew.size hb3.size)))
    have RS4 := Lib.hid ((RS2.out.drew.below hb3).below hb4)
    clear hb3 hb4 K2 B2 RS2 CV CC K3 hr3 hrow3 hxl
    clear d0 d1 d2
    obtain ⟨d0, d1, d2⟩ := bk3 K4.out
    go_wp2_with fail
    refine (CD.out _).mono ?_
    rintro e w' ⟨rfl, rfl⟩
    go_wp2_with fail
    refine (CF.out _).mono ?_
    rintro e w' ⟨rfl, rfl⟩
    go_wp2_with fail
    refine (CRW.out _).mono ?_
    rintro e w5 ⟨⟨A5, c5, rfl, hr5⟩, hb⟩
    have K5 := Lib.hid (K4.out.later hb)
    have B5 := Lib.hid (B4.out.trans (hb.mono B4.out.size))
    have RS5 := Lib.hid (RS4.out.below hb)
    have RQ5 := Lib.hid hr5
    clear hb hr5 K4 B4 RS4 d0 d1 d2 CRW
    have CI : Hid (Calls Try.prog 29 #[.slice A2 m c2, .slice A5 m c5] w5 fun e w' => e = .returned (.bool true) ∧ ∃ k, w' = w5.drewN k) := Lib.hid (by simpa using ints_any A2 A5 m m c2 c5 ws ws w5 RS5.out RQ5.out (by omega) (by omega))
    go_wp2_with fail
    refine CI.out.mono ?_
    rintro e w' ⟨rfl, kk, rfl⟩
    have K6 := Lib.hid (K5.out.drewN kk)
    have B6 := Lib.hid (belowDrewN B5.out kk)
    have RS6 := Lib.hid (RS5.out.below (belowDrewN (Below.refl _ _) kk))
    clear K5 B5 RS5 RQ5 CI
    obtain ⟨w6, hw6⟩ : ∃ W, w5.drewN kk = W := ⟨_, rfl⟩
    rw [hw6] at K6 B6 RS6 ⊢
    clear hw6
    obtain ⟨d0, d1, d2⟩ := bk3 K6.out
    go_wp2
    go_loop [15, 16] (fun s i => ∃ k : Nat, k ≤ m ∧ i = .int .i64 k ∧ s = .int .i64 (psum ws k)) (fun _ i => m - (intOf i).toNat)
    case atStart => exact ⟨0, Nat.zero_le _, rfl, rfl⟩
    case round =>
      obtain ⟨k, hk, rfl, rfl⟩ := hrel
      by_cases hlt : k < m
      · obtain ⟨ad, ha, _, hc⟩ := RS6.out.2 (by omega)
        have hck := hc k hlt
        clear hc
        subst ha
        have h1 := HPB.out k
        have h2 := HWG.out k
        have HS : Hid (psum ws (k + 1) = psum ws k + ws.getD k 0) := rfl
        obtain ⟨y, hy⟩ : ∃ y, ws.getD k 0 = y := ⟨_, rfl⟩
        obtain ⟨s, hs⟩ : ∃ s, psum ws k = s := ⟨_, rfl⟩
        rw [hy] at hck h2 HS
        rw [hs] at h1 HS ⊢
        have hwp : IntKind.i64.wrap (s + y) = s + y := IntWalk.i64_in _ (by omega)
        have hkI : (k : Int) < (m : Int) := by omega
        have hk0 : (0 : Int) ≤ (k : Int) := by omega
        clear hy hs h1 h2
        go_wp2
        go_round
        case rel => exact ⟨k + 1, by omega, by go_num, by rw [HS.out]⟩
        case measure => simp [intOf]; omega
      · obtain rfl : m = k := by omega
        have hps := HPS.out
        rw [hps]
        clear hps
        go_wp2_with fail
        refine (CSg.out _ (HR.out.below B6.out)).mono ?_
        rintro e w' ⟨rfl, rfl⟩
        go_wp2_with fail
        refine (CWi.out _).mono ?_
        rintro e w' ⟨rfl, rfl⟩
        go_wp2
        go_ret
        exact ⟨by simp, B6.out⟩

set_option maxRecDepth 100000 in
set_option maxHeartbeats 4000000 in
theorem wtw_good_good (x0 x1 x2 : Int) (A : Option Addr) (n c : Nat) (xs : List Int) (w : World) (m : Nat) (den : Int) (ws : List Int) (hm : m ≤ 4) (hws : ∀ x ∈ ws, -4000000 ≤ x ∧ x ≤ 4000000) (hps : psum ws m = den) (N V : Int) (hr : RdI w A n xs) (hn : n ≤ 402) (hsh : shortB n = true) (hA : A = none → n = 0 ∧ c = 0)
    (CWt : ∀ W, Calls Try.prog 57 #[.int .i64 x0, .int .i64 x1] W fun e w' => (∃ A' c', e = .returned (.tuple #[.slice A' m c', .int .i64 den, .int .i64 0]) ∧ RdI w' A' m ws) ∧ Below W.heap.size W w')
    (CV : ∀ B cb W, RdI W B n xs → Calls Try.prog 58 #[.int .i64 x0, .slice B n cb, .int .i64 x2] W fun e w' => e = .returned (.tuple #[.int .i64 N, .int .i64 V, .int .i64 0]) ∧ Below W.heap.size W w')
    (CD : ∀ W, Calls Try.prog 53 #[.int .i64 x0] W fun e w' => e = .returned (.int .i64 0) ∧ W = w')
    (CF : ∀ W, Calls Try.prog 55 #[.int .i64 x1] W fun e w' => e = .returned (.int .i64 0) ∧ W = w')
    (CRW : ∀ W, Calls Try.prog 59 #[.int .i64 x0, .int .i64 x1] W fun e w' => (∃ A' c', e = .returned (.tuple #[.slice A' m c', .int .i64 den]) ∧ RdI w' A' m ws) ∧ Below W.heap.size W w')
    (CSg : ∀ W, RdI W A n xs → Calls Try.prog 31 #[.slice A n c] W fun e w' => e = .returned (.int .i64 0) ∧ W = w')
    (CWi : ∀ W, Calls Try.prog 20 #[.int .i64 x2, .int .i64 0, .int .i64 (64 * ((n : Int) - 1))] W fun e w' => e = .returned (.bool true) ∧ W = w')
    (CRV : ∀ W, RdI W A n xs → Calls Try.prog 60 #[.int .i64 x0, .slice A n c, .int .i64 x2] W fun e w' => e = .returned (.tuple #[.int .i64 N, .int .i64 V]) ∧ Below W.heap.size W w')
    : Calls Try.prog 11 #[.agg #[.int .i64 x0, .int .i64 x1, .int .i64 x2], .slice A n c] w fun e w' => e = .returned (.bool true) ∧ Below w.heap.size w w' := by
  have HR := Lib.hid hr
  have CC : Hid (∀ W, Below w.heap.size w W → Calls Try.prog 25 #[.slice A n c] W (OwnS W xs)) := fun W hb => copyInts_any A n c xs W hA (hr.below hb) (by omega)
  have CSh := Lib.hid (fun W => short_any A n c W (by omega))
  rw [hsh] at CSh
  have CWt := Lib.hid CWt
  have CV := Lib.hid CV
  have CD := Lib.hid CD
  have CF := Lib.hid CF
  have CRW := Lib.hid CRW
  have CSg := Lib.hid CSg
  have CWi := Lib.hid CWi
  have CRV := Lib.hid CRV
  have HPB := Lib.hid (psum_bd hws)
  have HPS := Lib.hid hps
  have HWG : Hid (∀ k, -4000000 ≤ ws.getD k 0 ∧ ws.getD k 0 ≤ 4000000) := fun k => getD_bd (by omega) hws k
  clear hws hps
  clear hr hsh hA
  have w1n : IntKind.i64.wrap ((n : Int) - 1) = (n : Int) - 1 := IntWalk.i64_in _ (by omega)
  have w2n : IntKind.i64.wrap (64 * ((n : Int) - 1)) = 64 * ((n : Int) - 1) := IntWalk.i64_in _ (by omega)
  have K0 := Lib.hid (Bk.new w 78 #[.int .i64 x0, .int .i64 x1, .int .i64 x2])
  have B0 := Lib.hid (below1 w (.cells #[.int .i64 x0, .int .i64 x1, .int .i64 x2] 78))
  go_enter Try.func11, Try.ntmps11
  go_wp2_with fail
  refine (awake_any _).mono ?_
  rintro e w1 ⟨rfl, hb⟩
  have K1 := Lib.hid (K0.out.later hb)
  have B1 := Lib.hid (B0.out.trans (hb.mono B0.out.size))
  clear hb K0 B0
  go_wp2_with fail
  refine (CSh.out _).mono ?_
  rintro e w' ⟨rfl, rfl⟩
  obtain ⟨d0, d1, d2⟩ := bk3 K1.out
  go_wp2_with fail
  refine (CWt.out _).mono ?_
  rintro e w2 ⟨⟨A2, c2, rfl, hr2⟩, hb⟩
  have K2 := Lib.hid (K1.out.later hb)
  have B2 := Lib.hid (B1.out.trans (hb.mono B1.out.size))
  have RS2 := Lib.hid hr2
  clear hb hr2 K1 B1 d0 d1 d2 CWt
  obtain ⟨d0, d1, d2⟩ := bk3 K2.out
  go_wp2
  go_region_held3 (fun w' : World => w'.cell? ⟨w.heap.size, 0, none⟩ = some (.int .i64 x0) ∧ w'.cell? ⟨w.heap.size, 1, none⟩ = some (.int .i64 x1) ∧ w'.cell? ⟨w.heap.size, 2, none⟩ = some (.int .i64 x2)) ((go_split_ands; simp [go_sem, *])) (first
    | (go_at_call 25; refine (CC.out _ B2.out.drew).mono ?_; rintro e w3 ⟨⟨v3, rfl, hrow3⟩, hb3⟩; obtain ⟨A3, c3, rfl, _, hr3⟩ := rd_of_own hrow3; have hxl := HR.out.1; rw [hxl] at hr3 ⊢; have K3 := (K2.out.drew).later hb3; obtain ⟨d0, d1, d2⟩ := bk3 K3)
    | (go_at_call 58; refine (CV.out A3 c3 _ hr3).mono ?_; rintro e w4 ⟨rfl, hb4⟩; have K4 := K3.later hb4; obtain ⟨d0, d1, d2⟩ := bk3 K4))
  all_goals
    have K4 := Lib.hid K4
    have B4 := Lib.hid ((B2.out.drew.trans (hb3.mono B2.out.drew.size)).trans (hb4.mono (Nat.le_trans B2.out.drew.size hb3.size)))
    have RS4 := Lib.hid ((RS2.out.drew.below hb3).below hb4)
    clear hb3 hb4 K2 B2 RS2 CV CC K3 hr3 hrow3 hxl
    clear d0 d1 d2
    obtain ⟨d0, d1, d2⟩ := bk3 K4.out
    go_wp2_with fail
    refine (CD.out _).mono ?_
    rintro e w' ⟨rfl, rfl⟩
    go_wp2_with fail
    refine (CF.out _).mono ?_
    rintro e w' ⟨rfl, rfl⟩
    go_wp2_with fail
    refine (CRW.out _).mono ?_
    rintro e w5 ⟨⟨A5, c5, rfl, hr5⟩, hb⟩
    have K5 := Lib.hid (K4.out.later hb)
    have B5 := Lib.hid (B4.out.trans (hb.mono B4.out.size))
    have RS5 := Lib.hid (RS4.out.below hb)
    have RQ5 := Lib.hid hr5
    clear hb hr5 K4 B4 RS4 d0 d1 d2 CRW
    have CI : Hid (Calls Try.prog 29 #[.slice A2 m c2, .slice A5 m c5] w5 fun e w' => e = .returned (.bool true) ∧ ∃ k, w' = w5.drewN k) := Lib.hid (by simpa using ints_any A2 A5 m m c2 c5 ws ws w5 RS5.out RQ5.out (by omega) (by omega))
    go_wp2_with fail
    refine CI.out.mono ?_
    rintro e w' ⟨rfl, kk, rfl⟩
    have K6 := Lib.hid (K5.out.drewN kk)
    have B6 := Lib.hid (belowDrewN B5.out kk)
    have RS6 := Lib.hid (RS5.out.below (belowDrewN (Below.refl _ _) kk))
    clear K5 B5 RS5 RQ5 CI
    obtain ⟨w6, hw6⟩ : ∃ W, w5.drewN kk = W := ⟨_, rfl⟩
    rw [hw6] at K6 B6 RS6 ⊢
    clear hw6
    obtain ⟨d0, d1, d2⟩ := bk3 K6.out
    go_wp2
    go_loop [15, 16] (fun s i => ∃ k : Nat, k ≤ m ∧ i = .int .i64 k ∧ s = .int .i64 (psum ws k)) (fun _ i => m - (intOf i).toNat)
    case atStart => exact ⟨0, Nat.zero_le _, rfl, rfl⟩
    case round =>
      obtain ⟨k, hk, rfl, rfl⟩ := hrel
      by_cases hlt : k < m
      · obtain ⟨ad, ha, _, hc⟩ := RS6.out.2 (by omega)
        have hck := hc k hlt
        clear hc
        subst ha
        have h1 := HPB.out k
        have h2 := HWG.out k
        have HS : Hid (psum ws (k + 1) = psum ws k + ws.getD k 0) := rfl
        obtain ⟨y, hy⟩ : ∃ y, ws.getD k 0 = y := ⟨_, rfl⟩
        obtain ⟨s, hs⟩ : ∃ s, psum ws k = s := ⟨_, rfl⟩
        rw [hy] at hck h2 HS
        rw [hs] at h1 HS ⊢
        have hwp : IntKind.i64.wrap (s + y) = s + y := IntWalk.i64_in _ (by omega)
        have hkI : (k : Int) < (m : Int) := by omega
        have hk0 : (0 : Int) ≤ (k : Int) := by omega
        clear hy hs h1 h2
        go_wp2
        go_round
        case rel => exact ⟨k + 1, by omega, by go_num, by rw [HS.out]⟩
        case measure => simp [intOf]; omega
      · obtain rfl : m = k := by omega
        have hps := HPS.out
        rw [hps]
        clear hps
        go_wp2_with fail
        refine (CSg.out _ (HR.out.below B6.out)).mono ?_
        rintro e w' ⟨rfl, rfl⟩
        go_wp2_with fail
        refine (CWi.out _).mono ?_
        rintro e w' ⟨rfl, rfl⟩
        go_wp2_with fail
        refine (CRV.out _ (HR.out.below B6.out)).mono ?_
        rintro e w7 ⟨rfl, hb⟩
        have B7 := Lib.hid (B6.out.trans (hb.mono B6.out.size))
        clear hb
        go_wp2
        go_ret
        exact ⟨by simp, B7.out⟩

end Go.Proofs.Ytnieajfofbidmaa
