import Derived.Test.YtghpofhpkbgckaaE50

namespace Go.Proofs.Ytghpofhpkbgckaa
open Go.RowKit

set_option maxRecDepth 100000 in
set_option maxHeartbeats 4000000 in
theorem tbw_00 (f s d : Int) (A : Option Addr) (n c : Nat) (xs : List Int) (at_ : Int) (w : World) (zs : List Int) (hzl : zs.length = n) (Z : Int) (hZ : ¬ Z = 0) (hr : RdI w A n xs) (hn : n ≤ 64) (hnc : n ≤ c) (hA : A = none → n = 0 ∧ c = 0)
    (CQ : ∀ W, Calls Try.prog 48 #[.agg #[.int .i64 f, .int .i64 s, .int .i64 d]] W fun e w' => e = .returned (.int .i64 0) ∧ Below W.heap.size W w')
    (CSg : ∀ W, RdI W A n xs → Calls Try.prog 19 #[.slice A n c] W fun e w' => e = .returned (.int .i64 0) ∧ W = w')
    (CRx : ∀ B cb W, RdI W B n xs → Calls Try.prog 47 #[.agg #[.int .i64 f, .int .i64 s, .int .i64 d], .slice B n cb] W (RdResN W 0 n zs))
    (CSz : ∀ B cb W, RdI W B n zs → Calls Try.prog 19 #[.slice B n cb] W fun e w' => e = .returned (.int .i64 Z) ∧ W = w')
    (CEx : ∀ B cb W, RdI W B n xs → Calls Try.prog 46 #[.agg #[.int .i64 f, .int .i64 s, .int .i64 d], .slice B n cb] W (RdResN W 23 0 []))
    : Calls Try.prog 9 #[.agg #[.int .i64 f, .int .i64 s, .int .i64 d], .slice A n c, .int .i64 at_] w fun e w' => e = .returned (.bool true) ∧ Below w.heap.size w w' := by
  have CC : Hid (∀ W, Below w.heap.size w W → Calls Try.prog 18 #[.slice A n c] W (OwnS W xs)) := fun W hb => copyInts_any A n c xs W hA (hr.below hb) (by omega)
  have CCL : Hid (xs.length = n) := hr.1
  have CZL : Hid (zs.length = n) := hzl
  have CP : Hid (∀ B cb xs W, (B = none → n = 0 ∧ cb = 0) → RdI W B n xs → Calls Try.prog 18 #[.slice B n cb] W (OwnS W xs)) := fun B cb xs W hB h => copyInts_any B n cb xs W hB h (by omega)
  have CQ := Lib.hid CQ
  have CSg := Lib.hid CSg
  have CRx := Lib.hid CRx
  have CSz := Lib.hid CSz
  have CEx := Lib.hid CEx
  have dZ0 := neF hZ
  have dZ1 := neT hZ
  clear hZ
  have h64 : ¬ (64 : Int) < (n : Int) := by omega
  have hnI : n ≤ 9223372036854775806 := by omega
  have X0 := Lib.hid (hr.below (below1 w (.cells #[.int .i64 f, .int .i64 s, .int .i64 d] 68)))
  have K0 := Lib.hid (Bk.new w 68 #[.int .i64 f, .int .i64 s, .int .i64 d])
  have B0 := Lib.hid (below1 w (.cells #[.int .i64 f, .int .i64 s, .int .i64 d] 68))
  clear hr hzl
  have HNN := Lib.hid hA
  clear hA
  go_enter Try.func9, Try.ntmps9
  go_wp2_with fail
  refine (awake_any _).mono ?_
  rintro e w1 ⟨rfl, hb⟩
  have X1 := Lib.hid (X0.out.below hb)
  have K1 := Lib.hid (K0.out.later hb)
  have B1 := Lib.hid (B0.out.trans (hb.mono B0.out.size))
  clear X0 K0 B0 hb
  obtain ⟨d0, d1, d2⟩ := bk3 K1.out
  go_wp2_with fail
  refine (CQ.out _).mono ?_
  rintro e w2 ⟨rfl, hb⟩
  have X2 := Lib.hid (X1.out.below hb)
  have K2 := Lib.hid (K1.out.later hb)
  have B2 := Lib.hid (B1.out.trans (hb.mono B1.out.size))
  clear X1 K1 B1 hb
  clear d0 d1 d2
  go_wp2_with fail
  refine (CSg.out _ X2.out).mono ?_
  rintro e w' ⟨rfl, rfl⟩
  obtain ⟨d0, d1, d2⟩ := bk3 K2.out
  go_wp2
  go_region_held3 (fun w' : World => w'.cell? ⟨w.heap.size, 0, none⟩ = some (.int .i64 f) ∧ w'.cell? ⟨w.heap.size, 1, none⟩ = some (.int .i64 s) ∧ w'.cell? ⟨w.heap.size, 2, none⟩ = some (.int .i64 d)) ((go_split_ands; simp [go_sem, *])) (first
    | (go_at_call 18; refine (CC.out _ B2.out.drew).mono ?_; rintro e wq ⟨⟨vq, rfl, hrowq⟩, hbq⟩; obtain ⟨Aq, cq, rfl, _, hrq⟩ := rd_of_own hrowq; have hxl := CCL.out; rw [hxl] at hrq ⊢; have Kq := (K2.out.drew).later hbq; obtain ⟨d0, d1, d2⟩ := bk3 Kq)
    | (go_at_call 47; refine (CRx.out Aq cq _ hrq).mono ?_; rintro e w3 ⟨⟨APz, cPz, rfl, hrPz, hcPz, hNPz⟩, hbp⟩; have Kp := Kq.later hbp; obtain ⟨d0, d1, d2⟩ := bk3 Kp))
  have hb : Below w2.drew.heap.size w2.drew w3 := hbq.trans (hbp.mono hbq.size)
  clear d0 d1 d2 hbq hbp Kq Kp hrq hrowq hxl
  have X3 := Lib.hid (X2.out.drew.below hb)
  have K3 := Lib.hid (K2.out.drew.later hb)
  have B3 := Lib.hid (B2.out.drew.trans (hb.mono B2.out.drew.size))
  clear hb X2 K2 B2
  have Pz3 := Lib.hid hrPz
  have NPz := Lib.hid hNPz
  clear hrPz hNPz
  go_wp2_with fail
  refine (CSz.out _ _ _ Pz3.out).mono ?_
  rintro e w' ⟨rfl, rfl⟩
  obtain ⟨d0, d1, d2⟩ := bk3 K3.out
  go_wp2
  go_region_held3 (fun w' : World => w'.cell? ⟨w.heap.size, 0, none⟩ = some (.int .i64 f) ∧ w'.cell? ⟨w.heap.size, 1, none⟩ = some (.int .i64 s) ∧ w'.cell? ⟨w.heap.size, 2, none⟩ = some (.int .i64 d)) ((go_split_ands; simp [go_sem, *])) (first
    | (go_at_call 18; refine (CC.out _ B3.out.drew).mono ?_; rintro e wq ⟨⟨vq, rfl, hrowq⟩, hbq⟩; obtain ⟨Aq, cq, rfl, _, hrq⟩ := rd_of_own hrowq; have hxl := CCL.out; rw [hxl] at hrq ⊢; have Kq := (K3.out.drew).later hbq; obtain ⟨d0, d1, d2⟩ := bk3 Kq)
    | (go_at_call 46; refine (CEx.out Aq cq _ hrq).mono ?_; rintro e w4 ⟨⟨APy, cPy, rfl, hrPy, hcPy, hNPy⟩, hbp⟩; have Kp := Kq.later hbp; obtain ⟨d0, d1, d2⟩ := bk3 Kp))
  have hb : Below w3.drew.heap.size w3.drew w4 := hbq.trans (hbp.mono hbq.size)
  clear d0 d1 d2 hbq hbp Kq Kp hrq hrowq hxl
  have X4 := Lib.hid (X3.out.drew.below hb)
  have K4 := Lib.hid (K3.out.drew.later hb)
  have B4 := Lib.hid (B3.out.drew.trans (hb.mono B3.out.drew.size))
  have Pz4 := Lib.hid (Pz3.out.drew.below hb)
  clear hb X3 K3 B3 Pz3
  have Py4 := Lib.hid hrPy
  have NPy := Lib.hid hNPy
  clear hrPy hNPy
  go_wp2
  go_ret
  exact ⟨by simp, B4.out⟩
set_option maxRecDepth 100000 in
set_option maxHeartbeats 4000000 in
theorem tbw_10 (f s d : Int) (A : Option Addr) (n c : Nat) (xs : List Int) (at_ : Int) (w : World) (zs : List Int) (hzl : zs.length = n) (hr : RdI w A n xs) (hn : n ≤ 64) (hnc : n ≤ c) (hA : A = none → n = 0 ∧ c = 0)
    (CQ : ∀ W, Calls Try.prog 48 #[.agg #[.int .i64 f, .int .i64 s, .int .i64 d]] W fun e w' => e = .returned (.int .i64 0) ∧ Below W.heap.size W w')
    (CSg : ∀ W, RdI W A n xs → Calls Try.prog 19 #[.slice A n c] W fun e w' => e = .returned (.int .i64 0) ∧ W = w')
    (CRx : ∀ B cb W, RdI W B n xs → Calls Try.prog 47 #[.agg #[.int .i64 f, .int .i64 s, .int .i64 d], .slice B n cb] W (RdResN W 0 n zs))
    (CSz : ∀ B cb W, RdI W B n zs → Calls Try.prog 19 #[.slice B n cb] W fun e w' => e = .returned (.int .i64 0) ∧ W = w')
    (CEz : ∀ B cb W, RdI W B n zs → Calls Try.prog 46 #[.agg #[.int .i64 f, .int .i64 s, .int .i64 d], .slice B n cb] W (RdResN W 0 n xs))
    (CEx : ∀ B cb W, RdI W B n xs → Calls Try.prog 46 #[.agg #[.int .i64 f, .int .i64 s, .int .i64 d], .slice B n cb] W (RdResN W 23 0 []))
    : Calls Try.prog 9 #[.agg #[.int .i64 f, .int .i64 s, .int .i64 d], .slice A n c, .int .i64 at_] w fun e w' => e = .returned (.bool true) ∧ Below w.heap.size w w' := by
  have CC : Hid (∀ W, Below w.heap.size w W → Calls Try.prog 18 #[.slice A n c] W (OwnS W xs)) := fun W hb => copyInts_any A n c xs W hA (hr.below hb) (by omega)
  have CCL : Hid (xs.length = n) := hr.1
  have CZL : Hid (zs.length = n) := hzl
  have CP : Hid (∀ B cb xs W, (B = none → n = 0 ∧ cb = 0) → RdI W B n xs → Calls Try.prog 18 #[.slice B n cb] W (OwnS W xs)) := fun B cb xs W hB h => copyInts_any B n cb xs W hB h (by omega)
  have CQ := Lib.hid CQ
  have CSg := Lib.hid CSg
  have CRx := Lib.hid CRx
  have CSz := Lib.hid CSz
  have CEz := Lib.hid CEz
  have CEx := Lib.hid CEx
  have h64 : ¬ (64 : Int) < (n : Int) := by omega
  have hnI : n ≤ 9223372036854775806 := by omega
  have X0 := Lib.hid (hr.below (below1 w (.cells #[.int .i64 f, .int .i64 s, .int .i64 d] 68)))
  have K0 := Lib.hid (Bk.new w 68 #[.int .i64 f, .int .i64 s, .int .i64 d])
  have B0 := Lib.hid (below1 w (.cells #[.int .i64 f, .int .i64 s, .int .i64 d] 68))
  clear hr hzl
  have HNN := Lib.hid hA
  clear hA
  go_enter Try.func9, Try.ntmps9
  go_wp2_with fail
  refine (awake_any _).mono ?_
  rintro e w1 ⟨rfl, hb⟩
  have X1 := Lib.hid (X0.out.below hb)
  have K1 := Lib.hid (K0.out.later hb)
  have B1 := Lib.hid (B0.out.trans (hb.mono B0.out.size))
  clear X0 K0 B0 hb
  obtain ⟨d0, d1, d2⟩ := bk3 K1.out
  go_wp2_with fail
  refine (CQ.out _).mono ?_
  rintro e w2 ⟨rfl, hb⟩
  have X2 := Lib.hid (X1.out.below hb)
  have K2 := Lib.hid (K1.out.later hb)
  have B2 := Lib.hid (B1.out.trans (hb.mono B1.out.size))
  clear X1 K1 B1 hb
  clear d0 d1 d2
  go_wp2_with fail
  refine (CSg.out _ X2.out).mono ?_
  rintro e w' ⟨rfl, rfl⟩
  obtain ⟨d0, d1, d2⟩ := bk3 K2.out
  go_wp2
  go_region_held3 (fun w' : World => w'.cell? ⟨w.heap.size, 0, none⟩ = some (.int .i64 f) ∧ w'.cell? ⟨w.heap.size, 1, none⟩ = some (.int .i64 s) ∧ w'.cell? ⟨w.heap.size, 2, none⟩ = some (.int .i64 d)) ((go_split_ands; simp [go_sem, *])) (first
    | (go_at_call 18; refine (CC.out _ B2.out.drew).mono ?_; rintro e wq ⟨⟨vq, rfl, hrowq⟩, hbq⟩; obtain ⟨Aq, cq, rfl, _, hrq⟩ := rd_of_own hrowq; have hxl := CCL.out; rw [hxl] at hrq ⊢; have Kq := (K2.out.drew).later hbq; obtain ⟨d0, d1, d2⟩ := bk3 Kq)
    | (go_at_call 47; refine (CRx.out Aq cq _ hrq).mono ?_; rintro e w3 ⟨⟨APz, cPz, rfl, hrPz, hcPz, hNPz⟩, hbp⟩; have Kp := Kq.later hbp; obtain ⟨d0, d1, d2⟩ := bk3 Kp))
  have hb : Below w2.drew.heap.size w2.drew w3 := hbq.trans (hbp.mono hbq.size)
  clear d0 d1 d2 hbq hbp Kq Kp hrq hrowq hxl
  have X3 := Lib.hid (X2.out.drew.below hb)
  have K3 := Lib.hid (K2.out.drew.later hb)
  have B3 := Lib.hid (B2.out.drew.trans (hb.mono B2.out.drew.size))
  clear hb X2 K2 B2
  have Pz3 := Lib.hid hrPz
  have NPz := Lib.hid hNPz
  clear hrPz hNPz
  go_wp2_with fail
  refine (CSz.out _ _ _ Pz3.out).mono ?_
  rintro e w' ⟨rfl, rfl⟩
  obtain ⟨d0, d1, d2⟩ := bk3 K3.out
  go_wp2
  go_region_held3 (fun w' : World => w'.cell? ⟨w.heap.size, 0, none⟩ = some (.int .i64 f) ∧ w'.cell? ⟨w.heap.size, 1, none⟩ = some (.int .i64 s) ∧ w'.cell? ⟨w.heap.size, 2, none⟩ = some (.int .i64 d)) ((go_split_ands; simp [go_sem, *])) (first
    | (go_at_call 18; refine (CP.out _ _ zs _ NPz.out Pz3.out.drew).mono ?_; rintro e wq ⟨⟨vq, rfl, hrowq⟩, hbq⟩; obtain ⟨Aq, cq, rfl, _, hrq⟩ := rd_of_own hrowq; have hxl := CZL.out; rw [hxl] at hrq ⊢; have Kq := (K3.out.drew).later hbq; obtain ⟨d0, d1, d2⟩ := bk3 Kq)
    | (go_at_call 46; refine (CEz.out Aq cq _ hrq).mono ?_; rintro e w4 ⟨⟨APw, cPw, rfl, hrPw, hcPw, hNPw⟩, hbp⟩; have Kp := Kq.later hbp; obtain ⟨d0, d1, d2⟩ := bk3 Kp))
  have hb : Below w3.drew.heap.size w3.drew w4 := hbq.trans (hbp.mono hbq.size)
  clear d0 d1 d2 hbq hbp Kq Kp hrq hrowq hxl
  have X4 := Lib.hid (X3.out.drew.below hb)
  have K4 := Lib.hid (K3.out.drew.later hb)
  have B4 := Lib.hid (B3.out.drew.trans (hb.mono B3.out.drew.size))
  have Pz4 := Lib.hid (Pz3.out.drew.below hb)
  clear hb X3 K3 B3 Pz3
  have Pw4 := Lib.hid hrPw
  have NPw := Lib.hid hNPw
  clear hrPw hNPw
  go_wp2_with fail
  refine (ints_same _ _ _ _ _ _ _ Pw4.out X4.out hnI).mono ?_
  rintro e w' ⟨rfl, kk, rfl⟩
  have X5 := Lib.hid (X4.out.drewN kk)
  have K5 := Lib.hid (K4.out.drewN kk)
  have B5 := Lib.hid (belowDrewN B4.out kk)
  have Pz5 := Lib.hid (Pz4.out.drewN kk)
  have Pw5 := Lib.hid (Pw4.out.drewN kk)
  clear X4 K4 B4 Pz4 Pw4
  obtain ⟨w5, hw5⟩ : ∃ W, w4.drewN kk = W := ⟨_, rfl⟩
  rw [hw5] at X5 K5 B5 Pz5 Pw5 ⊢
  clear hw5
  obtain ⟨d0, d1, d2⟩ := bk3 K5.out
  go_wp2
  go_region_held3 (fun w' : World => w'.cell? ⟨w.heap.size, 0, none⟩ = some (.int .i64 f) ∧ w'.cell? ⟨w.heap.size, 1, none⟩ = some (.int .i64 s) ∧ w'.cell? ⟨w.heap.size, 2, none⟩ = some (.int .i64 d)) ((go_split_ands; simp [go_sem, *])) (first
    | (go_at_call 18; refine (CC.out _ B5.out.drew).mono ?_; rintro e wq ⟨⟨vq, rfl, hrowq⟩, hbq⟩; obtain ⟨Aq, cq, rfl, _, hrq⟩ := rd_of_own hrowq; have hxl := CCL.out; rw [hxl] at hrq ⊢; have Kq := (K5.out.drew).later hbq; obtain ⟨d0, d1, d2⟩ := bk3 Kq)
    | (go_at_call 46; refine (CEx.out Aq cq _ hrq).mono ?_; rintro e w6 ⟨⟨APy, cPy, rfl, hrPy, hcPy, hNPy⟩, hbp⟩; have Kp := Kq.later hbp; obtain ⟨d0, d1, d2⟩ := bk3 Kp))
  have hb : Below w5.drew.heap.size w5.drew w6 := hbq.trans (hbp.mono hbq.size)
  clear d0 d1 d2 hbq hbp Kq Kp hrq hrowq hxl
  have X6 := Lib.hid (X5.out.drew.below hb)
  have K6 := Lib.hid (K5.out.drew.later hb)
  have B6 := Lib.hid (B5.out.drew.trans (hb.mono B5.out.drew.size))
  have Pz6 := Lib.hid (Pz5.out.drew.below hb)
  have Pw6 := Lib.hid (Pw5.out.drew.below hb)
  clear hb X5 K5 B5 Pz5 Pw5
  have Py6 := Lib.hid hrPy
  have NPy := Lib.hid hNPy
  clear hrPy hNPy
  go_wp2
  go_ret
  exact ⟨by simp, B6.out⟩
set_option maxRecDepth 100000 in
set_option maxHeartbeats 4000000 in
theorem tbw_01 (f s d : Int) (A : Option Addr) (n c : Nat) (xs : List Int) (at_ : Int) (w : World) (zs : List Int) (hzl : zs.length = n) (Z : Int) (hZ : ¬ Z = 0) (ys : List Int) (hyl : ys.length = n) (k : Nat) (hk : k ≤ n) (hat : at_ % ((n : Int) + 1) = (k : Int)) (hr : RdI w A n xs) (hn : n ≤ 64) (hnc : n ≤ c) (hA : A = none → n = 0 ∧ c = 0)
    (CQ : ∀ W, Calls Try.prog 48 #[.agg #[.int .i64 f, .int .i64 s, .int .i64 d]] W fun e w' => e = .returned (.int .i64 0) ∧ Below W.heap.size W w')
    (CSg : ∀ W, RdI W A n xs → Calls Try.prog 19 #[.slice A n c] W fun e w' => e = .returned (.int .i64 0) ∧ W = w')
    (CRx : ∀ B cb W, RdI W B n xs → Calls Try.prog 47 #[.agg #[.int .i64 f, .int .i64 s, .int .i64 d], .slice B n cb] W (RdResN W 0 n zs))
    (CSz : ∀ B cb W, RdI W B n zs → Calls Try.prog 19 #[.slice B n cb] W fun e w' => e = .returned (.int .i64 Z) ∧ W = w')
    (CEx : ∀ B cb W, RdI W B n xs → Calls Try.prog 46 #[.agg #[.int .i64 f, .int .i64 s, .int .i64 d], .slice B n cb] W (RdResN W 0 n ys))
    (CRy : ∀ B cb W, RdI W B n ys → Calls Try.prog 47 #[.agg #[.int .i64 f, .int .i64 s, .int .i64 d], .slice B n cb] W (RdResN W 0 n xs))
    (CEk : ∀ B cb W, RdI W B k (xs.take k) → Calls Try.prog 46 #[.agg #[.int .i64 f, .int .i64 s, .int .i64 d], .slice B k cb] W (RdResN W 0 k (ys.take k)))
    : Calls Try.prog 9 #[.agg #[.int .i64 f, .int .i64 s, .int .i64 d], .slice A n c, .int .i64 at_] w fun e w' => e = .returned (.bool true) ∧ Below w.heap.size w w' := by
  have CC : Hid (∀ W, Below w.heap.size w W → Calls Try.prog 18 #[.slice A n c] W (OwnS W xs)) := fun W hb => copyInts_any A n c xs W hA (hr.below hb) (by omega)
  have CCL : Hid (xs.length = n) := hr.1
  have CZL : Hid (zs.length = n) := hzl
  have CP : Hid (∀ B cb xs W, (B = none → n = 0 ∧ cb = 0) → RdI W B n xs → Calls Try.prog 18 #[.slice B n cb] W (OwnS W xs)) := fun B cb xs W hB h => copyInts_any B n cb xs W hB h (by omega)
  have CQ := Lib.hid CQ
  have CSg := Lib.hid CSg
  have CRx := Lib.hid CRx
  have CSz := Lib.hid CSz
  have CEx := Lib.hid CEx
  have CRy := Lib.hid CRy
  have CEk := Lib.hid CEk
  have dZ0 := neF hZ
  have dZ1 := neT hZ
  clear hZ
  have CYL : Hid (ys.length = n) := hyl
  have hsl : ∀ W, (Instr.slice 22 (.slice A n c) none (some (.int .i64 (k : Int))) none).run Try.prog W = .ok (.slice (cutA A 0 c) k c) W := fun W => cutTo_run A n c k k rfl (by omega) W
  have HSL := Lib.hid hsl
  clear hsl
  have CK : Hid (∀ W, RdI W A n xs → Calls Try.prog 18 #[.slice (cutA A 0 c) k c] W (OwnS W (xs.take k))) := fun W h => copyInts_any (cutA A 0 c) k c (xs.take k) W (cutA_none hA hk) (rd_take h c k hk hnc) (by omega)
  have CKL : Hid ((xs.take k).length = k) := by show _ = _; rw [List.length_take, hr.1]; omega
  have wn1 : IntKind.i64.wrap ((n : Int) + 1) = (n : Int) + 1 := IntWalk.i64_in _ (by omega)
  have CM := Lib.hid (fun W => mod_all at_ ((n : Int) + 1) (by omega) W)
  rw [hat] at CM
  clear hat hyl
  have h64 : ¬ (64 : Int) < (n : Int) := by omega
  have hnI : n ≤ 9223372036854775806 := by omega
  have X0 := Lib.hid (hr.below (below1 w (.cells #[.int .i64 f, .int .i64 s, .int .i64 d] 68)))
  have K0 := Lib.hid (Bk.new w 68 #[.int .i64 f, .int .i64 s, .int .i64 d])
  have B0 := Lib.hid (below1 w (.cells #[.int .i64 f, .int .i64 s, .int .i64 d] 68))
  clear hr hzl
  have HNN := Lib.hid hA
  clear hA
  go_enter Try.func9, Try.ntmps9
  go_wp2_with fail
  refine (awake_any _).mono ?_
  rintro e w1 ⟨rfl, hb⟩
  have X1 := Lib.hid (X0.out.below hb)
  have K1 := Lib.hid (K0.out.later hb)
  have B1 := Lib.hid (B0.out.trans (hb.mono B0.out.size))
  clear X0 K0 B0 hb
  obtain ⟨d0, d1, d2⟩ := bk3 K1.out
  go_wp2_with fail
  refine (CQ.out _).mono ?_
  rintro e w2 ⟨rfl, hb⟩
  have X2 := Lib.hid (X1.out.below hb)
  have K2 := Lib.hid (K1.out.later hb)
  have B2 := Lib.hid (B1.out.trans (hb.mono B1.out.size))
  clear X1 K1 B1 hb
  clear d0 d1 d2
  go_wp2_with fail
  refine (CSg.out _ X2.out).mono ?_
  rintro e w' ⟨rfl, rfl⟩
  obtain ⟨d0, d1, d2⟩ := bk3 K2.out
  go_wp2
  go_region_held3 (fun w' : World => w'.cell? ⟨w.heap.size, 0, none⟩ = some (.int .i64 f) ∧ w'.cell? ⟨w.heap.size, 1, none⟩ = some (.int .i64 s) ∧ w'.cell? ⟨w.heap.size, 2, none⟩ = some (.int .i64 d)) ((go_split_ands; simp [go_sem, *])) (first
    | (go_at_call 18; refine (CC.out _ B2.out.drew).mono ?_; rintro e wq ⟨⟨vq, rfl, hrowq⟩, hbq⟩; obtain ⟨Aq, cq, rfl, _, hrq⟩ := rd_of_own hrowq; have hxl := CCL.out; rw [hxl] at hrq ⊢; have Kq := (K2.out.drew).later hbq; obtain ⟨d0, d1, d2⟩ := bk3 Kq)
    | (go_at_call 47; refine (CRx.out Aq cq _ hrq).mono ?_; rintro e w3 ⟨⟨APz, cPz, rfl, hrPz, hcPz, hNPz⟩, hbp⟩; have Kp := Kq.later hbp; obtain ⟨d0, d1, d2⟩ := bk3 Kp))
  have hb : Below w2.drew.heap.size w2.drew w3 := hbq.trans (hbp.mono hbq.size)
  clear d0 d1 d2 hbq hbp Kq Kp hrq hrowq hxl
  have X3 := Lib.hid (X2.out.drew.below hb)
  have K3 := Lib.hid (K2.out.drew.later hb)
  have B3 := Lib.hid (B2.out.drew.trans (hb.mono B2.out.drew.size))
  clear hb X2 K2 B2
  have Pz3 := Lib.hid hrPz
  have NPz := Lib.hid hNPz
  clear hrPz hNPz
  go_wp2_with fail
  refine (CSz.out _ _ _ Pz3.out).mono ?_
  rintro e w' ⟨rfl, rfl⟩
  obtain ⟨d0, d1, d2⟩ := bk3 K3.out
  go_wp2
  go_region_held3 (fun w' : World => w'.cell? ⟨w.heap.size, 0, none⟩ = some (.int .i64 f) ∧ w'.cell? ⟨w.heap.size, 1, none⟩ = some (.int .i64 s) ∧ w'.cell? ⟨w.heap.size, 2, none⟩ = some (.int .i64 d)) ((go_split_ands; simp [go_sem, *])) (first
    | (go_at_call 18; refine (CC.out _ B3.out.drew).mono ?_; rintro e wq ⟨⟨vq, rfl, hrowq⟩, hbq⟩; obtain ⟨Aq, cq, rfl, _, hrq⟩ := rd_of_own hrowq; have hxl := CCL.out; rw [hxl] at hrq ⊢; have Kq := (K3.out.drew).later hbq; obtain ⟨d0, d1, d2⟩ := bk3 Kq)
    | (go_at_call 46; refine (CEx.out Aq cq _ hrq).mono ?_; rintro e w4 ⟨⟨APy, cPy, rfl, hrPy, hcPy, hNPy⟩, hbp⟩; have Kp := Kq.later hbp; obtain ⟨d0, d1, d2⟩ := bk3 Kp))
  have hb : Below w3.drew.heap.size w3.drew w4 := hbq.trans (hbp.mono hbq.size)
  clear d0 d1 d2 hbq hbp Kq Kp hrq hrowq hxl
  have X4 := Lib.hid (X3.out.drew.below hb)
  have K4 := Lib.hid (K3.out.drew.later hb)
  have B4 := Lib.hid (B3.out.drew.trans (hb.mono B3.out.drew.size))
  have Pz4 := Lib.hid (Pz3.out.drew.below hb)
  clear hb X3 K3 B3 Pz3
  have Py4 := Lib.hid hrPy
  have NPy := Lib.hid hNPy
  clear hrPy hNPy
  obtain ⟨d0, d1, d2⟩ := bk3 K4.out
  go_wp2
  go_region_held3 (fun w' : World => w'.cell? ⟨w.heap.size, 0, none⟩ = some (.int .i64 f) ∧ w'.cell? ⟨w.heap.size, 1, none⟩ = some (.int .i64 s) ∧ w'.cell? ⟨w.heap.size, 2, none⟩ = some (.int .i64 d)) ((go_split_ands; simp [go_sem, *])) (first
    | (go_at_call 18; refine (CP.out _ _ ys _ NPy.out Py4.out.drew).mono ?_; rintro e wq ⟨⟨vq, rfl, hrowq⟩, hbq⟩; obtain ⟨Aq, cq, rfl, _, hrq⟩ := rd_of_own hrowq; have hxl := CYL.out; rw [hxl] at hrq ⊢; have Kq := (K4.out.drew).later hbq; obtain ⟨d0, d1, d2⟩ := bk3 Kq)
    | (go_at_call 47; refine (CRy.out Aq cq _ hrq).mono ?_; rintro e w5 ⟨⟨APb, cPb, rfl, hrPb, hcPb, hNPb⟩, hbp⟩; have Kp := Kq.later hbp; obtain ⟨d0, d1, d2⟩ := bk3 Kp))
  have hb : Below w4.drew.heap.size w4.drew w5 := hbq.trans (hbp.mono hbq.size)
  clear d0 d1 d2 hbq hbp Kq Kp hrq hrowq hxl
  have X5 := Lib.hid (X4.out.drew.below hb)
  have K5 := Lib.hid (K4.out.drew.later hb)
  have B5 := Lib.hid (B4.out.drew.trans (hb.mono B4.out.drew.size))
  have Pz5 := Lib.hid (Pz4.out.drew.below hb)
  have Py5 := Lib.hid (Py4.out.drew.below hb)
  clear hb X4 K4 B4 Pz4 Py4
  have Pb5 := Lib.hid hrPb
  have NPb := Lib.hid hNPb
  clear hrPb hNPb
  go_wp2_with fail
  refine (CM.out _).mono ?_
  rintro e w' ⟨rfl, rfl⟩
  have hsl := HSL.out
  have hslt : ∀ W, (Instr.slice 22 (.slice APy n cPy) none (some (.int .i64 (k : Int))) none).run Try.prog W = .ok (.slice (cutA APy 0 cPy) k cPy) W := fun W => cutTo_run APy n cPy k k rfl (by omega) W
  have HSY := Lib.hid hslt
  clear hslt
  obtain ⟨ax, hax⟩ : ∃ ax, cutA A 0 c = ax := ⟨_, rfl⟩
  rw [hax] at hsl CK
  clear hax
  obtain ⟨d0, d1, d2⟩ := bk3 K5.out
  go_wp2
  go_region_held3 (fun w' : World => w'.cell? ⟨w.heap.size, 0, none⟩ = some (.int .i64 f) ∧ w'.cell? ⟨w.heap.size, 1, none⟩ = some (.int .i64 s) ∧ w'.cell? ⟨w.heap.size, 2, none⟩ = some (.int .i64 d)) ((go_split_ands; simp [go_sem, *])) (first
    | (go_at_call 18; refine (CK.out _ X5.out.drew).mono ?_; rintro e wq ⟨⟨vq, rfl, hrowq⟩, hbq⟩; obtain ⟨Aq, cq, rfl, _, hrq⟩ := rd_of_own hrowq; have hxl := CKL.out; rw [hxl] at hrq ⊢; have Kq := (K5.out.drew).later hbq; obtain ⟨d0, d1, d2⟩ := bk3 Kq)
    | (go_at_call 46; refine (CEk.out Aq cq _ hrq).mono ?_; rintro e w6 ⟨⟨APc, cPc, rfl, hrPc, hcPc, hNPc⟩, hbp⟩; have Kp := Kq.later hbp; obtain ⟨d0, d1, d2⟩ := bk3 Kp))
  have hb : Below w5.drew.heap.size w5.drew w6 := hbq.trans (hbp.mono hbq.size)
  clear d0 d1 d2 hbq hbp Kq Kp hrq hrowq hxl
  have X6 := Lib.hid (X5.out.drew.below hb)
  have K6 := Lib.hid (K5.out.drew.later hb)
  have B6 := Lib.hid (B5.out.drew.trans (hb.mono B5.out.drew.size))
  have Pz6 := Lib.hid (Pz5.out.drew.below hb)
  have Py6 := Lib.hid (Py5.out.drew.below hb)
  have Pb6 := Lib.hid (Pb5.out.drew.below hb)
  clear hb X5 K5 B5 Pz5 Py5 Pb5
  have Pc6 := Lib.hid hrPc
  have NPc := Lib.hid hNPc
  clear hrPc hNPc
  clear hsl
  go_wp2_with fail
  refine (ints_same _ _ _ _ _ _ _ Pb6.out X6.out hnI).mono ?_
  rintro e w' ⟨rfl, kk, rfl⟩
  have X7 := Lib.hid (X6.out.drewN kk)
  have K7 := Lib.hid (K6.out.drewN kk)
  have B7 := Lib.hid (belowDrewN B6.out kk)
  have Pz7 := Lib.hid (Pz6.out.drewN kk)
  have Py7 := Lib.hid (Py6.out.drewN kk)
  have Pb7 := Lib.hid (Pb6.out.drewN kk)
  have Pc7 := Lib.hid (Pc6.out.drewN kk)
  clear X6 K6 B6 Pz6 Py6 Pb6 Pc6
  obtain ⟨w7, hw7⟩ : ∃ W, w6.drewN kk = W := ⟨_, rfl⟩
  rw [hw7] at X7 K7 B7 Pz7 Py7 Pb7 Pc7 ⊢
  clear hw7
  have hsy := HSY.out
  have HCY := Lib.hid (rd_take Py7.out cPy k hk hcPy)
  obtain ⟨ay, hay⟩ : ∃ ay, cutA APy 0 cPy = ay := ⟨_, rfl⟩
  rw [hay] at hsy HCY
  clear hay
  go_wp2_with fail
  refine (ints_same _ _ _ _ _ _ _ Pc7.out HCY.out (by omega)).mono ?_
  rintro e w' ⟨rfl, kk, rfl⟩
  have X8 := Lib.hid (X7.out.drewN kk)
  have K8 := Lib.hid (K7.out.drewN kk)
  have B8 := Lib.hid (belowDrewN B7.out kk)
  have Pz8 := Lib.hid (Pz7.out.drewN kk)
  have Py8 := Lib.hid (Py7.out.drewN kk)
  have Pb8 := Lib.hid (Pb7.out.drewN kk)
  have Pc8 := Lib.hid (Pc7.out.drewN kk)
  clear X7 K7 B7 Pz7 Py7 Pb7 Pc7
  obtain ⟨w8, hw8⟩ : ∃ W, w7.drewN kk = W := ⟨_, rfl⟩
  rw [hw8] at X8 K8 B8 Pz8 Py8 Pb8 Pc8 ⊢
  clear hw8
  go_wp2
  go_ret
  exact ⟨by simp, B8.out⟩
set_option maxRecDepth 100000 in
set_option maxHeartbeats 4000000 in
theorem tbw_11 (f s d : Int) (A : Option Addr) (n c : Nat) (xs : List Int) (at_ : Int) (w : World) (zs : List Int) (hzl : zs.length = n) (ys : List Int) (hyl : ys.length = n) (k : Nat) (hk : k ≤ n) (hat : at_ % ((n : Int) + 1) = (k : Int)) (hr : RdI w A n xs) (hn : n ≤ 64) (hnc : n ≤ c) (hA : A = none → n = 0 ∧ c = 0)
    (CQ : ∀ W, Calls Try.prog 48 #[.agg #[.int .i64 f, .int .i64 s, .int .i64 d]] W fun e w' => e = .returned (.int .i64 0) ∧ Below W.heap.size W w')
    (CSg : ∀ W, RdI W A n xs → Calls Try.prog 19 #[.slice A n c] W fun e w' => e = .returned (.int .i64 0) ∧ W = w')
    (CRx : ∀ B cb W, RdI W B n xs → Calls Try.prog 47 #[.agg #[.int .i64 f, .int .i64 s, .int .i64 d], .slice B n cb] W (RdResN W 0 n zs))
    (CSz : ∀ B cb W, RdI W B n zs → Calls Try.prog 19 #[.slice B n cb] W fun e w' => e = .returned (.int .i64 0) ∧ W = w')
    (CEz : ∀ B cb W, RdI W B n zs → Calls Try.prog 46 #[.agg #[.int .i64 f, .int .i64 s, .int .i64 d], .slice B n cb] W (RdResN W 0 n xs))
    (CEx : ∀ B cb W, RdI W B n xs → Calls Try.prog 46 #[.agg #[.int .i64 f, .int .i64 s, .int .i64 d], .slice B n cb] W (RdResN W 0 n ys))
    (CRy : ∀ B cb W, RdI W B n ys → Calls Try.prog 47 #[.agg #[.int .i64 f, .int .i64 s, .int .i64 d], .slice B n cb] W (RdResN W 0 n xs))
    (CEk : ∀ B cb W, RdI W B k (xs.take k) → Calls Try.prog 46 #[.agg #[.int .i64 f, .int .i64 s, .int .i64 d], .slice B k cb] W (RdResN W 0 k (ys.take k)))
    : Calls Try.prog 9 #[.agg #[.int .i64 f, .int .i64 s, .int .i64 d], .slice A n c, .int .i64 at_] w fun e w' => e = .returned (.bool true) ∧ Below w.heap.size w w' := by
  have CC : Hid (∀ W, Below w.heap.size w W → Calls Try.prog 18 #[.slice A n c] W (OwnS W xs)) := fun W hb => copyInts_any A n c xs W hA (hr.below hb) (by omega)
  have CCL : Hid (xs.length = n) := hr.1
  have CZL : Hid (zs.length = n) := hzl
  have CP : Hid (∀ B cb xs W, (B = none → n = 0 ∧ cb = 0) → RdI W B n xs → Calls Try.prog 18 #[.slice B n cb] W (OwnS W xs)) := fun B cb xs W hB h => copyInts_any B n cb xs W hB h (by omega)
  have CQ := Lib.hid CQ
  have CSg := Lib.hid CSg
  have CRx := Lib.hid CRx
  have CSz := Lib.hid CSz
  have CEz := Lib.hid CEz
  have CEx := Lib.hid CEx
  have CRy := Lib.hid CRy
  have CEk := Lib.hid CEk
  have CYL : Hid (ys.length = n) := hyl
  have hsl : ∀ W, (Instr.slice 22 (.slice A n c) none (some (.int .i64 (k : Int))) none).run Try.prog W = .ok (.slice (cutA A 0 c) k c) W := fun W => cutTo_run A n c k k rfl (by omega) W
  have HSL := Lib.hid hsl
  clear hsl
  have CK : Hid (∀ W, RdI W A n xs → Calls Try.prog 18 #[.slice (cutA A 0 c) k c] W (OwnS W (xs.take k))) := fun W h => copyInts_any (cutA A 0 c) k c (xs.take k) W (cutA_none hA hk) (rd_take h c k hk hnc) (by omega)
  have CKL : Hid ((xs.take k).length = k) := by show _ = _; rw [List.length_take, hr.1]; omega
  have wn1 : IntKind.i64.wrap ((n : Int) + 1) = (n : Int) + 1 := IntWalk.i64_in _ (by omega)
  have CM := Lib.hid (fun W => mod_all at_ ((n : Int) + 1) (by omega) W)
  rw [hat] at CM
  clear hat hyl
  have h64 : ¬ (64 : Int) < (n : Int) := by omega
  have hnI : n ≤ 9223372036854775806 := by omega
  have X0 := Lib.hid (hr.below (below1 w (.cells #[.int .i64 f, .int .i64 s, .int .i64 d] 68)))
  have K0 := Lib.hid (Bk.new w 68 #[.int .i64 f, .int .i64 s, .int .i64 d])
  have B0 := Lib.hid (below1 w (.cells #[.int .i64 f, .int .i64 s, .int .i64 d] 68))
  clear hr hzl
  have HNN := Lib.hid hA
  clear hA
  go_enter Try.func9, Try.ntmps9
  go_wp2_with fail
  refine (awake_any _).mono ?_
  rintro e w1 ⟨rfl, hb⟩
  have X1 := Lib.hid (X0.out.below hb)
  have K1 := Lib.hid (K0.out.later hb)
  have B1 := Lib.hid (B0.out.trans (hb.mono B0.out.size))
  clear X0 K0 B0 hb
  obtain ⟨d0, d1, d2⟩ := bk3 K1.out
  go_wp2_with fail
  refine (CQ.out _).mono ?_
  rintro e w2 ⟨rfl, hb⟩
  have X2 := Lib.hid (X1.out.below hb)
  have K2 := Lib.hid (K1.out.later hb)
  have B2 := Lib.hid (B1.out.trans (hb.mono B1.out.size))
  clear X1 K1 B1 hb
  clear d0 d1 d2
  go_wp2_with fail
  refine (CSg.out _ X2.out).mono ?_
  rintro e w' ⟨rfl, rfl⟩
  obtain ⟨d0, d1, d2⟩ := bk3 K2.out
  go_wp2
  go_region_held3 (fun w' : World => w'.cell? ⟨w.heap.size, 0, none⟩ = some (.int .i64 f) ∧ w'.cell? ⟨w.heap.size, 1, none⟩ = some (.int .i64 s) ∧ w'.cell? ⟨w.heap.size, 2, none⟩ = some (.int .i64 d)) ((go_split_ands; simp [go_sem, *])) (first
    | (go_at_call 18; refine (CC.out _ B2.out.drew).mono ?_; rintro e wq ⟨⟨vq, rfl, hrowq⟩, hbq⟩; obtain ⟨Aq, cq, rfl, _, hrq⟩ := rd_of_own hrowq; have hxl := CCL.out; rw [hxl] at hrq ⊢; have Kq := (K2.out.drew).later hbq; obtain ⟨d0, d1, d2⟩ := bk3 Kq)
    | (go_at_call 47; refine (CRx.out Aq cq _ hrq).mono ?_; rintro e w3 ⟨⟨APz, cPz, rfl, hrPz, hcPz, hNPz⟩, hbp⟩; have Kp := Kq.later hbp; obtain ⟨d0, d1, d2⟩ := bk3 Kp))
  have hb : Below w2.drew.heap.size w2.drew w3 := hbq.trans (hbp.mono hbq.size)
  clear d0 d1 d2 hbq hbp Kq Kp hrq hrowq hxl
  have X3 := Lib.hid (X2.out.drew.below hb)
  have K3 := Lib.hid (K2.out.drew.later hb)
  have B3 := Lib.hid (B2.out.drew.trans (hb.mono B2.out.drew.size))
  clear hb X2 K2 B2
  have Pz3 := Lib.hid hrPz
  have NPz := Lib.hid hNPz
  clear hrPz hNPz
  go_wp2_with fail
  refine (CSz.out _ _ _ Pz3.out).mono ?_
  rintro e w' ⟨rfl, rfl⟩
  obtain ⟨d0, d1, d2⟩ := bk3 K3.out
  go_wp2
  go_region_held3 (fun w' : World => w'.cell? ⟨w.heap.size, 0, none⟩ = some (.int .i64 f) ∧ w'.cell? ⟨w.heap.size, 1, none⟩ = some (.int .i64 s) ∧ w'.cell? ⟨w.heap.size, 2, none⟩ = some (.int .i64 d)) ((go_split_ands; simp [go_sem, *])) (first
    | (go_at_call 18; refine (CP.out _ _ zs _ NPz.out Pz3.out.drew).mono ?_; rintro e wq ⟨⟨vq, rfl, hrowq⟩, hbq⟩; obtain ⟨Aq, cq, rfl, _, hrq⟩ := rd_of_own hrowq; have hxl := CZL.out; rw [hxl] at hrq ⊢; have Kq := (K3.out.drew).later hbq; obtain ⟨d0, d1, d2⟩ := bk3 Kq)
    | (go_at_call 46; refine (CEz.out Aq cq _ hrq).mono ?_; rintro e w4 ⟨⟨APw, cPw, rfl, hrPw, hcPw, hNPw⟩, hbp⟩; have Kp := Kq.later hbp; obtain ⟨d0, d1, d2⟩ := bk3 Kp))
  have hb : Below w3.drew.heap.size w3.drew w4 := hbq.trans (hbp.mono hbq.size)
  clear d0 d1 d2 hbq hbp Kq Kp hrq hrowq hxl
  have X4 := Lib.hid (X3.out.drew.below hb)
  have K4 := Lib.hid (K3.out.drew.later hb)
  have B4 := Lib.hid (B3.out.drew.trans (hb.mono B3.out.drew.size))
  have Pz4 := Lib.hid (Pz3.out.drew.below hb)
  clear hb X3 K3 B3 Pz3
  have Pw4 := Lib.hid hrPw
  have NPw := Lib.hid hNPw
  clear hrPw hNPw
  go_wp2_with fail
  refine (ints_same _ _ _ _ _ _ _ Pw4.out X4.out hnI).mono ?_
  rintro e w' ⟨rfl, kk, rfl⟩
  have X5 := Lib.hid (X4.out.drewN kk)
  have K5 := Lib.hid (K4.out.drewN kk)
  have B5 := Lib.hid (belowDrewN B4.out kk)
  have Pz5 := Lib.hid (Pz4.out.drewN kk)
  have Pw5 := Lib.hid (Pw4.out.drewN kk)
  clear X4 K4 B4 Pz4 Pw4
  obtain ⟨w5, hw5⟩ : ∃ W, w4.drewN kk = W := ⟨_, rfl⟩
  rw [hw5] at X5 K5 B5 Pz5 Pw5 ⊢
  clear hw5
  obtain ⟨d0, d1, d2⟩ := bk3 K5.out
  go_wp2
  go_region_held3 (fun w' : World => w'.cell? ⟨w.heap.size, 0, none⟩ = some (.int .i64 f) ∧ w'.cell? ⟨w.heap.size, 1, none⟩ = some (.int .i64 s) ∧ w'.cell? ⟨w.heap.size, 2, none⟩ = some (.int .i64 d)) ((go_split_ands; simp [go_sem, *])) (first
    | (go_at_call 18; refine (CC.out _ B5.out.drew).mono ?_; rintro e wq ⟨⟨vq, rfl, hrowq⟩, hbq⟩; obtain ⟨Aq, cq, rfl, _, hrq⟩ := rd_of_own hrowq; have hxl := CCL.out; rw [hxl] at hrq ⊢; have Kq := (K5.out.drew).later hbq; obtain ⟨d0, d1, d2⟩ := bk3 Kq)
    | (go_at_call 46; refine (CEx.out Aq cq _ hrq).mono ?_; rintro e w6 ⟨⟨APy, cPy, rfl, hrPy, hcPy, hNPy⟩, hbp⟩; have Kp := Kq.later hbp; obtain ⟨d0, d1, d2⟩ := bk3 Kp))
  have hb : Below w5.drew.heap.size w5.drew w6 := hbq.trans (hbp.mono hbq.size)
  clear d0 d1 d2 hbq hbp Kq Kp hrq hrowq hxl
  have X6 := Lib.hid (X5.out.drew.below hb)
  have K6 := Lib.hid (K5.out.drew.later hb)
  have B6 := Lib.hid (B5.out.drew.trans (hb.mono B5.out.drew.size))
  have Pz6 := Lib.hid (Pz5.out.drew.below hb)
  have Pw6 := Lib.hid (Pw5.out.drew.below hb)
  clear hb X5 K5 B5 Pz5 Pw5
  have Py6 := Lib.hid hrPy
  have NPy := Lib.hid hNPy
  clear hrPy hNPy
  obtain ⟨d0, d1, d2⟩ := bk3 K6.out
  go_wp2
  go_region_held3 (fun w' : World => w'.cell? ⟨w.heap.size, 0, none⟩ = some (.int .i64 f) ∧ w'.cell? ⟨w.heap.size, 1, none⟩ = some (.int .i64 s) ∧ w'.cell? ⟨w.heap.size, 2, none⟩ = some (.int .i64 d)) ((go_split_ands; simp [go_sem, *])) (first
    | (go_at_call 18; refine (CP.out _ _ ys _ NPy.out Py6.out.drew).mono ?_; rintro e wq ⟨⟨vq, rfl, hrowq⟩, hbq⟩; obtain ⟨Aq, cq, rfl, _, hrq⟩ := rd_of_own hrowq; have hxl := CYL.out; rw [hxl] at hrq ⊢; have Kq := (K6.out.drew).later hbq; obtain ⟨d0, d1, d2⟩ := bk3 Kq)
    | (go_at_call 47; refine (CRy.out Aq cq _ hrq).mono ?_; rintro e w7 ⟨⟨APb, cPb, rfl, hrPb, hcPb, hNPb⟩, hbp⟩; have Kp := Kq.later hbp; obtain ⟨d0, d1, d2⟩ := bk3 Kp))
  have hb : Below w6.drew.heap.size w6.drew w7 := hbq.trans (hbp.mono hbq.size)
  clear d0 d1 d2 hbq hbp Kq Kp hrq hrowq hxl
  have X7 := Lib.hid (X6.out.drew.below hb)
  have K7 := Lib.hid (K6.out.drew.later hb)
  have B7 := Lib.hid (B6.out.drew.trans (hb.mono B6.out.drew.size))
  have Pz7 := Lib.hid (Pz6.out.drew.below hb)
  have Pw7 := Lib.hid (Pw6.out.drew.below hb)
  have Py7 := Lib.hid (Py6.out.drew.below hb)
  clear hb X6 K6 B6 Pz6 Pw6 Py6
  have Pb7 := Lib.hid hrPb
  have NPb := Lib.hid hNPb
  clear hrPb hNPb
  go_wp2_with fail
  refine (CM.out _).mono ?_
  rintro e w' ⟨rfl, rfl⟩
  have hsl := HSL.out
  have hslt : ∀ W, (Instr.slice 22 (.slice APy n cPy) none (some (.int .i64 (k : Int))) none).run Try.prog W = .ok (.slice (cutA APy 0 cPy) k cPy) W := fun W => cutTo_run APy n cPy k k rfl (by omega) W
  have HSY := Lib.hid hslt
  clear hslt
  obtain ⟨ax, hax⟩ : ∃ ax, cutA A 0 c = ax := ⟨_, rfl⟩
  rw [hax] at hsl CK
  clear hax
  obtain ⟨d0, d1, d2⟩ := bk3 K7.out
  go_wp2
  go_region_held3 (fun w' : World => w'.cell? ⟨w.heap.size, 0, none⟩ = some (.int .i64 f) ∧ w'.cell? ⟨w.heap.size, 1, none⟩ = some (.int .i64 s) ∧ w'.cell? ⟨w.heap.size, 2, none⟩ = some (.int .i64 d)) ((go_split_ands; simp [go_sem, *])) (first
    | (go_at_call 18; refine (CK.out _ X7.out.drew).mono ?_; rintro e wq ⟨⟨vq, rfl, hrowq⟩, hbq⟩; obtain ⟨Aq, cq, rfl, _, hrq⟩ := rd_of_own hrowq; have hxl := CKL.out; rw [hxl] at hrq ⊢; have Kq := (K7.out.drew).later hbq; obtain ⟨d0, d1, d2⟩ := bk3 Kq)
    | (go_at_call 46; refine (CEk.out Aq cq _ hrq).mono ?_; rintro e w8 ⟨⟨APc, cPc, rfl, hrPc, hcPc, hNPc⟩, hbp⟩; have Kp := Kq.later hbp; obtain ⟨d0, d1, d2⟩ := bk3 Kp))
  have hb : Below w7.drew.heap.size w7.drew w8 := hbq.trans (hbp.mono hbq.size)
  clear d0 d1 d2 hbq hbp Kq Kp hrq hrowq hxl
  have X8 := Lib.hid (X7.out.drew.below hb)
  have K8 := Lib.hid (K7.out.drew.later hb)
  have B8 := Lib.hid (B7.out.drew.trans (hb.mono B7.out.drew.size))
  have Pz8 := Lib.hid (Pz7.out.drew.below hb)
  have Pw8 := Lib.hid (Pw7.out.drew.below hb)
  have Py8 := Lib.hid (Py7.out.drew.below hb)
  have Pb8 := Lib.hid (Pb7.out.drew.below hb)
  clear hb X7 K7 B7 Pz7 Pw7 Py7 Pb7
  have Pc8 := Lib.hid hrPc
  have NPc := Lib.hid hNPc
  clear hrPc hNPc
  clear hsl
  go_wp2_with fail
  refine (ints_same _ _ _ _ _ _ _ Pb8.out X8.out hnI).mono ?_
  rintro e w' ⟨rfl, kk, rfl⟩
  have X9 := Lib.hid (X8.out.drewN kk)
  have K9 := Lib.hid (K8.out.drewN kk)
  have B9 := Lib.hid (belowDrewN B8.out kk)
  have Pz9 := Lib.hid (Pz8.out.drewN kk)
  have Pw9 := Lib.hid (Pw8.out.drewN kk)
  have Py9 := Lib.hid (Py8.out.drewN kk)
  have Pb9 := Lib.hid (Pb8.out.drewN kk)
  have Pc9 := Lib.hid (Pc8.out.drewN kk)
  clear X8 K8 B8 Pz8 Pw8 Py8 Pb8 Pc8
  obtain ⟨w9, hw9⟩ : ∃ W, w8.drewN kk = W := ⟨_, rfl⟩
  rw [hw9] at X9 K9 B9 Pz9 Pw9 Py9 Pb9 Pc9 ⊢
  clear hw9
  have hsy := HSY.out
  have HCY := Lib.hid (rd_take Py9.out cPy k hk hcPy)
  obtain ⟨ay, hay⟩ : ∃ ay, cutA APy 0 cPy = ay := ⟨_, rfl⟩
  rw [hay] at hsy HCY
  clear hay
  go_wp2_with fail
  refine (ints_same _ _ _ _ _ _ _ Pc9.out HCY.out (by omega)).mono ?_
  rintro e w' ⟨rfl, kk, rfl⟩
  have X10 := Lib.hid (X9.out.drewN kk)
  have K10 := Lib.hid (K9.out.drewN kk)
  have B10 := Lib.hid (belowDrewN B9.out kk)
  have Pz10 := Lib.hid (Pz9.out.drewN kk)
  have Pw10 := Lib.hid (Pw9.out.drewN kk)
  have Py10 := Lib.hid (Py9.out.drewN kk)
  have Pb10 := Lib.hid (Pb9.out.drewN kk)
  have Pc10 := Lib.hid (Pc9.out.drewN kk)
  clear X9 K9 B9 Pz9 Pw9 Py9 Pb9 Pc9
  obtain ⟨w10, hw10⟩ : ∃ W, w9.drewN kk = W := ⟨_, rfl⟩
  rw [hw10] at X10 K10 B10 Pz10 Pw10 Py10 Pb10 Pc10 ⊢
  clear hw10
  go_wp2
  go_ret
  exact ⟨by simp, B10.out⟩

end Go.Proofs.Ytghpofhpkbgckaa
