import Derived.Test.YtghpofhpkbgckaaE47

namespace Go.Proofs.Ytghpofhpkbgckaa
open Go.RowKit

theorem ints_same (A B : Option Addr) (n c d : Nat) (xs : List Int) (w : World) (ha : RdI w A n xs) (hb : RdI w B n xs) (hn : n ≤ 9223372036854775806) :
    Calls Try.prog 21 #[.slice A n c, .slice B n d] w fun e w' => e = .returned (.bool true) ∧ ∃ k, w' = w.drewN k := by
  have := ints_any A B n n c d xs xs w ha hb hn hn
  rwa [decide_eq_true rfl] at this
/-- A list of the call's own that reads as xs, and an error. -/
def RdRes (w : World) (E : Int) (n : Nat) (xs : List Int) (e : Ending) (w' : World) : Prop :=
  (∃ A' c', e = .returned (.tuple #[.slice A' n c', .int .i64 E]) ∧ RdI w' A' n xs) ∧ Below w.heap.size w w'
theorem OwnRes.rd {w w' : World} {E : Int} {n : Nat} {xs : List Int} {e : Ending} (h : OwnRes w E xs e w') (hn : xs.length = n) : RdRes w E n xs e w' := by
  obtain ⟨⟨v, rfl, ho⟩, hb⟩ := h
  obtain ⟨A, c, rfl, _, hr⟩ := rd_of_own ho
  rw [hn] at hr ⊢
  exact ⟨⟨A, c, rfl, hr⟩, hb⟩
def RdOne (w : World) (n : Nat) (xs : List Int) (e : Ending) (w' : World) : Prop :=
  (∃ A' c', e = .returned (.slice A' n c') ∧ RdI w' A' n xs) ∧ Below w.heap.size w w'
theorem OwnS.rd {w w' : World} {n : Nat} {xs : List Int} {e : Ending} (h : OwnS w xs e w') (hn : xs.length = n) : RdOne w n xs e w' := by
  obtain ⟨⟨v, rfl, ho⟩, hb⟩ := h
  obtain ⟨A, c, rfl, _, hr⟩ := rd_of_own ho
  rw [hn] at hr ⊢
  exact ⟨⟨A, c, rfl, hr⟩, hb⟩
def RdResB (w : World) (b : Bool) (n : Nat) (xs : List Int) (e : Ending) (w' : World) : Prop :=
  (∃ A' c', e = .returned (.tuple #[.slice A' n c', .bool b]) ∧ RdI w' A' n xs) ∧ Below w.heap.size w w'
theorem OwnResB.rd {w w' : World} {b : Bool} {n : Nat} {xs : List Int} {e : Ending} (h : OwnResB w b xs e w') (hn : xs.length = n) : RdResB w b n xs e w' := by
  obtain ⟨⟨v, rfl, ho⟩, hb⟩ := h
  obtain ⟨A, c, rfl, _, hr⟩ := rd_of_own ho
  rw [hn] at hr ⊢
  exact ⟨⟨A, c, rfl, hr⟩, hb⟩
theorem neF {D : Int} (h : ¬ D = 0) : (D == 0) = false := by rw [beq_eq_false_iff_ne]; exact h
theorem neT {D : Int} (h : ¬ D = 0) : (D != 0) = true := by rw [bne_iff_ne]; exact h
set_option maxRecDepth 100000 in
set_option maxHeartbeats 4000000 in
theorem eqw_D (f s d : Int) (A : Option Addr) (n c : Nat) (xs : List Int) (A2 : Option Addr) (n2 c2 : Nat) (ys : List Int) (w : World) (D : Int) (hD : ¬ D = 0) (hr : RdI w A n xs) (hr2 : RdI w A2 n2 ys) (hn : n ≤ 402) (hn2 : n2 ≤ 402) (hsh : shortB n = true) (hsh2 : shortB n2 = true) (hA : A = none → n = 0 ∧ c = 0) (hA2 : A2 = none → n2 = 0 ∧ c2 = 0)
    (CEq : ∀ B cb W, RdI W B n xs → Calls Try.prog 46 #[.agg #[.int .i64 f, .int .i64 s, .int .i64 d], .slice B n cb] W (RdRes W (D) 0 []))
    (CRs : ∀ B cb W, RdI W B n2 ys → Calls Try.prog 47 #[.agg #[.int .i64 f, .int .i64 s, .int .i64 d], .slice B n2 cb] W (RdRes W (D) 0 []))
    (CQ : ∀ W, Calls Try.prog 48 #[.agg #[.int .i64 f, .int .i64 s, .int .i64 d]] W fun e w' => e = .returned (.int .i64 D) ∧ Below W.heap.size W w')
    (CK : ∀ W, Calls Try.prog 49 #[.agg #[.int .i64 f, .int .i64 s, .int .i64 d]] W fun e w' => e = .returned (.int .i64 D) ∧ Below W.heap.size W w')
    : Calls Try.prog 8 #[.agg #[.int .i64 f, .int .i64 s, .int .i64 d], .slice A n c, .slice A2 n2 c2] w fun e w' => e = .returned (.bool true) ∧ Below w.heap.size w w' := by
  have CC : Hid (∀ W, Below w.heap.size w W → Calls Try.prog 18 #[.slice A n c] W (OwnS W xs)) := fun W hb => copyInts_any A n c xs W hA (hr.below hb) (by omega)
  have CCL : Hid (xs.length = n) := hr.1
  have CD : Hid (∀ W, Below w.heap.size w W → Calls Try.prog 18 #[.slice A2 n2 c2] W (OwnS W ys)) := fun W hb => copyInts_any A2 n2 c2 ys W hA2 (hr2.below hb) (by omega)
  have CDL : Hid (ys.length = n2) := hr2.1
  have CSh := Lib.hid (fun W => short_any A n c W (by omega))
  rw [hsh] at CSh
  have CSh2 := Lib.hid (fun W => short_any A2 n2 c2 W (by omega))
  rw [hsh2] at CSh2
  have CEq := Lib.hid CEq
  have CRs := Lib.hid CRs
  have CQ := Lib.hid CQ
  have CK := Lib.hid CK
  have dD0 := neF hD
  have dD1 := neT hD
  clear hD
  have X0 := Lib.hid (hr.below (below1 w (.cells #[.int .i64 f, .int .i64 s, .int .i64 d] 68)))
  have Y0 := Lib.hid (hr2.below (below1 w (.cells #[.int .i64 f, .int .i64 s, .int .i64 d] 68)))
  have K0 := Lib.hid (Bk.new w 68 #[.int .i64 f, .int .i64 s, .int .i64 d])
  have B0 := Lib.hid (below1 w (.cells #[.int .i64 f, .int .i64 s, .int .i64 d] 68))
  clear hr hr2 hsh hsh2 hA hA2
  go_enter Try.func8, Try.ntmps8
  go_wp2_with fail
  refine (awake_any _).mono ?_
  rintro e w1 ⟨rfl, hb⟩
  have X1 := Lib.hid (X0.out.below hb)
  have Y1 := Lib.hid (Y0.out.below hb)
  have K1 := Lib.hid (K0.out.later hb)
  have B1 := Lib.hid (B0.out.trans (hb.mono B0.out.size))
  clear X0 Y0 K0 B0 hb
  go_wp2_with fail
  refine (CSh.out _).mono ?_
  rintro e w' ⟨rfl, rfl⟩
  go_wp2_with fail
  refine (CSh2.out _).mono ?_
  rintro e w' ⟨rfl, rfl⟩
  obtain ⟨d0, d1, d2⟩ := bk3 K1.out
  go_wp2
  go_region_held3 (fun w' : World => w'.cell? ⟨w.heap.size, 0, none⟩ = some (.int .i64 f) ∧ w'.cell? ⟨w.heap.size, 1, none⟩ = some (.int .i64 s) ∧ w'.cell? ⟨w.heap.size, 2, none⟩ = some (.int .i64 d)) ((go_split_ands; simp [go_sem, *])) (first
    | (go_at_call 18; refine (CC.out _ B1.out.drew).mono ?_; rintro e wq ⟨⟨vq, rfl, hrowq⟩, hbq⟩; obtain ⟨Aq, cq, rfl, _, hrq⟩ := rd_of_own hrowq; have hxl := CCL.out; rw [hxl] at hrq ⊢; have Kq := (K1.out.drew).later hbq; obtain ⟨d0, d1, d2⟩ := bk3 Kq)
    | (go_at_call 46; refine (CEq.out Aq cq _ hrq).mono ?_; rintro e w2 ⟨⟨APa, cPa, rfl, hrPa⟩, hbp⟩; have Kp := Kq.later hbp; obtain ⟨d0, d1, d2⟩ := bk3 Kp))
  have hb : Below w1.drew.heap.size w1.drew w2 := hbq.trans (hbp.mono hbq.size)
  clear d0 d1 d2 hbq hbp Kq Kp hrq hrowq hxl
  have X2 := Lib.hid (X1.out.drew.below hb)
  have Y2 := Lib.hid (Y1.out.drew.below hb)
  have K2 := Lib.hid (K1.out.drew.later hb)
  have B2 := Lib.hid (B1.out.drew.trans (hb.mono B1.out.drew.size))
  clear hb X1 Y1 K1 B1
  have Pa2 := Lib.hid hrPa
  clear hrPa
  obtain ⟨d0, d1, d2⟩ := bk3 K2.out
  go_wp2
  go_region_held3 (fun w' : World => w'.cell? ⟨w.heap.size, 0, none⟩ = some (.int .i64 f) ∧ w'.cell? ⟨w.heap.size, 1, none⟩ = some (.int .i64 s) ∧ w'.cell? ⟨w.heap.size, 2, none⟩ = some (.int .i64 d)) ((go_split_ands; simp [go_sem, *])) (first
    | (go_at_call 18; refine (CD.out _ B2.out.drew).mono ?_; rintro e wq ⟨⟨vq, rfl, hrowq⟩, hbq⟩; obtain ⟨Aq, cq, rfl, _, hrq⟩ := rd_of_own hrowq; have hxl := CDL.out; rw [hxl] at hrq ⊢; have Kq := (K2.out.drew).later hbq; obtain ⟨d0, d1, d2⟩ := bk3 Kq)
    | (go_at_call 47; refine (CRs.out Aq cq _ hrq).mono ?_; rintro e w3 ⟨⟨APb, cPb, rfl, hrPb⟩, hbp⟩; have Kp := Kq.later hbp; obtain ⟨d0, d1, d2⟩ := bk3 Kp))
  have hb : Below w2.drew.heap.size w2.drew w3 := hbq.trans (hbp.mono hbq.size)
  clear d0 d1 d2 hbq hbp Kq Kp hrq hrowq hxl
  have X3 := Lib.hid (X2.out.drew.below hb)
  have Y3 := Lib.hid (Y2.out.drew.below hb)
  have K3 := Lib.hid (K2.out.drew.later hb)
  have B3 := Lib.hid (B2.out.drew.trans (hb.mono B2.out.drew.size))
  have Pa3 := Lib.hid (Pa2.out.drew.below hb)
  clear hb X2 Y2 K2 B2 Pa2
  have Pb3 := Lib.hid hrPb
  clear hrPb
  obtain ⟨d0, d1, d2⟩ := bk3 K3.out
  go_wp2_with fail
  refine (CQ.out _).mono ?_
  rintro e w4 ⟨rfl, hb⟩
  have X4 := Lib.hid (X3.out.below hb)
  have Y4 := Lib.hid (Y3.out.below hb)
  have K4 := Lib.hid (K3.out.later hb)
  have B4 := Lib.hid (B3.out.trans (hb.mono B3.out.size))
  have Pa4 := Lib.hid (Pa3.out.below hb)
  have Pb4 := Lib.hid (Pb3.out.below hb)
  clear X3 Y3 K3 B3 Pa3 Pb3 hb
  clear d0 d1 d2
  obtain ⟨d0, d1, d2⟩ := bk3 K4.out
  go_wp2_with fail
  refine (CK.out _).mono ?_
  rintro e w5 ⟨rfl, hb⟩
  have X5 := Lib.hid (X4.out.below hb)
  have Y5 := Lib.hid (Y4.out.below hb)
  have K5 := Lib.hid (K4.out.later hb)
  have B5 := Lib.hid (B4.out.trans (hb.mono B4.out.size))
  have Pa5 := Lib.hid (Pa4.out.below hb)
  have Pb5 := Lib.hid (Pb4.out.below hb)
  clear X4 Y4 K4 B4 Pa4 Pb4 hb
  clear d0 d1 d2
  go_wp2
  go_ret
  exact ⟨by simp, B5.out⟩
set_option maxRecDepth 100000 in
set_option maxHeartbeats 4000000 in
theorem eqw_OS (f s d : Int) (A : Option Addr) (n c : Nat) (xs : List Int) (A2 : Option Addr) (n2 c2 : Nat) (ys : List Int) (w : World) (O : Int) (hO : ¬ O = 0) (Sg : Int) (hS : ¬ Sg = 0) (hr : RdI w A n xs) (hr2 : RdI w A2 n2 ys) (hn : n ≤ 402) (hn2 : n2 ≤ 402) (hsh : shortB n = true) (hsh2 : shortB n2 = true) (hA : A = none → n = 0 ∧ c = 0) (hA2 : A2 = none → n2 = 0 ∧ c2 = 0)
    (CEq : ∀ B cb W, RdI W B n xs → Calls Try.prog 46 #[.agg #[.int .i64 f, .int .i64 s, .int .i64 d], .slice B n cb] W (RdRes W (Sg) 0 []))
    (CRs : ∀ B cb W, RdI W B n2 ys → Calls Try.prog 47 #[.agg #[.int .i64 f, .int .i64 s, .int .i64 d], .slice B n2 cb] W (RdRes W (O) 0 []))
    (CQ : ∀ W, Calls Try.prog 48 #[.agg #[.int .i64 f, .int .i64 s, .int .i64 d]] W fun e w' => e = .returned (.int .i64 0) ∧ Below W.heap.size W w')
    (CK : ∀ W, Calls Try.prog 49 #[.agg #[.int .i64 f, .int .i64 s, .int .i64 d]] W fun e w' => e = .returned (.int .i64 0) ∧ Below W.heap.size W w')
    (CO : ∀ W, RdI W A2 n2 ys → Calls Try.prog 50 #[.slice A2 n2 c2] W fun e w' => e = .returned (.int .i64 O) ∧ W = w')
    (CSg : ∀ W, RdI W A n xs → Calls Try.prog 19 #[.slice A n c] W fun e w' => e = .returned (.int .i64 Sg) ∧ W = w')
    : Calls Try.prog 8 #[.agg #[.int .i64 f, .int .i64 s, .int .i64 d], .slice A n c, .slice A2 n2 c2] w fun e w' => e = .returned (.bool true) ∧ Below w.heap.size w w' := by
  have CC : Hid (∀ W, Below w.heap.size w W → Calls Try.prog 18 #[.slice A n c] W (OwnS W xs)) := fun W hb => copyInts_any A n c xs W hA (hr.below hb) (by omega)
  have CCL : Hid (xs.length = n) := hr.1
  have CD : Hid (∀ W, Below w.heap.size w W → Calls Try.prog 18 #[.slice A2 n2 c2] W (OwnS W ys)) := fun W hb => copyInts_any A2 n2 c2 ys W hA2 (hr2.below hb) (by omega)
  have CDL : Hid (ys.length = n2) := hr2.1
  have CSh := Lib.hid (fun W => short_any A n c W (by omega))
  rw [hsh] at CSh
  have CSh2 := Lib.hid (fun W => short_any A2 n2 c2 W (by omega))
  rw [hsh2] at CSh2
  have CEq := Lib.hid CEq
  have CRs := Lib.hid CRs
  have CQ := Lib.hid CQ
  have CK := Lib.hid CK
  have CO := Lib.hid CO
  have CSg := Lib.hid CSg
  have dO0 := neF hO
  have dO1 := neT hO
  clear hO
  have dS0 := neF hS
  have dS1 := neT hS
  clear hS
  have X0 := Lib.hid (hr.below (below1 w (.cells #[.int .i64 f, .int .i64 s, .int .i64 d] 68)))
  have Y0 := Lib.hid (hr2.below (below1 w (.cells #[.int .i64 f, .int .i64 s, .int .i64 d] 68)))
  have K0 := Lib.hid (Bk.new w 68 #[.int .i64 f, .int .i64 s, .int .i64 d])
  have B0 := Lib.hid (below1 w (.cells #[.int .i64 f, .int .i64 s, .int .i64 d] 68))
  clear hr hr2 hsh hsh2 hA hA2
  go_enter Try.func8, Try.ntmps8
  go_wp2_with fail
  refine (awake_any _).mono ?_
  rintro e w1 ⟨rfl, hb⟩
  have X1 := Lib.hid (X0.out.below hb)
  have Y1 := Lib.hid (Y0.out.below hb)
  have K1 := Lib.hid (K0.out.later hb)
  have B1 := Lib.hid (B0.out.trans (hb.mono B0.out.size))
  clear X0 Y0 K0 B0 hb
  go_wp2_with fail
  refine (CSh.out _).mono ?_
  rintro e w' ⟨rfl, rfl⟩
  go_wp2_with fail
  refine (CSh2.out _).mono ?_
  rintro e w' ⟨rfl, rfl⟩
  obtain ⟨d0, d1, d2⟩ := bk3 K1.out
  go_wp2
  go_region_held3 (fun w' : World => w'.cell? ⟨w.heap.size, 0, none⟩ = some (.int .i64 f) ∧ w'.cell? ⟨w.heap.size, 1, none⟩ = some (.int .i64 s) ∧ w'.cell? ⟨w.heap.size, 2, none⟩ = some (.int .i64 d)) ((go_split_ands; simp [go_sem, *])) (first
    | (go_at_call 18; refine (CC.out _ B1.out.drew).mono ?_; rintro e wq ⟨⟨vq, rfl, hrowq⟩, hbq⟩; obtain ⟨Aq, cq, rfl, _, hrq⟩ := rd_of_own hrowq; have hxl := CCL.out; rw [hxl] at hrq ⊢; have Kq := (K1.out.drew).later hbq; obtain ⟨d0, d1, d2⟩ := bk3 Kq)
    | (go_at_call 46; refine (CEq.out Aq cq _ hrq).mono ?_; rintro e w2 ⟨⟨APa, cPa, rfl, hrPa⟩, hbp⟩; have Kp := Kq.later hbp; obtain ⟨d0, d1, d2⟩ := bk3 Kp))
  have hb : Below w1.drew.heap.size w1.drew w2 := hbq.trans (hbp.mono hbq.size)
  clear d0 d1 d2 hbq hbp Kq Kp hrq hrowq hxl
  have X2 := Lib.hid (X1.out.drew.below hb)
  have Y2 := Lib.hid (Y1.out.drew.below hb)
  have K2 := Lib.hid (K1.out.drew.later hb)
  have B2 := Lib.hid (B1.out.drew.trans (hb.mono B1.out.drew.size))
  clear hb X1 Y1 K1 B1
  have Pa2 := Lib.hid hrPa
  clear hrPa
  obtain ⟨d0, d1, d2⟩ := bk3 K2.out
  go_wp2
  go_region_held3 (fun w' : World => w'.cell? ⟨w.heap.size, 0, none⟩ = some (.int .i64 f) ∧ w'.cell? ⟨w.heap.size, 1, none⟩ = some (.int .i64 s) ∧ w'.cell? ⟨w.heap.size, 2, none⟩ = some (.int .i64 d)) ((go_split_ands; simp [go_sem, *])) (first
    | (go_at_call 18; refine (CD.out _ B2.out.drew).mono ?_; rintro e wq ⟨⟨vq, rfl, hrowq⟩, hbq⟩; obtain ⟨Aq, cq, rfl, _, hrq⟩ := rd_of_own hrowq; have hxl := CDL.out; rw [hxl] at hrq ⊢; have Kq := (K2.out.drew).later hbq; obtain ⟨d0, d1, d2⟩ := bk3 Kq)
    | (go_at_call 47; refine (CRs.out Aq cq _ hrq).mono ?_; rintro e w3 ⟨⟨APb, cPb, rfl, hrPb⟩, hbp⟩; have Kp := Kq.later hbp; obtain ⟨d0, d1, d2⟩ := bk3 Kp))
  have hb : Below w2.drew.heap.size w2.drew w3 := hbq.trans (hbp.mono hbq.size)
  clear d0 d1 d2 hbq hbp Kq Kp hrq hrowq hxl
  have X3 := Lib.hid (X2.out.drew.below hb)
  have Y3 := Lib.hid (Y2.out.drew.below hb)
  have K3 := Lib.hid (K2.out.drew.later hb)
  have B3 := Lib.hid (B2.out.drew.trans (hb.mono B2.out.drew.size))
  have Pa3 := Lib.hid (Pa2.out.drew.below hb)
  clear hb X2 Y2 K2 B2 Pa2
  have Pb3 := Lib.hid hrPb
  clear hrPb
  obtain ⟨d0, d1, d2⟩ := bk3 K3.out
  go_wp2_with fail
  refine (CQ.out _).mono ?_
  rintro e w4 ⟨rfl, hb⟩
  have X4 := Lib.hid (X3.out.below hb)
  have Y4 := Lib.hid (Y3.out.below hb)
  have K4 := Lib.hid (K3.out.later hb)
  have B4 := Lib.hid (B3.out.trans (hb.mono B3.out.size))
  have Pa4 := Lib.hid (Pa3.out.below hb)
  have Pb4 := Lib.hid (Pb3.out.below hb)
  clear X3 Y3 K3 B3 Pa3 Pb3 hb
  clear d0 d1 d2
  obtain ⟨d0, d1, d2⟩ := bk3 K4.out
  go_wp2_with fail
  refine (CK.out _).mono ?_
  rintro e w5 ⟨rfl, hb⟩
  have X5 := Lib.hid (X4.out.below hb)
  have Y5 := Lib.hid (Y4.out.below hb)
  have K5 := Lib.hid (K4.out.later hb)
  have B5 := Lib.hid (B4.out.trans (hb.mono B4.out.size))
  have Pa5 := Lib.hid (Pa4.out.below hb)
  have Pb5 := Lib.hid (Pb4.out.below hb)
  clear X4 Y4 K4 B4 Pa4 Pb4 hb
  clear d0 d1 d2
  go_wp2_with fail
  refine (CO.out _ Y5.out).mono ?_
  rintro e w' ⟨rfl, rfl⟩
  go_wp2_with fail
  refine (CSg.out _ X5.out).mono ?_
  rintro e w' ⟨rfl, rfl⟩
  go_wp2
  go_ret
  exact ⟨by simp, B5.out⟩
set_option maxRecDepth 100000 in
set_option maxHeartbeats 4000000 in
theorem eqw_O1 (f s d : Int) (A : Option Addr) (n c : Nat) (xs : List Int) (A2 : Option Addr) (n2 c2 : Nat) (ys : List Int) (w : World) (O : Int) (hO : ¬ O = 0) (La : List Int) (hr : RdI w A n xs) (hr2 : RdI w A2 n2 ys) (hn : n ≤ 402) (hn2 : n2 ≤ 402) (hsh : shortB n = true) (hsh2 : shortB n2 = true) (hA : A = none → n = 0 ∧ c = 0) (hA2 : A2 = none → n2 = 0 ∧ c2 = 0)
    (CEq : ∀ B cb W, RdI W B n xs → Calls Try.prog 46 #[.agg #[.int .i64 f, .int .i64 s, .int .i64 d], .slice B n cb] W (RdRes W (0) n La))
    (CRs : ∀ B cb W, RdI W B n2 ys → Calls Try.prog 47 #[.agg #[.int .i64 f, .int .i64 s, .int .i64 d], .slice B n2 cb] W (RdRes W (O) 0 []))
    (CQ : ∀ W, Calls Try.prog 48 #[.agg #[.int .i64 f, .int .i64 s, .int .i64 d]] W fun e w' => e = .returned (.int .i64 0) ∧ Below W.heap.size W w')
    (CK : ∀ W, Calls Try.prog 49 #[.agg #[.int .i64 f, .int .i64 s, .int .i64 d]] W fun e w' => e = .returned (.int .i64 0) ∧ Below W.heap.size W w')
    (CO : ∀ W, RdI W A2 n2 ys → Calls Try.prog 50 #[.slice A2 n2 c2] W fun e w' => e = .returned (.int .i64 O) ∧ W = w')
    (CSg : ∀ W, RdI W A n xs → Calls Try.prog 19 #[.slice A n c] W fun e w' => e = .returned (.int .i64 0) ∧ W = w')
    (CEr : ∀ W, RdI W A n xs → Calls Try.prog 52 #[.agg #[.int .i64 f, .int .i64 s, .int .i64 d], .slice A n c] W (RdResB W true n La))
    : Calls Try.prog 8 #[.agg #[.int .i64 f, .int .i64 s, .int .i64 d], .slice A n c, .slice A2 n2 c2] w fun e w' => e = .returned (.bool true) ∧ Below w.heap.size w w' := by
  have CC : Hid (∀ W, Below w.heap.size w W → Calls Try.prog 18 #[.slice A n c] W (OwnS W xs)) := fun W hb => copyInts_any A n c xs W hA (hr.below hb) (by omega)
  have CCL : Hid (xs.length = n) := hr.1
  have CD : Hid (∀ W, Below w.heap.size w W → Calls Try.prog 18 #[.slice A2 n2 c2] W (OwnS W ys)) := fun W hb => copyInts_any A2 n2 c2 ys W hA2 (hr2.below hb) (by omega)
  have CDL : Hid (ys.length = n2) := hr2.1
  have CSh := Lib.hid (fun W => short_any A n c W (by omega))
  rw [hsh] at CSh
  have CSh2 := Lib.hid (fun W => short_any A2 n2 c2 W (by omega))
  rw [hsh2] at CSh2
  have CEq := Lib.hid CEq
  have CRs := Lib.hid CRs
  have CQ := Lib.hid CQ
  have CK := Lib.hid CK
  have CO := Lib.hid CO
  have CSg := Lib.hid CSg
  have CEr := Lib.hid CEr
  have dO0 := neF hO
  have dO1 := neT hO
  clear hO
  have X0 := Lib.hid (hr.below (below1 w (.cells #[.int .i64 f, .int .i64 s, .int .i64 d] 68)))
  have Y0 := Lib.hid (hr2.below (below1 w (.cells #[.int .i64 f, .int .i64 s, .int .i64 d] 68)))
  have K0 := Lib.hid (Bk.new w 68 #[.int .i64 f, .int .i64 s, .int .i64 d])
  have B0 := Lib.hid (below1 w (.cells #[.int .i64 f, .int .i64 s, .int .i64 d] 68))
  clear hr hr2 hsh hsh2 hA hA2
  go_enter Try.func8, Try.ntmps8
  go_wp2_with fail
  refine (awake_any _).mono ?_
  rintro e w1 ⟨rfl, hb⟩
  have X1 := Lib.hid (X0.out.below hb)
  have Y1 := Lib.hid (Y0.out.below hb)
  have K1 := Lib.hid (K0.out.later hb)
  have B1 := Lib.hid (B0.out.trans (hb.mono B0.out.size))
  clear X0 Y0 K0 B0 hb
  go_wp2_with fail
  refine (CSh.out _).mono ?_
  rintro e w' ⟨rfl, rfl⟩
  go_wp2_with fail
  refine (CSh2.out _).mono ?_
  rintro e w' ⟨rfl, rfl⟩
  obtain ⟨d0, d1, d2⟩ := bk3 K1.out
  go_wp2
  go_region_held3 (fun w' : World => w'.cell? ⟨w.heap.size, 0, none⟩ = some (.int .i64 f) ∧ w'.cell? ⟨w.heap.size, 1, none⟩ = some (.int .i64 s) ∧ w'.cell? ⟨w.heap.size, 2, none⟩ = some (.int .i64 d)) ((go_split_ands; simp [go_sem, *])) (first
    | (go_at_call 18; refine (CC.out _ B1.out.drew).mono ?_; rintro e wq ⟨⟨vq, rfl, hrowq⟩, hbq⟩; obtain ⟨Aq, cq, rfl, _, hrq⟩ := rd_of_own hrowq; have hxl := CCL.out; rw [hxl] at hrq ⊢; have Kq := (K1.out.drew).later hbq; obtain ⟨d0, d1, d2⟩ := bk3 Kq)
    | (go_at_call 46; refine (CEq.out Aq cq _ hrq).mono ?_; rintro e w2 ⟨⟨APa, cPa, rfl, hrPa⟩, hbp⟩; have Kp := Kq.later hbp; obtain ⟨d0, d1, d2⟩ := bk3 Kp))
  have hb : Below w1.drew.heap.size w1.drew w2 := hbq.trans (hbp.mono hbq.size)
  clear d0 d1 d2 hbq hbp Kq Kp hrq hrowq hxl
  have X2 := Lib.hid (X1.out.drew.below hb)
  have Y2 := Lib.hid (Y1.out.drew.below hb)
  have K2 := Lib.hid (K1.out.drew.later hb)
  have B2 := Lib.hid (B1.out.drew.trans (hb.mono B1.out.drew.size))
  clear hb X1 Y1 K1 B1
  have Pa2 := Lib.hid hrPa
  clear hrPa
  obtain ⟨d0, d1, d2⟩ := bk3 K2.out
  go_wp2
  go_region_held3 (fun w' : World => w'.cell? ⟨w.heap.size, 0, none⟩ = some (.int .i64 f) ∧ w'.cell? ⟨w.heap.size, 1, none⟩ = some (.int .i64 s) ∧ w'.cell? ⟨w.heap.size, 2, none⟩ = some (.int .i64 d)) ((go_split_ands; simp [go_sem, *])) (first
    | (go_at_call 18; refine (CD.out _ B2.out.drew).mono ?_; rintro e wq ⟨⟨vq, rfl, hrowq⟩, hbq⟩; obtain ⟨Aq, cq, rfl, _, hrq⟩ := rd_of_own hrowq; have hxl := CDL.out; rw [hxl] at hrq ⊢; have Kq := (K2.out.drew).later hbq; obtain ⟨d0, d1, d2⟩ := bk3 Kq)
    | (go_at_call 47; refine (CRs.out Aq cq _ hrq).mono ?_; rintro e w3 ⟨⟨APb, cPb, rfl, hrPb⟩, hbp⟩; have Kp := Kq.later hbp; obtain ⟨d0, d1, d2⟩ := bk3 Kp))
  have hb : Below w2.drew.heap.size w2.drew w3 := hbq.trans (hbp.mono hbq.size)
  clear d0 d1 d2 hbq hbp Kq Kp hrq hrowq hxl
  have X3 := Lib.hid (X2.out.drew.below hb)
  have Y3 := Lib.hid (Y2.out.drew.below hb)
  have K3 := Lib.hid (K2.out.drew.later hb)
  have B3 := Lib.hid (B2.out.drew.trans (hb.mono B2.out.drew.size))
  have Pa3 := Lib.hid (Pa2.out.drew.below hb)
  clear hb X2 Y2 K2 B2 Pa2
  have Pb3 := Lib.hid hrPb
  clear hrPb
  obtain ⟨d0, d1, d2⟩ := bk3 K3.out
  go_wp2_with fail
  refine (CQ.out _).mono ?_
  rintro e w4 ⟨rfl, hb⟩
  have X4 := Lib.hid (X3.out.below hb)
  have Y4 := Lib.hid (Y3.out.below hb)
  have K4 := Lib.hid (K3.out.later hb)
  have B4 := Lib.hid (B3.out.trans (hb.mono B3.out.size))
  have Pa4 := Lib.hid (Pa3.out.below hb)
  have Pb4 := Lib.hid (Pb3.out.below hb)
  clear X3 Y3 K3 B3 Pa3 Pb3 hb
  clear d0 d1 d2
  obtain ⟨d0, d1, d2⟩ := bk3 K4.out
  go_wp2_with fail
  refine (CK.out _).mono ?_
  rintro e w5 ⟨rfl, hb⟩
  have X5 := Lib.hid (X4.out.below hb)
  have Y5 := Lib.hid (Y4.out.below hb)
  have K5 := Lib.hid (K4.out.later hb)
  have B5 := Lib.hid (B4.out.trans (hb.mono B4.out.size))
  have Pa5 := Lib.hid (Pa4.out.below hb)
  have Pb5 := Lib.hid (Pb4.out.below hb)
  clear X4 Y4 K4 B4 Pa4 Pb4 hb
  clear d0 d1 d2
  go_wp2_with fail
  refine (CO.out _ Y5.out).mono ?_
  rintro e w' ⟨rfl, rfl⟩
  go_wp2_with fail
  refine (CSg.out _ X5.out).mono ?_
  rintro e w' ⟨rfl, rfl⟩
  obtain ⟨d0, d1, d2⟩ := bk3 K5.out
  go_wp2_with fail
  refine (CEr.out _ X5.out).mono ?_
  rintro e w6 ⟨⟨APe, cPe, rfl, hrPe⟩, hb⟩
  have X6 := Lib.hid (X5.out.below hb)
  have Y6 := Lib.hid (Y5.out.below hb)
  have K6 := Lib.hid (K5.out.later hb)
  have B6 := Lib.hid (B5.out.trans (hb.mono B5.out.size))
  have Pa6 := Lib.hid (Pa5.out.below hb)
  have Pb6 := Lib.hid (Pb5.out.below hb)
  clear X5 Y5 K5 B5 Pa5 Pb5 hb
  have Pe6 := Lib.hid hrPe
  clear hrPe
  clear d0 d1 d2
  go_wp2_with fail
  refine (ints_same _ _ _ _ _ _ _ Pa6.out Pe6.out (by omega)).mono ?_
  rintro e w' ⟨rfl, kk, rfl⟩
  have X7 := Lib.hid (X6.out.drewN kk)
  have Y7 := Lib.hid (Y6.out.drewN kk)
  have K7 := Lib.hid (K6.out.drewN kk)
  have B7 := Lib.hid (belowDrewN B6.out kk)
  have Pa7 := Lib.hid (Pa6.out.drewN kk)
  have Pb7 := Lib.hid (Pb6.out.drewN kk)
  have Pe7 := Lib.hid (Pe6.out.drewN kk)
  clear X6 Y6 K6 B6 Pa6 Pb6 Pe6
  go_wp2
  go_ret
  exact ⟨by simp, B7.out⟩
set_option maxRecDepth 100000 in
set_option maxHeartbeats 4000000 in
theorem eqw_O0 (f s d : Int) (A : Option Addr) (n c : Nat) (xs : List Int) (A2 : Option Addr) (n2 c2 : Nat) (ys : List Int) (w : World) (O : Int) (hO : ¬ O = 0) (hr : RdI w A n xs) (hr2 : RdI w A2 n2 ys) (hn : n ≤ 402) (hn2 : n2 ≤ 402) (hsh : shortB n = true) (hsh2 : shortB n2 = true) (hA : A = none → n = 0 ∧ c = 0) (hA2 : A2 = none → n2 = 0 ∧ c2 = 0)
    (CEq : ∀ B cb W, RdI W B n xs → Calls Try.prog 46 #[.agg #[.int .i64 f, .int .i64 s, .int .i64 d], .slice B n cb] W (RdRes W (23) 0 []))
    (CRs : ∀ B cb W, RdI W B n2 ys → Calls Try.prog 47 #[.agg #[.int .i64 f, .int .i64 s, .int .i64 d], .slice B n2 cb] W (RdRes W (O) 0 []))
    (CQ : ∀ W, Calls Try.prog 48 #[.agg #[.int .i64 f, .int .i64 s, .int .i64 d]] W fun e w' => e = .returned (.int .i64 0) ∧ Below W.heap.size W w')
    (CK : ∀ W, Calls Try.prog 49 #[.agg #[.int .i64 f, .int .i64 s, .int .i64 d]] W fun e w' => e = .returned (.int .i64 0) ∧ Below W.heap.size W w')
    (CO : ∀ W, RdI W A2 n2 ys → Calls Try.prog 50 #[.slice A2 n2 c2] W fun e w' => e = .returned (.int .i64 O) ∧ W = w')
    (CSg : ∀ W, RdI W A n xs → Calls Try.prog 19 #[.slice A n c] W fun e w' => e = .returned (.int .i64 0) ∧ W = w')
    (CEr : ∀ W, RdI W A n xs → Calls Try.prog 52 #[.agg #[.int .i64 f, .int .i64 s, .int .i64 d], .slice A n c] W (RdResB W false 0 []))
    : Calls Try.prog 8 #[.agg #[.int .i64 f, .int .i64 s, .int .i64 d], .slice A n c, .slice A2 n2 c2] w fun e w' => e = .returned (.bool true) ∧ Below w.heap.size w w' := by
  have CC : Hid (∀ W, Below w.heap.size w W → Calls Try.prog 18 #[.slice A n c] W (OwnS W xs)) := fun W hb => copyInts_any A n c xs W hA (hr.below hb) (by omega)
  have CCL : Hid (xs.length = n) := hr.1
  have CD : Hid (∀ W, Below w.heap.size w W → Calls Try.prog 18 #[.slice A2 n2 c2] W (OwnS W ys)) := fun W hb => copyInts_any A2 n2 c2 ys W hA2 (hr2.below hb) (by omega)
  have CDL : Hid (ys.length = n2) := hr2.1
  have CSh := Lib.hid (fun W => short_any A n c W (by omega))
  rw [hsh] at CSh
  have CSh2 := Lib.hid (fun W => short_any A2 n2 c2 W (by omega))
  rw [hsh2] at CSh2
  have CEq := Lib.hid CEq
  have CRs := Lib.hid CRs
  have CQ := Lib.hid CQ
  have CK := Lib.hid CK
  have CO := Lib.hid CO
  have CSg := Lib.hid CSg
  have CEr := Lib.hid CEr
  have dO0 := neF hO
  have dO1 := neT hO
  clear hO
  have X0 := Lib.hid (hr.below (below1 w (.cells #[.int .i64 f, .int .i64 s, .int .i64 d] 68)))
  have Y0 := Lib.hid (hr2.below (below1 w (.cells #[.int .i64 f, .int .i64 s, .int .i64 d] 68)))
  have K0 := Lib.hid (Bk.new w 68 #[.int .i64 f, .int .i64 s, .int .i64 d])
  have B0 := Lib.hid (below1 w (.cells #[.int .i64 f, .int .i64 s, .int .i64 d] 68))
  clear hr hr2 hsh hsh2 hA hA2
  go_enter Try.func8, Try.ntmps8
  go_wp2_with fail
  refine (awake_any _).mono ?_
  rintro e w1 ⟨rfl, hb⟩
  have X1 := Lib.hid (X0.out.below hb)
  have Y1 := Lib.hid (Y0.out.below hb)
  have K1 := Lib.hid (K0.out.later hb)
  have B1 := Lib.hid (B0.out.trans (hb.mono B0.out.size))
  clear X0 Y0 K0 B0 hb
  go_wp2_with fail
  refine (CSh.out _).mono ?_
  rintro e w' ⟨rfl, rfl⟩
  go_wp2_with fail
  refine (CSh2.out _).mono ?_
  rintro e w' ⟨rfl, rfl⟩
  obtain ⟨d0, d1, d2⟩ := bk3 K1.out
  go_wp2
  go_region_held3 (fun w' : World => w'.cell? ⟨w.heap.size, 0, none⟩ = some (.int .i64 f) ∧ w'.cell? ⟨w.heap.size, 1, none⟩ = some (.int .i64 s) ∧ w'.cell? ⟨w.heap.size, 2, none⟩ = some (.int .i64 d)) ((go_split_ands; simp [go_sem, *])) (first
    | (go_at_call 18; refine (CC.out _ B1.out.drew).mono ?_; rintro e wq ⟨⟨vq, rfl, hrowq⟩, hbq⟩; obtain ⟨Aq, cq, rfl, _, hrq⟩ := rd_of_own hrowq; have hxl := CCL.out; rw [hxl] at hrq ⊢; have Kq := (K1.out.drew).later hbq; obtain ⟨d0, d1, d2⟩ := bk3 Kq)
    | (go_at_call 46; refine (CEq.out Aq cq _ hrq).mono ?_; rintro e w2 ⟨⟨APa, cPa, rfl, hrPa⟩, hbp⟩; have Kp := Kq.later hbp; obtain ⟨d0, d1, d2⟩ := bk3 Kp))
  have hb : Below w1.drew.heap.size w1.drew w2 := hbq.trans (hbp.mono hbq.size)
  clear d0 d1 d2 hbq hbp Kq Kp hrq hrowq hxl
  have X2 := Lib.hid (X1.out.drew.below hb)
  have Y2 := Lib.hid (Y1.out.drew.below hb)
  have K2 := Lib.hid (K1.out.drew.later hb)
  have B2 := Lib.hid (B1.out.drew.trans (hb.mono B1.out.drew.size))
  clear hb X1 Y1 K1 B1
  have Pa2 := Lib.hid hrPa
  clear hrPa
  obtain ⟨d0, d1, d2⟩ := bk3 K2.out
  go_wp2
  go_region_held3 (fun w' : World => w'.cell? ⟨w.heap.size, 0, none⟩ = some (.int .i64 f) ∧ w'.cell? ⟨w.heap.size, 1, none⟩ = some (.int .i64 s) ∧ w'.cell? ⟨w.heap.size, 2, none⟩ = some (.int .i64 d)) ((go_split_ands; simp [go_sem, *])) (first
    | (go_at_call 18; refine (CD.out _ B2.out.drew).mono ?_; rintro e wq ⟨⟨vq, rfl, hrowq⟩, hbq⟩; obtain ⟨Aq, cq, rfl, _, hrq⟩ := rd_of_own hrowq; have hxl := CDL.out; rw [hxl] at hrq ⊢; have Kq := (K2.out.drew).later hbq; obtain ⟨d0, d1, d2⟩ := bk3 Kq)
    | (go_at_call 47; refine (CRs.out Aq cq _ hrq).mono ?_; rintro e w3 ⟨⟨APb, cPb, rfl, hrPb⟩, hbp⟩; have Kp := Kq.later hbp; obtain ⟨d0, d1, d2⟩ := bk3 Kp))
  have hb : Below w2.drew.heap.size w2.drew w3 := hbq.trans (hbp.mono hbq.size)
  clear d0 d1 d2 hbq hbp Kq Kp hrq hrowq hxl
  have X3 := Lib.hid (X2.out.drew.below hb)
  have Y3 := Lib.hid (Y2.out.drew.below hb)
  have K3 := Lib.hid (K2.out.drew.later hb)
  have B3 := Lib.hid (B2.out.drew.trans (hb.mono B2.out.drew.size))
  have Pa3 := Lib.hid (Pa2.out.drew.below hb)
  clear hb X2 Y2 K2 B2 Pa2
  have Pb3 := Lib.hid hrPb
  clear hrPb
  obtain ⟨d0, d1, d2⟩ := bk3 K3.out
  go_wp2_with fail
  refine (CQ.out _).mono ?_
  rintro e w4 ⟨rfl, hb⟩
  have X4 := Lib.hid (X3.out.below hb)
  have Y4 := Lib.hid (Y3.out.below hb)
  have K4 := Lib.hid (K3.out.later hb)
  have B4 := Lib.hid (B3.out.trans (hb.mono B3.out.size))
  have Pa4 := Lib.hid (Pa3.out.below hb)
  have Pb4 := Lib.hid (Pb3.out.below hb)
  clear X3 Y3 K3 B3 Pa3 Pb3 hb
  clear d0 d1 d2
  obtain ⟨d0, d1, d2⟩ := bk3 K4.out
  go_wp2_with fail
  refine (CK.out _).mono ?_
  rintro e w5 ⟨rfl, hb⟩
  have X5 := Lib.hid (X4.out.below hb)
  have Y5 := Lib.hid (Y4.out.below hb)
  have K5 := Lib.hid (K4.out.later hb)
  have B5 := Lib.hid (B4.out.trans (hb.mono B4.out.size))
  have Pa5 := Lib.hid (Pa4.out.below hb)
  have Pb5 := Lib.hid (Pb4.out.below hb)
  clear X4 Y4 K4 B4 Pa4 Pb4 hb
  clear d0 d1 d2
  go_wp2_with fail
  refine (CO.out _ Y5.out).mono ?_
  rintro e w' ⟨rfl, rfl⟩
  go_wp2_with fail
  refine (CSg.out _ X5.out).mono ?_
  rintro e w' ⟨rfl, rfl⟩
  obtain ⟨d0, d1, d2⟩ := bk3 K5.out
  go_wp2_with fail
  refine (CEr.out _ X5.out).mono ?_
  rintro e w6 ⟨⟨APe, cPe, rfl, hrPe⟩, hb⟩
  have X6 := Lib.hid (X5.out.below hb)
  have Y6 := Lib.hid (Y5.out.below hb)
  have K6 := Lib.hid (K5.out.later hb)
  have B6 := Lib.hid (B5.out.trans (hb.mono B5.out.size))
  have Pa6 := Lib.hid (Pa5.out.below hb)
  have Pb6 := Lib.hid (Pb5.out.below hb)
  clear X5 Y5 K5 B5 Pa5 Pb5 hb
  have Pe6 := Lib.hid hrPe
  clear hrPe
  clear d0 d1 d2
  go_wp2
  go_ret
  exact ⟨by simp, B6.out⟩
set_option maxRecDepth 100000 in
set_option maxHeartbeats 4000000 in
theorem eqw_S (f s d : Int) (A : Option Addr) (n c : Nat) (xs : List Int) (A2 : Option Addr) (n2 c2 : Nat) (ys : List Int) (w : World) (Sg : Int) (hS : ¬ Sg = 0) (Lb : List Int) (hr : RdI w A n xs) (hr2 : RdI w A2 n2 ys) (hn : n ≤ 402) (hn2 : n2 ≤ 402) (hsh : shortB n = true) (hsh2 : shortB n2 = true) (hA : A = none → n = 0 ∧ c = 0) (hA2 : A2 = none → n2 = 0 ∧ c2 = 0)
    (CEq : ∀ B cb W, RdI W B n xs → Calls Try.prog 46 #[.agg #[.int .i64 f, .int .i64 s, .int .i64 d], .slice B n cb] W (RdRes W (Sg) 0 []))
    (CRs : ∀ B cb W, RdI W B n2 ys → Calls Try.prog 47 #[.agg #[.int .i64 f, .int .i64 s, .int .i64 d], .slice B n2 cb] W (RdRes W (0) n2 Lb))
    (CQ : ∀ W, Calls Try.prog 48 #[.agg #[.int .i64 f, .int .i64 s, .int .i64 d]] W fun e w' => e = .returned (.int .i64 0) ∧ Below W.heap.size W w')
    (CK : ∀ W, Calls Try.prog 49 #[.agg #[.int .i64 f, .int .i64 s, .int .i64 d]] W fun e w' => e = .returned (.int .i64 0) ∧ Below W.heap.size W w')
    (CO : ∀ W, RdI W A2 n2 ys → Calls Try.prog 50 #[.slice A2 n2 c2] W fun e w' => e = .returned (.int .i64 0) ∧ W = w')
    (CRr : ∀ W, RdI W A2 n2 ys → Calls Try.prog 51 #[.agg #[.int .i64 f, .int .i64 s, .int .i64 d], .slice A2 n2 c2] W (RdOne W n2 Lb))
    (CSg : ∀ W, RdI W A n xs → Calls Try.prog 19 #[.slice A n c] W fun e w' => e = .returned (.int .i64 Sg) ∧ W = w')
    : Calls Try.prog 8 #[.agg #[.int .i64 f, .int .i64 s, .int .i64 d], .slice A n c, .slice A2 n2 c2] w fun e w' => e = .returned (.bool true) ∧ Below w.heap.size w w' := by
  have CC : Hid (∀ W, Below w.heap.size w W → Calls Try.prog 18 #[.slice A n c] W (OwnS W xs)) := fun W hb => copyInts_any A n c xs W hA (hr.below hb) (by omega)
  have CCL : Hid (xs.length = n) := hr.1
  have CD : Hid (∀ W, Below w.heap.size w W → Calls Try.prog 18 #[.slice A2 n2 c2] W (OwnS W ys)) := fun W hb => copyInts_any A2 n2 c2 ys W hA2 (hr2.below hb) (by omega)
  have CDL : Hid (ys.length = n2) := hr2.1
  have CSh := Lib.hid (fun W => short_any A n c W (by omega))
  rw [hsh] at CSh
  have CSh2 := Lib.hid (fun W => short_any A2 n2 c2 W (by omega))
  rw [hsh2] at CSh2
  have CEq := Lib.hid CEq
  have CRs := Lib.hid CRs
  have CQ := Lib.hid CQ
  have CK := Lib.hid CK
  have CO := Lib.hid CO
  have CRr := Lib.hid CRr
  have CSg := Lib.hid CSg
  have dS0 := neF hS
  have dS1 := neT hS
  clear hS
  have X0 := Lib.hid (hr.below (below1 w (.cells #[.int .i64 f, .int .i64 s, .int .i64 d] 68)))
  have Y0 := Lib.hid (hr2.below (below1 w (.cells #[.int .i64 f, .int .i64 s, .int .i64 d] 68)))
  have K0 := Lib.hid (Bk.new w 68 #[.int .i64 f, .int .i64 s, .int .i64 d])
  have B0 := Lib.hid (below1 w (.cells #[.int .i64 f, .int .i64 s, .int .i64 d] 68))
  clear hr hr2 hsh hsh2 hA hA2
  go_enter Try.func8, Try.ntmps8
  go_wp2_with fail
  refine (awake_any _).mono ?_
  rintro e w1 ⟨rfl, hb⟩
  have X1 := Lib.hid (X0.out.below hb)
  have Y1 := Lib.hid (Y0.out.below hb)
  have K1 := Lib.hid (K0.out.later hb)
  have B1 := Lib.hid (B0.out.trans (hb.mono B0.out.size))
  clear X0 Y0 K0 B0 hb
  go_wp2_with fail
  refine (CSh.out _).mono ?_
  rintro e w' ⟨rfl, rfl⟩
  go_wp2_with fail
  refine (CSh2.out _).mono ?_
  rintro e w' ⟨rfl, rfl⟩
  obtain ⟨d0, d1, d2⟩ := bk3 K1.out
  go_wp2
  go_region_held3 (fun w' : World => w'.cell? ⟨w.heap.size, 0, none⟩ = some (.int .i64 f) ∧ w'.cell? ⟨w.heap.size, 1, none⟩ = some (.int .i64 s) ∧ w'.cell? ⟨w.heap.size, 2, none⟩ = some (.int .i64 d)) ((go_split_ands; simp [go_sem, *])) (first
    | (go_at_call 18; refine (CC.out _ B1.out.drew).mono ?_; rintro e wq ⟨⟨vq, rfl, hrowq⟩, hbq⟩; obtain ⟨Aq, cq, rfl, _, hrq⟩ := rd_of_own hrowq; have hxl := CCL.out; rw [hxl] at hrq ⊢; have Kq := (K1.out.drew).later hbq; obtain ⟨d0, d1, d2⟩ := bk3 Kq)
    | (go_at_call 46; refine (CEq.out Aq cq _ hrq).mono ?_; rintro e w2 ⟨⟨APa, cPa, rfl, hrPa⟩, hbp⟩; have Kp := Kq.later hbp; obtain ⟨d0, d1, d2⟩ := bk3 Kp))
  have hb : Below w1.drew.heap.size w1.drew w2 := hbq.trans (hbp.mono hbq.size)
  clear d0 d1 d2 hbq hbp Kq Kp hrq hrowq hxl
  have X2 := Lib.hid (X1.out.drew.below hb)
  have Y2 := Lib.hid (Y1.out.drew.below hb)
  have K2 := Lib.hid (K1.out.drew.later hb)
  have B2 := Lib.hid (B1.out.drew.trans (hb.mono B1.out.drew.size))
  clear hb X1 Y1 K1 B1
  have Pa2 := Lib.hid hrPa
  clear hrPa
  obtain ⟨d0, d1, d2⟩ := bk3 K2.out
  go_wp2
  go_region_held3 (fun w' : World => w'.cell? ⟨w.heap.size, 0, none⟩ = some (.int .i64 f) ∧ w'.cell? ⟨w.heap.size, 1, none⟩ = some (.int .i64 s) ∧ w'.cell? ⟨w.heap.size, 2, none⟩ = some (.int .i64 d)) ((go_split_ands; simp [go_sem, *])) (first
    | (go_at_call 18; refine (CD.out _ B2.out.drew).mono ?_; rintro e wq ⟨⟨vq, rfl, hrowq⟩, hbq⟩; obtain ⟨Aq, cq, rfl, _, hrq⟩ := rd_of_own hrowq; have hxl := CDL.out; rw [hxl] at hrq ⊢; have Kq := (K2.out.drew).later hbq; obtain ⟨d0, d1, d2⟩ := bk3 Kq)
    | (go_at_call 47; refine (CRs.out Aq cq _ hrq).mono ?_; rintro e w3 ⟨⟨APb, cPb, rfl, hrPb⟩, hbp⟩; have Kp := Kq.later hbp; obtain ⟨d0, d1, d2⟩ := bk3 Kp))
  have hb : Below w2.drew.heap.size w2.drew w3 := hbq.trans (hbp.mono hbq.size)
  clear d0 d1 d2 hbq hbp Kq Kp hrq hrowq hxl
  have X3 := Lib.hid (X2.out.drew.below hb)
  have Y3 := Lib.hid (Y2.out.drew.below hb)
  have K3 := Lib.hid (K2.out.drew.later hb)
  have B3 := Lib.hid (B2.out.drew.trans (hb.mono B2.out.drew.size))
  have Pa3 := Lib.hid (Pa2.out.drew.below hb)
  clear hb X2 Y2 K2 B2 Pa2
  have Pb3 := Lib.hid hrPb
  clear hrPb
  obtain ⟨d0, d1, d2⟩ := bk3 K3.out
  go_wp2_with fail
  refine (CQ.out _).mono ?_
  rintro e w4 ⟨rfl, hb⟩
  have X4 := Lib.hid (X3.out.below hb)
  have Y4 := Lib.hid (Y3.out.below hb)
  have K4 := Lib.hid (K3.out.later hb)
  have B4 := Lib.hid (B3.out.trans (hb.mono B3.out.size))
  have Pa4 := Lib.hid (Pa3.out.below hb)
  have Pb4 := Lib.hid (Pb3.out.below hb)
  clear X3 Y3 K3 B3 Pa3 Pb3 hb
  clear d0 d1 d2
  obtain ⟨d0, d1, d2⟩ := bk3 K4.out
  go_wp2_with fail
  refine (CK.out _).mono ?_
  rintro e w5 ⟨rfl, hb⟩
  have X5 := Lib.hid (X4.out.below hb)
  have Y5 := Lib.hid (Y4.out.below hb)
  have K5 := Lib.hid (K4.out.later hb)
  have B5 := Lib.hid (B4.out.trans (hb.mono B4.out.size))
  have Pa5 := Lib.hid (Pa4.out.below hb)
  have Pb5 := Lib.hid (Pb4.out.below hb)
  clear X4 Y4 K4 B4 Pa4 Pb4 hb
  clear d0 d1 d2
  go_wp2_with fail
  refine (CO.out _ Y5.out).mono ?_
  rintro e w' ⟨rfl, rfl⟩
  obtain ⟨d0, d1, d2⟩ := bk3 K5.out
  go_wp2_with fail
  refine (CRr.out _ Y5.out).mono ?_
  rintro e w6 ⟨⟨APr, cPr, rfl, hrPr⟩, hb⟩
  have X6 := Lib.hid (X5.out.below hb)
  have Y6 := Lib.hid (Y5.out.below hb)
  have K6 := Lib.hid (K5.out.later hb)
  have B6 := Lib.hid (B5.out.trans (hb.mono B5.out.size))
  have Pa6 := Lib.hid (Pa5.out.below hb)
  have Pb6 := Lib.hid (Pb5.out.below hb)
  clear X5 Y5 K5 B5 Pa5 Pb5 hb
  have Pr6 := Lib.hid hrPr
  clear hrPr
  clear d0 d1 d2
  go_wp2_with fail
  refine (ints_same _ _ _ _ _ _ _ Pb6.out Pr6.out (by omega)).mono ?_
  rintro e w' ⟨rfl, kk, rfl⟩
  have X7 := Lib.hid (X6.out.drewN kk)
  have Y7 := Lib.hid (Y6.out.drewN kk)
  have K7 := Lib.hid (K6.out.drewN kk)
  have B7 := Lib.hid (belowDrewN B6.out kk)
  have Pa7 := Lib.hid (Pa6.out.drewN kk)
  have Pb7 := Lib.hid (Pb6.out.drewN kk)
  have Pr7 := Lib.hid (Pr6.out.drewN kk)
  clear X6 Y6 K6 B6 Pa6 Pb6 Pr6
  go_wp2_with fail
  refine (CSg.out _ X7.out).mono ?_
  rintro e w' ⟨rfl, rfl⟩
  go_wp2
  go_ret
  exact ⟨by simp, B7.out⟩
set_option maxRecDepth 100000 in
set_option maxHeartbeats 4000000 in
theorem eqw_1 (f s d : Int) (A : Option Addr) (n c : Nat) (xs : List Int) (A2 : Option Addr) (n2 c2 : Nat) (ys : List Int) (w : World) (La : List Int) (Lb : List Int) (hr : RdI w A n xs) (hr2 : RdI w A2 n2 ys) (hn : n ≤ 402) (hn2 : n2 ≤ 402) (hsh : shortB n = true) (hsh2 : shortB n2 = true) (hA : A = none → n = 0 ∧ c = 0) (hA2 : A2 = none → n2 = 0 ∧ c2 = 0)
    (CEq : ∀ B cb W, RdI W B n xs → Calls Try.prog 46 #[.agg #[.int .i64 f, .int .i64 s, .int .i64 d], .slice B n cb] W (RdRes W (0) n La))
    (CRs : ∀ B cb W, RdI W B n2 ys → Calls Try.prog 47 #[.agg #[.int .i64 f, .int .i64 s, .int .i64 d], .slice B n2 cb] W (RdRes W (0) n2 Lb))
    (CQ : ∀ W, Calls Try.prog 48 #[.agg #[.int .i64 f, .int .i64 s, .int .i64 d]] W fun e w' => e = .returned (.int .i64 0) ∧ Below W.heap.size W w')
    (CK : ∀ W, Calls Try.prog 49 #[.agg #[.int .i64 f, .int .i64 s, .int .i64 d]] W fun e w' => e = .returned (.int .i64 0) ∧ Below W.heap.size W w')
    (CO : ∀ W, RdI W A2 n2 ys → Calls Try.prog 50 #[.slice A2 n2 c2] W fun e w' => e = .returned (.int .i64 0) ∧ W = w')
    (CRr : ∀ W, RdI W A2 n2 ys → Calls Try.prog 51 #[.agg #[.int .i64 f, .int .i64 s, .int .i64 d], .slice A2 n2 c2] W (RdOne W n2 Lb))
    (CSg : ∀ W, RdI W A n xs → Calls Try.prog 19 #[.slice A n c] W fun e w' => e = .returned (.int .i64 0) ∧ W = w')
    (CEr : ∀ W, RdI W A n xs → Calls Try.prog 52 #[.agg #[.int .i64 f, .int .i64 s, .int .i64 d], .slice A n c] W (RdResB W true n La))
    : Calls Try.prog 8 #[.agg #[.int .i64 f, .int .i64 s, .int .i64 d], .slice A n c, .slice A2 n2 c2] w fun e w' => e = .returned (.bool true) ∧ Below w.heap.size w w' := by
  have CC : Hid (∀ W, Below w.heap.size w W → Calls Try.prog 18 #[.slice A n c] W (OwnS W xs)) := fun W hb => copyInts_any A n c xs W hA (hr.below hb) (by omega)
  have CCL : Hid (xs.length = n) := hr.1
  have CD : Hid (∀ W, Below w.heap.size w W → Calls Try.prog 18 #[.slice A2 n2 c2] W (OwnS W ys)) := fun W hb => copyInts_any A2 n2 c2 ys W hA2 (hr2.below hb) (by omega)
  have CDL : Hid (ys.length = n2) := hr2.1
  have CSh := Lib.hid (fun W => short_any A n c W (by omega))
  rw [hsh] at CSh
  have CSh2 := Lib.hid (fun W => short_any A2 n2 c2 W (by omega))
  rw [hsh2] at CSh2
  have CEq := Lib.hid CEq
  have CRs := Lib.hid CRs
  have CQ := Lib.hid CQ
  have CK := Lib.hid CK
  have CO := Lib.hid CO
  have CRr := Lib.hid CRr
  have CSg := Lib.hid CSg
  have CEr := Lib.hid CEr
  have X0 := Lib.hid (hr.below (below1 w (.cells #[.int .i64 f, .int .i64 s, .int .i64 d] 68)))
  have Y0 := Lib.hid (hr2.below (below1 w (.cells #[.int .i64 f, .int .i64 s, .int .i64 d] 68)))
  have K0 := Lib.hid (Bk.new w 68 #[.int .i64 f, .int .i64 s, .int .i64 d])
  have B0 := Lib.hid (below1 w (.cells #[.int .i64 f, .int .i64 s, .int .i64 d] 68))
  clear hr hr2 hsh hsh2 hA hA2
  go_enter Try.func8, Try.ntmps8
  go_wp2_with fail
  refine (awake_any _).mono ?_
  rintro e w1 ⟨rfl, hb⟩
  have X1 := Lib.hid (X0.out.below hb)
  have Y1 := Lib.hid (Y0.out.below hb)
  have K1 := Lib.hid (K0.out.later hb)
  have B1 := Lib.hid (B0.out.trans (hb.mono B0.out.size))
  clear X0 Y0 K0 B0 hb
  go_wp2_with fail
  refine (CSh.out _).mono ?_
  rintro e w' ⟨rfl, rfl⟩
  go_wp2_with fail
  refine (CSh2.out _).mono ?_
  rintro e w' ⟨rfl, rfl⟩
  obtain ⟨d0, d1, d2⟩ := bk3 K1.out
  go_wp2
  go_region_held3 (fun w' : World => w'.cell? ⟨w.heap.size, 0, none⟩ = some (.int .i64 f) ∧ w'.cell? ⟨w.heap.size, 1, none⟩ = some (.int .i64 s) ∧ w'.cell? ⟨w.heap.size, 2, none⟩ = some (.int .i64 d)) ((go_split_ands; simp [go_sem, *])) (first
    | (go_at_call 18; refine (CC.out _ B1.out.drew).mono ?_; rintro e wq ⟨⟨vq, rfl, hrowq⟩, hbq⟩; obtain ⟨Aq, cq, rfl, _, hrq⟩ := rd_of_own hrowq; have hxl := CCL.out; rw [hxl] at hrq ⊢; have Kq := (K1.out.drew).later hbq; obtain ⟨d0, d1, d2⟩ := bk3 Kq)
    | (go_at_call 46; refine (CEq.out Aq cq _ hrq).mono ?_; rintro e w2 ⟨⟨APa, cPa, rfl, hrPa⟩, hbp⟩; have Kp := Kq.later hbp; obtain ⟨d0, d1, d2⟩ := bk3 Kp))
  have hb : Below w1.drew.heap.size w1.drew w2 := hbq.trans (hbp.mono hbq.size)
  clear d0 d1 d2 hbq hbp Kq Kp hrq hrowq hxl
  have X2 := Lib.hid (X1.out.drew.below hb)
  have Y2 := Lib.hid (Y1.out.drew.below hb)
  have K2 := Lib.hid (K1.out.drew.later hb)
  have B2 := Lib.hid (B1.out.drew.trans (hb.mono B1.out.drew.size))
  clear hb X1 Y1 K1 B1
  have Pa2 := Lib.hid hrPa
  clear hrPa
  obtain ⟨d0, d1, d2⟩ := bk3 K2.out
  go_wp2
  go_region_held3 (fun w' : World => w'.cell? ⟨w.heap.size, 0, none⟩ = some (.int .i64 f) ∧ w'.cell? ⟨w.heap.size, 1, none⟩ = some (.int .i64 s) ∧ w'.cell? ⟨w.heap.size, 2, none⟩ = some (.int .i64 d)) ((go_split_ands; simp [go_sem, *])) (first
    | (go_at_call 18; refine (CD.out _ B2.out.drew).mono ?_; rintro e wq ⟨⟨vq, rfl, hrowq⟩, hbq⟩; obtain ⟨Aq, cq, rfl, _, hrq⟩ := rd_of_own hrowq; have hxl := CDL.out; rw [hxl] at hrq ⊢; have Kq := (K2.out.drew).later hbq; obtain ⟨d0, d1, d2⟩ := bk3 Kq)
    | (go_at_call 47; refine (CRs.out Aq cq _ hrq).mono ?_; rintro e w3 ⟨⟨APb, cPb, rfl, hrPb⟩, hbp⟩; have Kp := Kq.later hbp; obtain ⟨d0, d1, d2⟩ := bk3 Kp))
  have hb : Below w2.drew.heap.size w2.drew w3 := hbq.trans (hbp.mono hbq.size)
  clear d0 d1 d2 hbq hbp Kq Kp hrq hrowq hxl
  have X3 := Lib.hid (X2.out.drew.below hb)
  have Y3 := Lib.hid (Y2.out.drew.below hb)
  have K3 := Lib.hid (K2.out.drew.later hb)
  have B3 := Lib.hid (B2.out.drew.trans (hb.mono B2.out.drew.size))
  have Pa3 := Lib.hid (Pa2.out.drew.below hb)
  clear hb X2 Y2 K2 B2 Pa2
  have Pb3 := Lib.hid hrPb
  clear hrPb
  obtain ⟨d0, d1, d2⟩ := bk3 K3.out
  go_wp2_with fail
  refine (CQ.out _).mono ?_
  rintro e w4 ⟨rfl, hb⟩
  have X4 := Lib.hid (X3.out.below hb)
  have Y4 := Lib.hid (Y3.out.below hb)
  have K4 := Lib.hid (K3.out.later hb)
  have B4 := Lib.hid (B3.out.trans (hb.mono B3.out.size))
  have Pa4 := Lib.hid (Pa3.out.below hb)
  have Pb4 := Lib.hid (Pb3.out.below hb)
  clear X3 Y3 K3 B3 Pa3 Pb3 hb
  clear d0 d1 d2
  obtain ⟨d0, d1, d2⟩ := bk3 K4.out
  go_wp2_with fail
  refine (CK.out _).mono ?_
  rintro e w5 ⟨rfl, hb⟩
  have X5 := Lib.hid (X4.out.below hb)
  have Y5 := Lib.hid (Y4.out.below hb)
  have K5 := Lib.hid (K4.out.later hb)
  have B5 := Lib.hid (B4.out.trans (hb.mono B4.out.size))
  have Pa5 := Lib.hid (Pa4.out.below hb)
  have Pb5 := Lib.hid (Pb4.out.below hb)
  clear X4 Y4 K4 B4 Pa4 Pb4 hb
  clear d0 d1 d2
  go_wp2_with fail
  refine (CO.out _ Y5.out).mono ?_
  rintro e w' ⟨rfl, rfl⟩
  obtain ⟨d0, d1, d2⟩ := bk3 K5.out
  go_wp2_with fail
  refine (CRr.out _ Y5.out).mono ?_
  rintro e w6 ⟨⟨APr, cPr, rfl, hrPr⟩, hb⟩
  have X6 := Lib.hid (X5.out.below hb)
  have Y6 := Lib.hid (Y5.out.below hb)
  have K6 := Lib.hid (K5.out.later hb)
  have B6 := Lib.hid (B5.out.trans (hb.mono B5.out.size))
  have Pa6 := Lib.hid (Pa5.out.below hb)
  have Pb6 := Lib.hid (Pb5.out.below hb)
  clear X5 Y5 K5 B5 Pa5 Pb5 hb
  have Pr6 := Lib.hid hrPr
  clear hrPr
  clear d0 d1 d2
  go_wp2_with fail
  refine (ints_same _ _ _ _ _ _ _ Pb6.out Pr6.out (by omega)).mono ?_
  rintro e w' ⟨rfl, kk, rfl⟩
  have X7 := Lib.hid (X6.out.drewN kk)
  have Y7 := Lib.hid (Y6.out.drewN kk)
  have K7 := Lib.hid (K6.out.drewN kk)
  have B7 := Lib.hid (belowDrewN B6.out kk)
  have Pa7 := Lib.hid (Pa6.out.drewN kk)
  have Pb7 := Lib.hid (Pb6.out.drewN kk)
  have Pr7 := Lib.hid (Pr6.out.drewN kk)
  clear X6 Y6 K6 B6 Pa6 Pb6 Pr6
  go_wp2_with fail
  refine (CSg.out _ X7.out).mono ?_
  rintro e w' ⟨rfl, rfl⟩
  obtain ⟨d0, d1, d2⟩ := bk3 K7.out
  go_wp2_with fail
  refine (CEr.out _ X7.out).mono ?_
  rintro e w8 ⟨⟨APe, cPe, rfl, hrPe⟩, hb⟩
  have X8 := Lib.hid (X7.out.below hb)
  have Y8 := Lib.hid (Y7.out.below hb)
  have K8 := Lib.hid (K7.out.later hb)
  have B8 := Lib.hid (B7.out.trans (hb.mono B7.out.size))
  have Pa8 := Lib.hid (Pa7.out.below hb)
  have Pb8 := Lib.hid (Pb7.out.below hb)
  have Pr8 := Lib.hid (Pr7.out.below hb)
  clear X7 Y7 K7 B7 Pa7 Pb7 Pr7 hb
  have Pe8 := Lib.hid hrPe
  clear hrPe
  clear d0 d1 d2
  go_wp2_with fail
  refine (ints_same _ _ _ _ _ _ _ Pa8.out Pe8.out (by omega)).mono ?_
  rintro e w' ⟨rfl, kk, rfl⟩
  have X9 := Lib.hid (X8.out.drewN kk)
  have Y9 := Lib.hid (Y8.out.drewN kk)
  have K9 := Lib.hid (K8.out.drewN kk)
  have B9 := Lib.hid (belowDrewN B8.out kk)
  have Pa9 := Lib.hid (Pa8.out.drewN kk)
  have Pb9 := Lib.hid (Pb8.out.drewN kk)
  have Pr9 := Lib.hid (Pr8.out.drewN kk)
  have Pe9 := Lib.hid (Pe8.out.drewN kk)
  clear X8 Y8 K8 B8 Pa8 Pb8 Pr8 Pe8
  go_wp2
  go_ret
  exact ⟨by simp, B9.out⟩
set_option maxRecDepth 100000 in
set_option maxHeartbeats 4000000 in
theorem eqw_0 (f s d : Int) (A : Option Addr) (n c : Nat) (xs : List Int) (A2 : Option Addr) (n2 c2 : Nat) (ys : List Int) (w : World) (Lb : List Int) (hr : RdI w A n xs) (hr2 : RdI w A2 n2 ys) (hn : n ≤ 402) (hn2 : n2 ≤ 402) (hsh : shortB n = true) (hsh2 : shortB n2 = true) (hA : A = none → n = 0 ∧ c = 0) (hA2 : A2 = none → n2 = 0 ∧ c2 = 0)
    (CEq : ∀ B cb W, RdI W B n xs → Calls Try.prog 46 #[.agg #[.int .i64 f, .int .i64 s, .int .i64 d], .slice B n cb] W (RdRes W (23) 0 []))
    (CRs : ∀ B cb W, RdI W B n2 ys → Calls Try.prog 47 #[.agg #[.int .i64 f, .int .i64 s, .int .i64 d], .slice B n2 cb] W (RdRes W (0) n2 Lb))
    (CQ : ∀ W, Calls Try.prog 48 #[.agg #[.int .i64 f, .int .i64 s, .int .i64 d]] W fun e w' => e = .returned (.int .i64 0) ∧ Below W.heap.size W w')
    (CK : ∀ W, Calls Try.prog 49 #[.agg #[.int .i64 f, .int .i64 s, .int .i64 d]] W fun e w' => e = .returned (.int .i64 0) ∧ Below W.heap.size W w')
    (CO : ∀ W, RdI W A2 n2 ys → Calls Try.prog 50 #[.slice A2 n2 c2] W fun e w' => e = .returned (.int .i64 0) ∧ W = w')
    (CRr : ∀ W, RdI W A2 n2 ys → Calls Try.prog 51 #[.agg #[.int .i64 f, .int .i64 s, .int .i64 d], .slice A2 n2 c2] W (RdOne W n2 Lb))
    (CSg : ∀ W, RdI W A n xs → Calls Try.prog 19 #[.slice A n c] W fun e w' => e = .returned (.int .i64 0) ∧ W = w')
    (CEr : ∀ W, RdI W A n xs → Calls Try.prog 52 #[.agg #[.int .i64 f, .int .i64 s, .int .i64 d], .slice A n c] W (RdResB W false 0 []))
    : Calls Try.prog 8 #[.agg #[.int .i64 f, .int .i64 s, .int .i64 d], .slice A n c, .slice A2 n2 c2] w fun e w' => e = .returned (.bool true) ∧ Below w.heap.size w w' := by
  have CC : Hid (∀ W, Below w.heap.size w W → Calls Try.prog 18 #[.slice A n c] W (OwnS W xs)) := fun W hb => copyInts_any A n c xs W hA (hr.below hb) (by omega)
  have CCL : Hid (xs.length = n) := hr.1
  have CD : Hid (∀ W, Below w.heap.size w W → Calls Try.prog 18 #[.slice A2 n2 c2] W (OwnS W ys)) := fun W hb => copyInts_any A2 n2 c2 ys W hA2 (hr2.below hb) (by omega)
  have CDL : Hid (ys.length = n2) := hr2.1
  have CSh := Lib.hid (fun W => short_any A n c W (by omega))
  rw [hsh] at CSh
  have CSh2 := Lib.hid (fun W => short_any A2 n2 c2 W (by omega))
  rw [hsh2] at CSh2
  have CEq := Lib.hid CEq
  have CRs := Lib.hid CRs
  have CQ := Lib.hid CQ
  have CK := Lib.hid CK
  have CO := Lib.hid CO
  have CRr := Lib.hid CRr
  have CSg := Lib.hid CSg
  have CEr := Lib.hid CEr
  have X0 := Lib.hid (hr.below (below1 w (.cells #[.int .i64 f, .int .i64 s, .int .i64 d] 68)))
  have Y0 := Lib.hid (hr2.below (below1 w (.cells #[.int .i64 f, .int .i64 s, .int .i64 d] 68)))
  have K0 := Lib.hid (Bk.new w 68 #[.int .i64 f, .int .i64 s, .int .i64 d])
  have B0 := Lib.hid (below1 w (.cells #[.int .i64 f, .int .i64 s, .int .i64 d] 68))
  clear hr hr2 hsh hsh2 hA hA2
  go_enter Try.func8, Try.ntmps8
  go_wp2_with fail
  refine (awake_any _).mono ?_
  rintro e w1 ⟨rfl, hb⟩
  have X1 := Lib.hid (X0.out.below hb)
  have Y1 := Lib.hid (Y0.out.below hb)
  have K1 := Lib.hid (K0.out.later hb)
  have B1 := Lib.hid (B0.out.trans (hb.mono B0.out.size))
  clear X0 Y0 K0 B0 hb
  go_wp2_with fail
  refine (CSh.out _).mono ?_
  rintro e w' ⟨rfl, rfl⟩
  go_wp2_with fail
  refine (CSh2.out _).mono ?_
  rintro e w' ⟨rfl, rfl⟩
  obtain ⟨d0, d1, d2⟩ := bk3 K1.out
  go_wp2
  go_region_held3 (fun w' : World => w'.cell? ⟨w.heap.size, 0, none⟩ = some (.int .i64 f) ∧ w'.cell? ⟨w.heap.size, 1, none⟩ = some (.int .i64 s) ∧ w'.cell? ⟨w.heap.size, 2, none⟩ = some (.int .i64 d)) ((go_split_ands; simp [go_sem, *])) (first
    | (go_at_call 18; refine (CC.out _ B1.out.drew).mono ?_; rintro e wq ⟨⟨vq, rfl, hrowq⟩, hbq⟩; obtain ⟨Aq, cq, rfl, _, hrq⟩ := rd_of_own hrowq; have hxl := CCL.out; rw [hxl] at hrq ⊢; have Kq := (K1.out.drew).later hbq; obtain ⟨d0, d1, d2⟩ := bk3 Kq)
    | (go_at_call 46; refine (CEq.out Aq cq _ hrq).mono ?_; rintro e w2 ⟨⟨APa, cPa, rfl, hrPa⟩, hbp⟩; have Kp := Kq.later hbp; obtain ⟨d0, d1, d2⟩ := bk3 Kp))
  have hb : Below w1.drew.heap.size w1.drew w2 := hbq.trans (hbp.mono hbq.size)
  clear d0 d1 d2 hbq hbp Kq Kp hrq hrowq hxl
  have X2 := Lib.hid (X1.out.drew.below hb)
  have Y2 := Lib.hid (Y1.out.drew.below hb)
  have K2 := Lib.hid (K1.out.drew.later hb)
  have B2 := Lib.hid (B1.out.drew.trans (hb.mono B1.out.drew.size))
  clear hb X1 Y1 K1 B1
  have Pa2 := Lib.hid hrPa
  clear hrPa
  obtain ⟨d0, d1, d2⟩ := bk3 K2.out
  go_wp2
  go_region_held3 (fun w' : World => w'.cell? ⟨w.heap.size, 0, none⟩ = some (.int .i64 f) ∧ w'.cell? ⟨w.heap.size, 1, none⟩ = some (.int .i64 s) ∧ w'.cell? ⟨w.heap.size, 2, none⟩ = some (.int .i64 d)) ((go_split_ands; simp [go_sem, *])) (first
    | (go_at_call 18; refine (CD.out _ B2.out.drew).mono ?_; rintro e wq ⟨⟨vq, rfl, hrowq⟩, hbq⟩; obtain ⟨Aq, cq, rfl, _, hrq⟩ := rd_of_own hrowq; have hxl := CDL.out; rw [hxl] at hrq ⊢; have Kq := (K2.out.drew).later hbq; obtain ⟨d0, d1, d2⟩ := bk3 Kq)
    | (go_at_call 47; refine (CRs.out Aq cq _ hrq).mono ?_; rintro e w3 ⟨⟨APb, cPb, rfl, hrPb⟩, hbp⟩; have Kp := Kq.later hbp; obtain ⟨d0, d1, d2⟩ := bk3 Kp))
  have hb : Below w2.drew.heap.size w2.drew w3 := hbq.trans (hbp.mono hbq.size)
  clear d0 d1 d2 hbq hbp Kq Kp hrq hrowq hxl
  have X3 := Lib.hid (X2.out.drew.below hb)
  have Y3 := Lib.hid (Y2.out.drew.below hb)
  have K3 := Lib.hid (K2.out.drew.later hb)
  have B3 := Lib.hid (B2.out.drew.trans (hb.mono B2.out.drew.size))
  have Pa3 := Lib.hid (Pa2.out.drew.below hb)
  clear hb X2 Y2 K2 B2 Pa2
  have Pb3 := Lib.hid hrPb
  clear hrPb
  obtain ⟨d0, d1, d2⟩ := bk3 K3.out
  go_wp2_with fail
  refine (CQ.out _).mono ?_
  rintro e w4 ⟨rfl, hb⟩
  have X4 := Lib.hid (X3.out.below hb)
  have Y4 := Lib.hid (Y3.out.below hb)
  have K4 := Lib.hid (K3.out.later hb)
  have B4 := Lib.hid (B3.out.trans (hb.mono B3.out.size))
  have Pa4 := Lib.hid (Pa3.out.below hb)
  have Pb4 := Lib.hid (Pb3.out.below hb)
  clear X3 Y3 K3 B3 Pa3 Pb3 hb
  clear d0 d1 d2
  obtain ⟨d0, d1, d2⟩ := bk3 K4.out
  go_wp2_with fail
  refine (CK.out _).mono ?_
  rintro e w5 ⟨rfl, hb⟩
  have X5 := Lib.hid (X4.out.below hb)
  have Y5 := Lib.hid (Y4.out.below hb)
  have K5 := Lib.hid (K4.out.later hb)
  have B5 := Lib.hid (B4.out.trans (hb.mono B4.out.size))
  have Pa5 := Lib.hid (Pa4.out.below hb)
  have Pb5 := Lib.hid (Pb4.out.below hb)
  clear X4 Y4 K4 B4 Pa4 Pb4 hb
  clear d0 d1 d2
  go_wp2_with fail
  refine (CO.out _ Y5.out).mono ?_
  rintro e w' ⟨rfl, rfl⟩
  obtain ⟨d0, d1, d2⟩ := bk3 K5.out
  go_wp2_with fail
  refine (CRr.out _ Y5.out).mono ?_
  rintro e w6 ⟨⟨APr, cPr, rfl, hrPr⟩, hb⟩
  have X6 := Lib.hid (X5.out.below hb)
  have Y6 := Lib.hid (Y5.out.below hb)
  have K6 := Lib.hid (K5.out.later hb)
  have B6 := Lib.hid (B5.out.trans (hb.mono B5.out.size))
  have Pa6 := Lib.hid (Pa5.out.below hb)
  have Pb6 := Lib.hid (Pb5.out.below hb)
  clear X5 Y5 K5 B5 Pa5 Pb5 hb
  have Pr6 := Lib.hid hrPr
  clear hrPr
  clear d0 d1 d2
  go_wp2_with fail
  refine (ints_same _ _ _ _ _ _ _ Pb6.out Pr6.out (by omega)).mono ?_
  rintro e w' ⟨rfl, kk, rfl⟩
  have X7 := Lib.hid (X6.out.drewN kk)
  have Y7 := Lib.hid (Y6.out.drewN kk)
  have K7 := Lib.hid (K6.out.drewN kk)
  have B7 := Lib.hid (belowDrewN B6.out kk)
  have Pa7 := Lib.hid (Pa6.out.drewN kk)
  have Pb7 := Lib.hid (Pb6.out.drewN kk)
  have Pr7 := Lib.hid (Pr6.out.drewN kk)
  clear X6 Y6 K6 B6 Pa6 Pb6 Pr6
  go_wp2_with fail
  refine (CSg.out _ X7.out).mono ?_
  rintro e w' ⟨rfl, rfl⟩
  obtain ⟨d0, d1, d2⟩ := bk3 K7.out
  go_wp2_with fail
  refine (CEr.out _ X7.out).mono ?_
  rintro e w8 ⟨⟨APe, cPe, rfl, hrPe⟩, hb⟩
  have X8 := Lib.hid (X7.out.below hb)
  have Y8 := Lib.hid (Y7.out.below hb)
  have K8 := Lib.hid (K7.out.later hb)
  have B8 := Lib.hid (B7.out.trans (hb.mono B7.out.size))
  have Pa8 := Lib.hid (Pa7.out.below hb)
  have Pb8 := Lib.hid (Pb7.out.below hb)
  have Pr8 := Lib.hid (Pr7.out.below hb)
  clear X7 Y7 K7 B7 Pa7 Pb7 Pr7 hb
  have Pe8 := Lib.hid hrPe
  clear hrPe
  clear d0 d1 d2
  go_wp2
  go_ret
  exact ⟨by simp, B8.out⟩

end Go.Proofs.Ytghpofhpkbgckaa
