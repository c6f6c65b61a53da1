import Derived.Test.YtepjnkmmielamaaDoorW52
namespace Go.Proofs.YtepjnkmmielamaaDoor
open Go.RowKit

theorem rangesE01 (l : List Int) (h : Bits01 l) : rangesE l 0 1 = 0 := (rangesE_zero l 0 1).2 fun x hx => by rcases h x hx with e | e <;> omega

theorem checkEachInt_bits (A : Option Addr) (n c : Nat) (l : List Int) (b0 b1 : Nat) (w : World) (hr : RdI w A n l) (hb : Bits01 l) (hn : n ≤ 9223372036854775807)
    (h0 : w.cell? ⟨b0, 0, none⟩ = some (.int .i64 0)) (h1 : w.cell? ⟨b1, 0, none⟩ = some (.int .i64 1)) :
    Calls Tryd.prog 109 #[.slice A n c, .func (Fn.func 153) #[] #[.pointer (some ⟨b0, 0, none⟩), .pointer (some ⟨b1, 0, none⟩)]] w
      fun e w' => e = .returned (.int .i64 0) ∧ w = w' := by
  have := checkEachInt_any A n c l 0 1 b0 b1 w hr hn h0 h1
  rw [rangesE01 l hb] at this
  exact this

/-- The world behind the checks and the head of Unpacked. -/
structure UnpIn (w : World) (A : Option Addr) (n c : Nat) (l : List Int) (p k : Nat) : Prop where
  laid : Laid w
  rd : RdI w A n l
  b01 : Bits01 l
  n7 : 7 ≤ n
  n400 : n ≤ 400
  nc : n ≤ c
  c6 : c ≤ 9223372036854775807
  p3 : p < 3
  k18 : k < 18
  hp : numT (l.take 2) = p
  hk : numT ((l.drop 2).take 5) = k

set_option maxRecDepth 100000 in
set_option maxHeartbeats 4000000 in
theorem unp_core (A : Option Addr) (n c : Nat) (l : List Int) (p k : Nat) (w : World) (H : UnpIn w A n c l p k) (ok : Bool) (hok : rdOk (l.drop 7) k = ok) (r : Int)
    (hr : ok = true → rangesE (unfT (rdXs (l.drop 7) k) p 8) (-32767) 32767 = r) :
    Calls Tryd.prog 52 #[.slice A n c] w fun e w' => ∃ ys, e = .returned (.tuple #[.agg ys, .int .i64 (if ok then r else 10)]) ∧ Is8 ys (if ok = true ∧ r = 0 then unfT (rdXs (l.drop 7) k) p 8 else [0, 0, 0, 0, 0, 0, 0, 0]) ∧ Below w.heap.size w w' := by
  have HW := Lib.hid H.laid
  have HR := Lib.hid H.rd
  have HB := Lib.hid H.b01
  have n7 := H.n7
  have n4 := H.n400
  have nc := H.nc
  have c6 := H.c6
  have p3 := H.p3
  have k18 := H.k18
  have rd1 : Hid (RdI w (cutA A 0 c) 2 (l.take 2)) := by
    have := HR.out.cut 0 c 2 (by omega) nc
    rw [List.drop_zero] at this
    exact this
  have rd2 : Hid (RdI w (cutA A 2 c) 5 ((l.drop 2).take 5)) := HR.out.cut 2 c 5 (by omega) nc
  have rd3 : Hid (RdI w (cutA A 7 c) (n - 7) (l.drop 7)) := by
    have := HR.out.cut 7 c (n - 7) (by omega) nc
    have hl := HR.out.1
    rw [List.take_of_length_le (by rw [List.length_drop]; omega)] at this
    exact this
  have hs1 : ∀ W, (Instr.slice 48 (.slice A n c) none (some (.int .i64 2)) none).run Tryd.prog W = .ok (.slice (cutA A 0 c) 2 c) W := fun W => cutTo_run A n c 2 2 rfl (by omega) W
  have hs2 : ∀ W, (Instr.slice 48 (.slice A n c) (some (.int .i64 2)) (some (.int .i64 7)) none).run Tryd.prog W = .ok (.slice (cutA A 2 c) 5 (c - 2)) W := fun W => cut_run A n c 2 7 5 _ 2 7 rfl rfl (by omega) (by omega) (by omega) rfl W
  have hs3 : ∀ W, (Instr.slice 48 (.slice A n c) (some (.int .i64 7)) none none).run Tryd.prog W = .ok (.slice (cutA A 7 c) (n - 7) (c - 7)) W := fun W => cutFrom_run A n c 7 _ _ 7 rfl (by omega) rfl rfl W
  obtain ⟨A1, hA1⟩ : ∃ A1, cutA A 0 c = A1 := ⟨_, rfl⟩
  obtain ⟨A2, hA2⟩ : ∃ A2, cutA A 2 c = A2 := ⟨_, rfl⟩
  obtain ⟨A3, hA3⟩ : ∃ A3, cutA A 7 c = A3 := ⟨_, rfl⟩
  rw [hA1] at rd1 hs1
  rw [hA2] at rd2 hs2
  rw [hA3] at rd3 hs3
  clear hA1 hA2 hA3
  have B1 : Hid (Bits01 (l.take 2)) := HB.out.take _
  have B2 : Hid (Bits01 ((l.drop 2).take 5)) := (HB.out.drop _).take _
  have B3 : Hid (Bits01 (l.drop 7)) := HB.out.drop _
  have CN1 : Hid (∀ W d, Below w.heap.size w W → Calls Tryd.prog 111 #[.slice A1 2 d] W fun e w' => e = .returned (.int .i64 p) ∧ W = w') := fun W d h => by rw [← H.hp]; exact numberIn_any A1 2 d _ W (rd1.out.below h) B1.out (by omega)
  have CN2 : Hid (∀ W d, Below w.heap.size w W → Calls Tryd.prog 111 #[.slice A2 5 d] W fun e w' => e = .returned (.int .i64 k) ∧ W = w') := fun W d h => by rw [← H.hk]; exact numberIn_any A2 5 d _ W (rd2.out.below h) B2.out (by omega)
  have CR : Hid (∀ W, Below w.heap.size w W → Calls Tryd.prog 112 #[.slice A3 (n - 7) (c - 7), .int .i64 k] W fun e w' => ∃ us, e = .returned (.tuple #[.agg us, .bool ok]) ∧ Is8 us (rdXs (l.drop 7) k) ∧ Below W.heap.size W w') := fun W h => by rw [← hok]; exact readCodes_any A3 (n - 7) (c - 7) _ k W (rd3.out.below h) B3.out (by omega) (by omega) (by omega) (by omega)
  have HN : Hid (∀ j, 0 ≤ (rdXs (l.drop 7) k).getD j 0 ∧ (rdXs (l.drop 7) k).getD j 0 ≤ 60000000) := by
    intro j
    unfold rdXs
    split
    · exact numsU_getD _ k 8 B3.out (by omega) (by rw [List.length_drop]; have := HR.out.1; omega) j
    · have e : (List.replicate 8 (0 : Int)).getD j 0 = 0 := by
        rw [List.getD_eq_getElem?_getD, List.getElem?_replicate]; split <;> rfl
      rw [e]; omega
  obtain ⟨xs, hxs⟩ : ∃ xs, rdXs (l.drop 7) k = xs := ⟨_, rfl⟩
  rw [hxs] at CR HN hr ⊢
  have HRr := Lib.hid hr
  clear hxs hr hok H rd1 rd2 rd3 B1 B2 B3
  have W0 : Hid (∀ W, Calls Tryd.prog 75 #[.bool false, .int .i64 8] W fun e w' => e = .returned (.int .i64 0) ∧ W = w') := fun W => when_any false 8 W
  have W1 : Hid (∀ W, Calls Tryd.prog 75 #[.bool false, .int .i64 10] W fun e w' => e = .returned (.int .i64 0) ∧ W = w') := fun W => when_any false 10 W
  have hd0 : decide ((3000 : Int) < n) = false := by simp; omega
  have hd1 : decide ((n : Int) < 7) = false := by simp; omega
  have hf : firstE [0, 0, 0] = 0 := rfl
  have HZ8 := Lib.hid (is8_iArr [0, 0, 0, 0, 0, 0, 0, 0] rfl)
  rw [← zero8_iArr] at HZ8
  go_enter Tryd.func52, Tryd.ntmps52
  go_wp2_with (first
    | (go_at_call 75; refine (W0.out _).mono ?_; rintro e w' ⟨rfl, rfl⟩)
    | (go_at_call 110; go_in))
  refine (checkEachInt_bits A n c l _ _ _ (HR.out.below ((((Below.refl _ _).alloc (Nat.le_refl _) _).alloc (by simp) _).alloc (by simp; omega) _)) HB.out (by omega) ?_ ?_).mono ?_
  · simp [go_sem]
  · simp [go_sem]
  rintro e w1 ⟨rfl, rfl⟩
  obtain ⟨w1, hw1⟩ : ∃ w1, ((w.alloc (.cells zero8 35)).alloc (.cells #[.int .i64 0] 3)).alloc (.cells #[.int .i64 1] 3) = w1 := ⟨_, rfl⟩
  have G1 : Hid (Bk w1 w.heap.size 35 zero8) := by show Bk _ _ _ _; rw [← hw1]; exact ((Bk.new w _ _).alloc _).alloc _
  have l1 : Hid (Below w.heap.size w w1) := by show Below _ _ _; rw [← hw1]; exact (((Below.refl _ _).alloc (Nat.le_refl _) _).alloc (by simp) _).alloc (by simp; omega) _
  rw [hw1]
  clear hw1
  have z1 : w.heap.size < w1.heap.size := G1.out.lt
  go_wp2_with (first
    | (go_at_call 75; refine (W1.out _).mono ?_; rintro e w' ⟨rfl, rfl⟩)
    | (go_at_call 74; refine (first3 0 0 0 w1).mono ?_; rintro e w' ⟨rfl, rfl⟩))
  obtain ⟨w2, hw2⟩ : ∃ w2, w1.alloc (.cells #[.int .i64 0, .int .i64 0, .int .i64 0] 27) = w2 := ⟨_, rfl⟩
  have G2 : Hid (Bk w2 w.heap.size 35 zero8) := by show Bk _ _ _ _; rw [← hw2]; exact G1.out.alloc _
  have l2 : Hid (Below w.heap.size w w2) := by show Below _ _ _; rw [← hw2]; exact l1.out.alloc (by omega) _
  rw [hw2]
  clear hw2 G1 l1
  have z2 : w.heap.size < w2.heap.size := G2.out.lt
  refine (CN1.out _ _ l2.out).mono ?_
  rintro e w' ⟨rfl, rfl⟩
  go_wp2_with fail
  refine (CN2.out _ _ l2.out).mono ?_
  rintro e w' ⟨rfl, rfl⟩
  go_wp2_with fail
  refine (CR.out _ l2.out).mono ?_
  rintro e w3 ⟨us, rfl, hus, hb3⟩
  have HU := Lib.hid hus
  have G3 : Hid (Bk w3 w.heap.size 35 zero8) := G2.out.below hb3 z2
  have l3 : Hid (Below w.heap.size w w3) := l2.out.trans (hb3.mono (by omega))
  clear hus hb3 G2 l2 CN1 CN2 CR hs1 hs2 hs3
  have z3 : w.heap.size < w3.heap.size := G3.out.lt
  obtain ⟨w4, hw4⟩ : ∃ w4, World.setRow (w3.alloc (.cells zero8 35)) w3.heap.size us = w4 := ⟨_, rfl⟩
  have F4 : Hid (Bk w4 w3.heap.size 35 us) := by show Bk _ _ _ _; rw [← hw4]; exact setRow_heap _ _ _ _ _ _ (heap_alloc_new w3 _)
  have b4 : Below w3.heap.size w3 w4 := by rw [← hw4]; exact below_setRow ((Below.refl _ _).alloc (Nat.le_refl _) _) (Nat.le_refl _) _
  have G4 : Hid (Bk w4 w.heap.size 35 zero8) := G3.out.below b4 z3
  have l4 : Hid (Below w.heap.size w w4) := l3.out.trans (b4.mono (by omega))
  have HW4 := Lib.hid hw4
  clear hw4 b4
  have HG5 : Hid (Bk (w4.setRow w.heap.size zero8) w.heap.size 35 zero8) := setRow_heap w4 w.heap.size _ zero8 _ _ G4.out
  have HB5 := Lib.hid (below_setRow l4.out (Nat.le_refl _) zero8)
  cases ok
  · go_wp2_with (first
      | (with_reducible refine wpList_store_row rfl 35 (.tmp 7) (.tmp 46) rfl w3.heap.size us rfl rfl 35 zero8 (heap_alloc_new w3 _) HU.out.info HU.out.zsize HU.out.one ?_; rw [HW4.out])
      | (with_reducible refine wpList_store_row rfl 35 (.tmp 2) (.tmp 50) rfl w.heap.size zero8 rfl rfl 35 zero8 G4.out.heap HZ8.out.info rfl HZ8.out.one ?_))
    refine bodyPost_ret (v := .tuple #[.agg zero8, .int .i64 10]) ?_ rfl ⟨zero8, rfl, HZ8.out, HB5.out⟩
    exact results_cell_tmp (fn := Tryd.f52) rfl _ _ w.heap.size 35 zero8 (0, 0) _ rfl HG5.out arrUnder rfl HZ8.out.info
  · go_wp2_with (first
      | (with_reducible refine wpList_store_row rfl 35 (.tmp 7) (.tmp 46) rfl w3.heap.size us rfl rfl 35 zero8 (heap_alloc_new w3 _) HU.out.info HU.out.zsize HU.out.one ?_; rw [HW4.out])
      | (with_reducible refine wpList_load_row rfl 35 (.tmp 7) rfl w3.heap.size rfl 35 us (0, 0) _ F4.out.heap arrUnder rfl HU.out.info ?_))
    refine (unfolded_any us xs p _ (HW.out.later l4.out) HU.out HN.out p3).mono ?_
    rintro e w5 ⟨ys, rfl, hys, hb5⟩
    have HY := Lib.hid hys
    have G5 : Hid (Bk w5 w.heap.size 35 zero8) := G4.out.below hb5 G4.out.lt
    have l5 : Hid (Below w.heap.size w w5) := l4.out.trans (hb5.mono l4.out.size)
    clear hys hb5 G4 l4 F4 HG5 HB5 HW4
    have z5 : w.heap.size < w5.heap.size := G5.out.lt
    obtain ⟨w6, hw6⟩ : ∃ w6, World.setRow (w5.alloc (.cells zero8 35)) w5.heap.size ys = w6 := ⟨_, rfl⟩
    have F6 : Hid (Bk w6 w5.heap.size 35 ys) := by show Bk _ _ _ _; rw [← hw6]; exact setRow_heap _ _ _ _ _ _ (heap_alloc_new w5 _)
    have b6 : Below w5.heap.size w5 w6 := by rw [← hw6]; exact below_setRow ((Below.refl _ _).alloc (Nat.le_refl _) _) (Nat.le_refl _) _
    have G6 : Hid (Bk w6 w.heap.size 35 zero8) := G5.out.below b6 z5
    have l6 : Hid (Below w.heap.size w w6) := l5.out.trans (b6.mono (by omega))
    have HW6 := Lib.hid hw6
    clear hw6 b6
    have CS : Hid (∀ W, Calls Tryd.prog 99 #[.agg ys] W fun e w' => e = .returned (.int .i64 r) ∧ Below W.heap.size W w') := fun W => by have := checkSamples_any ys _ W HY.out; rw [HRr.out (by trivial)] at this; exact this
    go_wp2_with (first
      | (with_reducible refine wpList_store_row rfl 35 (.tmp 9) (.tmp 53) rfl w5.heap.size ys rfl rfl 35 zero8 (heap_alloc_new w5 _) HY.out.info HY.out.zsize HY.out.one ?_; rw [HW6.out])
      | (with_reducible refine wpList_load_row rfl 35 (.tmp 9) rfl w5.heap.size rfl 35 ys (0, 0) _ F6.out.heap arrUnder rfl HY.out.info ?_))
    refine (CS.out _).mono ?_
    rintro e w7 ⟨rfl, hb7⟩
    have G7 : Hid (Bk w7 w.heap.size 35 zero8) := G6.out.below hb7 G6.out.lt
    have F7 : Hid (Bk w7 w5.heap.size 35 ys) := F6.out.below hb7 F6.out.lt
    have l7 : Hid (Below w.heap.size w w7) := l6.out.trans (hb7.mono l6.out.size)
    clear hb7 G6 l6 F6 HW6 CS
    have HGz : Hid (Bk (w7.setRow w.heap.size zero8) w.heap.size 35 zero8) := setRow_heap w7 w.heap.size _ zero8 _ _ G7.out
    have HBz := Lib.hid (below_setRow l7.out (Nat.le_refl _) zero8)
    have HGy : Hid (Bk (w7.setRow w.heap.size ys) w.heap.size 35 ys) := setRow_heap w7 w.heap.size _ ys _ _ G7.out
    have HBy := Lib.hid (below_setRow l7.out (Nat.le_refl _) ys)
    by_cases hr0 : r = 0
    · subst hr0
      go_wp2_with (first
        | (with_reducible refine wpList_load_row rfl 35 (.tmp 9) rfl w5.heap.size rfl 35 ys (0, 0) _ F7.out.heap arrUnder rfl HY.out.info ?_)
        | (with_reducible refine wpList_store_row rfl 35 (.tmp 2) (.tmp 60) rfl w.heap.size ys rfl rfl 35 zero8 G7.out.heap HY.out.info HY.out.zsize HY.out.one ?_))
      refine bodyPost_ret (v := .tuple #[.agg ys, .int .i64 0]) ?_ rfl ⟨ys, rfl, HY.out, HBy.out⟩
      exact results_cell_tmp (fn := Tryd.f52) rfl _ _ w.heap.size 35 ys (0, 0) _ rfl HGy.out arrUnder rfl HY.out.info
    · have hb0 : (r != 0) = true := by simpa using hr0
      go_wp2_with (first
        | (with_reducible refine wpList_store_row rfl 35 (.tmp 2) (.tmp 58) rfl w.heap.size zero8 rfl rfl 35 zero8 G7.out.heap HZ8.out.info rfl HZ8.out.one ?_))
      refine bodyPost_ret (v := .tuple #[.agg zero8, .int .i64 r]) ?_ rfl ⟨zero8, rfl, HZ8.out, HBz.out⟩
      exact results_cell_tmp (fn := Tryd.f52) rfl _ _ w.heap.size 35 zero8 (0, 0) _ rfl HGz.out arrUnder rfl HZ8.out.info

end Go.Proofs.YtepjnkmmielamaaDoor
