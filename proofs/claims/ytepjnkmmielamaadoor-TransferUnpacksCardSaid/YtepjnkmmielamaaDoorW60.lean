import Derived.Test.YtepjnkmmielamaaDoorW59
namespace Go.Proofs.YtepjnkmmielamaaDoor
open Go.RowKit

theorem parE_bad (p k : Int) (h : ¬ (0 ≤ p ∧ p ≤ 2 ∧ 0 ≤ k ∧ k ≤ 17)) : parE p k = 2 := by
  unfold parE inB
  rw [if_neg]
  simp
  omega

set_option maxRecDepth 100000 in
set_option maxHeartbeats 4000000 in
theorem refUnp_form (A : Option Addr) (n c : Nat) (l : List Int) (p k : Int) (w : World) (hrd : RdI w A n l) (hb : Bits01 l) (n7 : 7 ≤ n) (n4 : n ≤ 400) (nc : n ≤ c)
    (hp : numT (l.take 2) = p) (hk : numT ((l.drop 2).take 5) = k) (hbad : parE p k = 2) :
    Calls Tryd.prog 53 #[.slice A n c] w fun e w' => e = .returned (.tuple #[.agg zero8, .int .i64 3]) ∧ Below w.heap.size w w' := by
  have HR := Lib.hid hrd
  have HB := Lib.hid hb
  have hb1 : b01 l = true := (b01_iff l).2 hb
  have CA : Hid (∀ W, RdI W A n l → Calls Tryd.prog 54 #[.slice A n c] W fun e w' => e = .returned (.bool true) ∧ W = w') := fun W h => by rw [← hb1]; exact areBits_any A n c l W h (by omega)
  have HZ8 := Lib.hid (is8_iArr [0, 0, 0, 0, 0, 0, 0, 0] rfl)
  rw [← zero8_iArr] at HZ8
  have hX : Bk ((w.alloc (.cells zero8 35)).alloc (.cells zero8 35)) (w.heap.size + 1) 35 zero8 := by
    simpa using Bk.new (w.alloc (.cells zero8 35)) 35 zero8
  have HX := Lib.hid hX
  obtain ⟨wA, hwA⟩ : ∃ wA, ((w.alloc (.cells zero8 35)).alloc (.cells zero8 35)).setRow (w.heap.size + 1) zero8 = wA := ⟨_, rfl⟩
  have U0 : Hid (RU w wA) := by show RU w wA; rw [← hwA]; exact ru_start w
  have HWA := Lib.hid hwA
  have rd1 : Hid (RdI w (cutA A 0 c) 2 (l.take 2)) := by
    have := HR.out.cut 0 c 2 (by omega) nc
    rw [List.drop_zero] at this
    exact this
  have rd2 : Hid (RdI w (cutA A 2 c) 5 ((l.drop 2).take 5)) := HR.out.cut 2 c 5 (by omega) nc
  have hs1 : ∀ W, (Instr.slice 48 (.slice A n c) none (some (.int .i64 2)) none).run Tryd.prog W = .ok (.slice (cutA A 0 c) 2 c) W := fun W => cutTo_run A n c 2 2 rfl (by omega) W
  have hs2 : ∀ W, (Instr.slice 48 (.slice A n c) (some (.int .i64 2)) (some (.int .i64 7)) none).run Tryd.prog W = .ok (.slice (cutA A 2 c) 5 (c - 2)) W := fun W => cut_run A n c 2 7 5 _ 2 7 rfl rfl (by omega) (by omega) (by omega) rfl W
  obtain ⟨A1, hA1⟩ : ∃ A1, cutA A 0 c = A1 := ⟨_, rfl⟩
  obtain ⟨A2, hA2⟩ : ∃ A2, cutA A 2 c = A2 := ⟨_, rfl⟩
  rw [hA1] at rd1 hs1
  rw [hA2] at rd2 hs2
  clear hA1 hA2 hb1
  have CN1 : Hid (∀ d, Calls Tryd.prog 55 #[.slice A1 2 d] wA.drew fun e w' => e = .returned (.int .i64 p) ∧ wA.drew = w') := fun d => by rw [← hp]; exact numberOf_any _ 2 d _ _ (rd1.out.below U0.out.drew.bel) (HB.out.take _) (by omega)
  have CN2 : Hid (∀ d, Calls Tryd.prog 55 #[.slice A2 5 d] wA.drew fun e w' => e = .returned (.int .i64 k) ∧ wA.drew = w') := fun d => by rw [← hk]; exact numberOf_any _ 5 d _ _ (rd2.out.below U0.out.drew.bel) ((HB.out.drop _).take _) (by omega)
  have CE : Hid (∀ W, Calls Tryd.prog 50 #[.int .i64 p, .int .i64 k] W fun e w' => e = .returned (.int .i64 2) ∧ W = w') := fun W => by have := parametersErr_any p k W; rw [hbad] at this; exact this
  have zA : w.heap.size < wA.drew.heap.size := by have := U0.out.drew.lt; omega
  have F0 := Lib.hid (U0.out.drew.fin zero8)
  have G1 := Lib.hid (U0.out.drew)
  clear hwA hX hrd hb hp hk hbad rd1 rd2
  go_enter Tryd.func53, Tryd.ntmps53
  go_wp2_with (first
    | (with_reducible refine wpList_store_row rfl 35 (.tmp 4) (.tmp 14) rfl (w.heap.size + 1) zero8 rfl rfl 35 zero8 HX.out.heap HZ8.out.info rfl HZ8.out.one ?_; rw [HWA.out])
    | (go_at_call 54; refine (CA.out _ (HR.out.below U0.out.bel)).mono ?_; rintro e w' ⟨rfl, rfl⟩))
  go_region_held3 (fun w' => w.heap.size < w'.heap.size)
    (first | exact zA | (simpa using zA) | go_keep)
    (first
      | (go_at_call 55; (with_reducible refine (CN1.out _).mono ?_); rintro e w' ⟨rfl, rfl⟩)
      | (go_at_call 55; (with_reducible refine (CN2.out _).mono ?_); rintro e w' ⟨rfl, rfl⟩))
  go_wp2_with (first
    | (go_at_call 50; refine (CE.out _).mono ?_; rintro e w' ⟨rfl, rfl⟩)
    | (with_reducible refine wpList_load_row rfl 35 (.tmp 4) rfl (w.heap.size + 1) rfl 35 zero8 (0, 0) _ G1.out.g1.heap arrUnder rfl HZ8.out.info ?_)
    | (with_reducible refine wpList_store_row rfl 35 (.tmp 2) (.tmp 37) rfl w.heap.size zero8 rfl rfl 35 zero8 G1.out.g0.heap HZ8.out.info rfl HZ8.out.one ?_))
  refine bodyPost_ret (v := .tuple #[.agg zero8, .int .i64 3]) ?_ rfl ⟨rfl, F0.out.2⟩
  exact results_cell_tmp (fn := Tryd.f53) rfl _ _ w.heap.size 35 zero8 (0, 0) _ rfl F0.out.1 arrUnder rfl HZ8.out.info

end Go.Proofs.YtepjnkmmielamaaDoor
