import Derived.Test.YtepjnkmmielamaaDoorW57
namespace Go.Proofs.YtepjnkmmielamaaDoor
open Go.RowKit

set_option maxRecDepth 100000 in
set_option maxHeartbeats 4000000 in
theorem unp_form (A : Option Addr) (n c : Nat) (l : List Int) (p k : Int) (w : World) (hrd : RdI w A n l) (hb : Bits01 l) (n7 : 7 ≤ n) (n4 : n ≤ 400) (nc : n ≤ c)
    (hp : numT (l.take 2) = p) (hk : numT ((l.drop 2).take 5) = k) (hbad : 3 ≤ p ∨ 18 ≤ k) :
    Calls Tryd.prog 52 #[.slice A n c] w fun e w' => e = .returned (.tuple #[.agg zero8, .int .i64 3]) ∧ Below w.heap.size w w' := by
  have HR := Lib.hid hrd
  have HB := Lib.hid hb
  have rd1 : Hid (RdI w (cutA A 0 c) 2 (l.take 2)) := by
    have := HR.out.cut 0 c 2 (by omega) nc
    rw [List.drop_zero] at this
    exact this
  have rd2 : Hid (RdI w (cutA A 2 c) 5 ((l.drop 2).take 5)) := HR.out.cut 2 c 5 (by omega) nc
  have hs1 : ∀ W, (Instr.slice 48 (.slice A n c) none (some (.int .i64 2)) none).run Tryd.prog W = .ok (.slice (cutA A 0 c) 2 c) W := fun W => cutTo_run A n c 2 2 rfl (by omega) W
  have hs2 : ∀ W, (Instr.slice 48 (.slice A n c) (some (.int .i64 2)) (some (.int .i64 7)) none).run Tryd.prog W = .ok (.slice (cutA A 2 c) 5 (c - 2)) W := fun W => cut_run A n c 2 7 5 _ 2 7 rfl rfl (by omega) (by omega) (by omega) rfl W
  obtain ⟨A1, hA1⟩ : ∃ A1, cutA A 0 c = A1 := ⟨_, rfl⟩
  obtain ⟨A2, hA2⟩ : ∃ A2, cutA A 2 c = A2 := ⟨_, rfl⟩
  rw [hA1] at rd1 hs1
  rw [hA2] at rd2 hs2
  clear hA1 hA2
  have B1 : Hid (Bits01 (l.take 2)) := HB.out.take _
  have B2 : Hid (Bits01 ((l.drop 2).take 5)) := (HB.out.drop _).take _
  have CN1 : Hid (∀ W d, Below w.heap.size w W → Calls Tryd.prog 111 #[.slice A1 2 d] W fun e w' => e = .returned (.int .i64 p) ∧ W = w') := fun W d h => by rw [← hp]; exact numberIn_any A1 2 d _ W (rd1.out.below h) B1.out (by omega)
  have CN2 : Hid (∀ W d, Below w.heap.size w W → Calls Tryd.prog 111 #[.slice A2 5 d] W fun e w' => e = .returned (.int .i64 k) ∧ W = w') := fun W d h => by rw [← hk]; exact numberIn_any A2 5 d _ W (rd2.out.below h) B2.out (by omega)
  clear hp hk rd1 rd2 B1 B2 hrd hb
  have W0 : Hid (∀ W, Calls Tryd.prog 75 #[.bool false, .int .i64 8] W fun e w' => e = .returned (.int .i64 0) ∧ W = w') := fun W => when_any false 8 W
  have W1 : Hid (∀ W, Calls Tryd.prog 75 #[.bool false, .int .i64 10] W fun e w' => e = .returned (.int .i64 0) ∧ W = w') := fun W => when_any false 10 W
  have hd0 : decide ((3000 : Int) < n) = false := by simp; omega
  have hd1 : decide ((n : Int) < 7) = false := by simp; omega
  have hf : firstE [0, 0, 0] = 0 := rfl
  have HZ8 := Lib.hid (is8_iArr [0, 0, 0, 0, 0, 0, 0, 0] rfl)
  rw [← zero8_iArr] at HZ8
  have key : ∀ (w2 : World), Bk w2 w.heap.size 35 zero8 → Below w.heap.size w w2 → Bk (w2.setRow w.heap.size zero8) w.heap.size 35 zero8 ∧ Below w.heap.size w (w2.setRow w.heap.size zero8) :=
    fun w2 g b => ⟨setRow_heap w2 w.heap.size _ zero8 _ _ g, below_setRow b (Nat.le_refl _) zero8⟩
  have KEY := Lib.hid key
  clear key
  have hcase : 3 ≤ p ∨ (p < 3 ∧ 18 ≤ k) := by omega
  clear hbad
  rcases hcase with h3 | ⟨h3, h18⟩
  all_goals
    go_enter Tryd.func52, Tryd.ntmps52
    go_wp2_with (first
      | (go_at_call 75; refine (W0.out _).mono ?_; rintro e w' ⟨rfl, rfl⟩)
      | (go_at_call 110; go_in))
    refine (checkEachInt_bits A n c l _ _ _ (HR.out.below ((((Below.refl _ _).alloc (Nat.le_refl _) _).alloc (by simp) _).alloc (by simp; omega) _)) HB.out (by omega) ?_ ?_).mono ?_
    · simp [go_sem]
    · simp [go_sem]
    rintro e w1 ⟨rfl, rfl⟩
    obtain ⟨w1, hw1⟩ : ∃ w1, ((w.alloc (.cells zero8 35)).alloc (.cells #[.int .i64 0] 3)).alloc (.cells #[.int .i64 1] 3) = w1 := ⟨_, rfl⟩
    have G1 : Hid (Bk w1 w.heap.size 35 zero8) := by show Bk _ _ _ _; rw [← hw1]; exact ((Bk.new w _ _).alloc _).alloc _
    have l1 : Hid (Below w.heap.size w w1) := by show Below _ _ _; rw [← hw1]; exact (((Below.refl _ _).alloc (Nat.le_refl _) _).alloc (by simp) _).alloc (by simp; omega) _
    rw [hw1]
    clear hw1
    have z1 : w.heap.size < w1.heap.size := G1.out.lt
    go_wp2_with (first
      | (go_at_call 75; refine (W1.out _).mono ?_; rintro e w' ⟨rfl, rfl⟩)
      | (go_at_call 74; refine (first3 0 0 0 w1).mono ?_; rintro e w' ⟨rfl, rfl⟩))
    obtain ⟨w2, hw2⟩ : ∃ w2, w1.alloc (.cells #[.int .i64 0, .int .i64 0, .int .i64 0] 27) = w2 := ⟨_, rfl⟩
    have G2 : Hid (Bk w2 w.heap.size 35 zero8) := by show Bk _ _ _ _; rw [← hw2]; exact G1.out.alloc _
    have l2 : Hid (Below w.heap.size w w2) := by show Below _ _ _; rw [← hw2]; exact l1.out.alloc (by omega) _
    rw [hw2]
    clear hw2 G1 l1
    refine (CN1.out _ _ l2.out).mono ?_
    rintro e w' ⟨rfl, rfl⟩
    go_wp2_with fail
    refine (CN2.out _ _ l2.out).mono ?_
    rintro e w' ⟨rfl, rfl⟩
    have K2 := Lib.hid (KEY.out w2 G2.out l2.out)
    go_wp2_with (with_reducible refine wpList_store_row rfl 35 (.tmp 2) (.tmp 40) rfl w.heap.size zero8 rfl rfl 35 zero8 G2.out.heap HZ8.out.info rfl HZ8.out.one ?_)
    refine bodyPost_ret (v := .tuple #[.agg zero8, .int .i64 3]) ?_ rfl ⟨rfl, K2.out.2⟩
    exact results_cell_tmp (fn := Tryd.f52) rfl _ _ w.heap.size 35 zero8 (0, 0) _ rfl K2.out.1 arrUnder rfl HZ8.out.info

end Go.Proofs.YtepjnkmmielamaaDoor
