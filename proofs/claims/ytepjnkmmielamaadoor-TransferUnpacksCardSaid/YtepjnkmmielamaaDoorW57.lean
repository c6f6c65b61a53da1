import Derived.Test.YtepjnkmmielamaaDoorW54
import Derived.Test.YtepjnkmmielamaaDoorGA
namespace Go.Proofs.YtepjnkmmielamaaDoor
open Go.RowKit

theorem refUnfold_any (u : Nat) (w : World) (h : u ≤ 60000000) :
    Calls Tryd.prog 114 #[.int .i64 u] w fun e w' => e = .returned (.int .i64 (unfold1 u)) ∧ w = w' := by
  have HUF : Hid (unfold1 u = if (u : Int) % 2 = 1 then -((u : Int) / 2) - 1 else (u : Int) / 2) := rfl
  by_cases hodd : u % 2 = 1
  · have hb : ((u : Int) % 2 == 0) = false := by simp; omega
    have hR : Hid (((u : Int) + 1).tdiv 2 = ((u : Int) + 1) / 2) := Int.tdiv_eq_ediv_of_nonneg (by omega)
    go_enter Tryd.func114, Tryd.ntmps114
    go_wp2
    go_ret
    refine ⟨?_, rfl⟩
    show Ending.returned (.int .i64 (wrap64 (-((u : Int) + 1).tdiv 2))) = _
    rw [hR.out, IntWalk.wrap64_in _ ⟨by omega, by omega⟩, HUF.out, if_pos (by omega)]
    congr 2
    omega
  · have hb : ((u : Int) % 2 == 0) = true := by simp; omega
    go_enter Tryd.func114, Tryd.ntmps114
    go_wp2
    go_ret
    refine ⟨?_, rfl⟩
    rw [HUF.out, if_neg (by omega)]
    rfl

theorem areBits_any (A : Option Addr) (n c : Nat) (l : List Int) (w : World) (hr : RdI w A n l) (hn : n ≤ 1000000) :
    Calls Tryd.prog 54 #[.slice A n c] w fun e w' => e = .returned (.bool (b01 l)) ∧ w = w' := by
  have HR := Lib.hid hr; clear hr
  go_enter Tryd.func54, Tryd.ntmps54
  go_wp2
  go_loop [3] (fun i => ∃ k : Nat, k ≤ n ∧ i = .int .i64 k ∧ Hid (b01 l = b01 (l.drop k))) (fun i => n - (intOf i).toNat)
  case atStart => exact ⟨0, Nat.zero_le _, rfl, rfl⟩
  case round =>
    obtain ⟨k, hk, rfl, HE⟩ := hrel
    by_cases hlt : k < n
    · obtain ⟨ad, ha, _, hc⟩ := HR.out.2 (by omega)
      have hck := hc k hlt
      clear hc
      subst ha
      have hst := b01_drop l k (by have := HR.out.1; omega)
      obtain ⟨x, hxe⟩ : ∃ x, l.getD k 0 = x := ⟨_, rfl⟩
      rw [hxe] at hck hst
      have HST := Lib.hid hst
      clear hxe hst
      by_cases h0 : x = 0
      · subst h0
        go_wp2
        go_round
        case rel => exact ⟨k + 1, by omega, by go_num, by show b01 l = _; rw [HE.out, HST.out]; rfl⟩
        case measure => simp [intOf]; omega
      · by_cases h1 : x = 1
        · subst h1
          go_wp2
          go_round
          case rel => exact ⟨k + 1, by omega, by go_num, by show b01 l = _; rw [HE.out, HST.out]; rfl⟩
          case measure => simp [intOf]; omega
        · have hb0 : (x != 0) = true := by simpa using h0
          have hb1 : (x != 1) = true := by simpa using h1
          have HF : Hid (b01 l = false) := by
            show b01 l = false
            rw [HE.out, HST.out]
            simp [h0, h1]
          go_wp2
          go_ret
          exact ⟨by rw [HF.out]; rfl, rfl⟩
    · obtain rfl : k = n := by omega
      have HF : Hid (b01 l = true) := by
        show b01 l = true
        rw [HE.out, List.drop_of_length_le (by have := HR.out.1; omega)]; rfl
      go_wp2
      go_ret
      exact ⟨by rw [HF.out]; rfl, rfl⟩

theorem rangesE_b01 (l : List Int) : rangesE l 0 1 = if b01 l then 0 else 2 := by
  rcases rangesE_cases l 0 1 with e | e
  · have : b01 l = true := (b01_iff l).2 fun x hx => by have := (rangesE_zero l 0 1).1 e x hx; omega
    rw [this]; exact e
  · cases hb : b01 l with
    | false => exact e
    | true =>
      have := rangesE01 l ((b01_iff l).1 hb)
      omega

def headE (n : Nat) (l : List Int) : Int := firstE [whenE (decide (3000 < (n : Int))) 8, rangesE l 0 1, whenE (decide ((n : Int) < 7)) 10]

set_option maxRecDepth 100000 in
set_option maxHeartbeats 2000000 in
theorem unp_head (A : Option Addr) (n c : Nat) (l : List Int) (r : Int) (w : World) (hrd : RdI w A n l) (hn : n ≤ 1000000) (hr : headE n l = r) (hne : r ≠ 0) :
    Calls Tryd.prog 52 #[.slice A n c] w fun e w' => e = .returned (.tuple #[.agg zero8, .int .i64 r]) ∧ Below w.heap.size w w' := by
  have HR := Lib.hid hrd
  obtain ⟨r1, h1⟩ : ∃ r1, whenE (decide (3000 < (n : Int))) 8 = r1 := ⟨_, rfl⟩
  obtain ⟨r2, h2⟩ : ∃ r2, rangesE l 0 1 = r2 := ⟨_, rfl⟩
  obtain ⟨r3, h3⟩ : ∃ r3, whenE (decide ((n : Int) < 7)) 10 = r3 := ⟨_, rfl⟩
  have W0 : Hid (∀ W, Calls Tryd.prog 75 #[.bool (decide (3000 < (n : Int))), .int .i64 8] W fun e w' => e = .returned (.int .i64 r1) ∧ W = w') := fun W => by rw [← h1]; exact when_any _ 8 W
  have W1 : Hid (∀ W, Calls Tryd.prog 75 #[.bool (decide ((n : Int) < 7)), .int .i64 10] W fun e w' => e = .returned (.int .i64 r3) ∧ W = w') := fun W => by rw [← h3]; exact when_any _ 10 W
  have CE : Hid (∀ b0 b1 W, RdI W A n l → W.cell? ⟨b0, 0, none⟩ = some (.int .i64 0) → W.cell? ⟨b1, 0, none⟩ = some (.int .i64 1) → Calls Tryd.prog 109 #[.slice A n c, .func (Fn.func 153) #[] #[.pointer (some ⟨b0, 0, none⟩), .pointer (some ⟨b1, 0, none⟩)]] W
      fun e w' => e = .returned (.int .i64 r2) ∧ W = w') := fun b0 b1 W a b d => by rw [← h2]; exact checkEachInt_any A n c l 0 1 b0 b1 W a (by omega) b d
  have HF : Hid (firstE [r1, r2, r3] = r) := by show firstE _ = r; rw [← hr, headE, h1, h2, h3]
  have hb0 : (r != 0) = true := by simpa using hne
  have HZ8 := Lib.hid (is8_iArr [0, 0, 0, 0, 0, 0, 0, 0] rfl)
  rw [← zero8_iArr] at HZ8
  clear h1 h2 h3 hr hne hrd
  go_enter Tryd.func52, Tryd.ntmps52
  go_wp2_with (first
    | (go_at_call 75; (with_reducible refine (W0.out _).mono ?_); rintro e w' ⟨rfl, rfl⟩)
    | (go_at_call 110; go_in))
  refine (CE.out _ _ _ (HR.out.below ((((Below.refl _ _).alloc (Nat.le_refl _) _).alloc (by simp) _).alloc (by simp; omega) _)) ?_ ?_).mono ?_
  · simp [go_sem]
  · simp [go_sem]
  rintro e w1 ⟨rfl, rfl⟩
  obtain ⟨w1, hw1⟩ : ∃ w1, ((w.alloc (.cells zero8 35)).alloc (.cells #[.int .i64 0] 3)).alloc (.cells #[.int .i64 1] 3) = w1 := ⟨_, rfl⟩
  have G1 : Hid (Bk w1 w.heap.size 35 zero8) := by show Bk _ _ _ _; rw [← hw1]; exact ((Bk.new w _ _).alloc _).alloc _
  have l1 : Hid (Below w.heap.size w w1) := by show Below _ _ _; rw [← hw1]; exact (((Below.refl _ _).alloc (Nat.le_refl _) _).alloc (by simp) _).alloc (by simp; omega) _
  rw [hw1]
  clear hw1
  have z1 : w.heap.size < w1.heap.size := G1.out.lt
  have FE : Hid (Calls Tryd.prog 74 #[.slice (some ⟨w1.heap.size, 0, none⟩) 3 3] (w1.alloc (.cells #[.int .i64 r1, .int .i64 r2, .int .i64 r3] 27)) fun e w' => e = .returned (.int .i64 r) ∧ w1.alloc (.cells #[.int .i64 r1, .int .i64 r2, .int .i64 r3] 27) = w') := by
    have := first3 r1 r2 r3 w1
    rw [HF.out] at this
    exact this
  have G2 : Hid (Bk (w1.alloc (.cells #[.int .i64 r1, .int .i64 r2, .int .i64 r3] 27)) w.heap.size 35 zero8) := G1.out.alloc _
  have l2 : Hid (Below w.heap.size w (w1.alloc (.cells #[.int .i64 r1, .int .i64 r2, .int .i64 r3] 27))) := l1.out.alloc (by omega) _
  have HGz : Hid (Bk ((w1.alloc (.cells #[.int .i64 r1, .int .i64 r2, .int .i64 r3] 27)).setRow w.heap.size zero8) w.heap.size 35 zero8) := setRow_heap _ w.heap.size _ zero8 _ _ G2.out
  have HBz := Lib.hid (below_setRow l2.out (Nat.le_refl _) zero8)
  go_wp2_with (first
    | (go_at_call 75; (with_reducible refine (W1.out _).mono ?_); rintro e w' ⟨rfl, rfl⟩)
    | (go_at_call 74; refine FE.out.mono ?_; rintro e w' ⟨rfl, rfl⟩)
    | (with_reducible refine wpList_store_row rfl 35 (.tmp 2) (.tmp 26) rfl w.heap.size zero8 rfl rfl 35 zero8 G2.out.heap HZ8.out.info rfl HZ8.out.one ?_))
  refine bodyPost_ret (v := .tuple #[.agg zero8, .int .i64 r]) ?_ rfl ⟨rfl, HBz.out⟩
  exact results_cell_tmp (fn := Tryd.f52) rfl _ _ w.heap.size 35 zero8 (0, 0) _ rfl HGz.out arrUnder rfl HZ8.out.info

end Go.Proofs.YtepjnkmmielamaaDoor
