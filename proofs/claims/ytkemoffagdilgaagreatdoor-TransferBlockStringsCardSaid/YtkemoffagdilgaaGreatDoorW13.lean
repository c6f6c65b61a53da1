import Derived.Test.YtkemoffagdilgaaGreatDoorW12
namespace Go.Proofs.YtkemoffagdilgaaGreatDoor
open Go.RowKit

theorem is8_lit (x0 x1 x2 x3 x4 x5 x6 x7 : Int) : Is8 #[.int .i64 x0, .int .i64 x1, .int .i64 x2, .int .i64 x3, .int .i64 x4, .int .i64 x5, .int .i64 x6, .int .i64 x7] [x0, x1, x2, x3, x4, x5, x6, x7] := by
  refine ⟨rfl, rfl, fun j hj => ?_⟩
  match j, hj with
  | 0, _ => rfl
  | 1, _ => rfl
  | 2, _ => rfl
  | 3, _ => rfl
  | 4, _ => rfl
  | 5, _ => rfl
  | 6, _ => rfl
  | 7, _ => rfl

/-- The error of a block but for its checksum. -/
def contE (c h : Int) (xs : List Int) : Int := firstE [rangeE c 0 65535, rangeE h 0 3, rangesE xs (-32767) 32767]

set_option maxRecDepth 100000 in
set_option maxHeartbeats 1000000 in
theorem checkContents_any (c h x0 x1 x2 x3 x4 x5 x6 x7 s : Int) (w : World) :
    Calls Tryz.prog 38 #[.agg #[.int .i64 c, .int .i64 h, .int .i64 x0, .int .i64 x1, .int .i64 x2, .int .i64 x3, .int .i64 x4, .int .i64 x5, .int .i64 x6, .int .i64 x7, .int .i64 s]] w fun e w' => e = .returned (.int .i64 (contE c h [x0, x1, x2, x3, x4, x5, x6, x7])) ∧ Below w.heap.size w w' := by
  obtain ⟨r1, hr1⟩ : ∃ r, rangeE c 0 65535 = r := ⟨_, rfl⟩
  obtain ⟨r2, hr2⟩ : ∃ r, rangeE h 0 3 = r := ⟨_, rfl⟩
  obtain ⟨r3, hr3⟩ : ∃ r, rangesE [x0, x1, x2, x3, x4, x5, x6, x7] (-32767) 32767 = r := ⟨_, rfl⟩
  have C1 : Hid (∀ W, Calls Tryz.prog 60 #[.int .i64 c] W fun e w' => e = .returned (.int .i64 r1) ∧ W = w') := fun W => by rw [← hr1]; exact checkCounter_any c W
  have C2 : Hid (∀ W, Calls Tryz.prog 61 #[.int .i64 h] W fun e w' => e = .returned (.int .i64 r2) ∧ W = w') := fun W => by rw [← hr2]; exact checkChannel_any h W
  have C3 : Hid (∀ W, Calls Tryz.prog 31 #[.agg #[.int .i64 x0, .int .i64 x1, .int .i64 x2, .int .i64 x3, .int .i64 x4, .int .i64 x5, .int .i64 x6, .int .i64 x7]] W fun e w' => e = .returned (.int .i64 r3) ∧ Below W.heap.size W w') := fun W => by rw [← hr3]; exact checkSamples_any _ _ W (is8_lit x0 x1 x2 x3 x4 x5 x6 x7)
  have HE : Hid (contE c h [x0, x1, x2, x3, x4, x5, x6, x7] = firstE [r1, r2, r3]) := by show contE _ _ _ = _; rw [contE, hr1, hr2, hr3]
  clear hr1 hr2 hr3
  go_enter Tryz.func38, Tryz.ntmps38
  go_wp2_with fail
  go_region_held3 (fun w' => w'.cell? ⟨w.heap.size, 0, none⟩ = some (.int .i64 c) ∧ w'.cell? ⟨w.heap.size, 1, none⟩ = some (.int .i64 h) ∧ w'.cell? ⟨w.heap.size, 2, none⟩ = some (.int .i64 x0) ∧ w'.cell? ⟨w.heap.size, 3, none⟩ = some (.int .i64 x1) ∧ w'.cell? ⟨w.heap.size, 4, none⟩ = some (.int .i64 x2) ∧ w'.cell? ⟨w.heap.size, 5, none⟩ = some (.int .i64 x3) ∧ w'.cell? ⟨w.heap.size, 6, none⟩ = some (.int .i64 x4) ∧ w'.cell? ⟨w.heap.size, 7, none⟩ = some (.int .i64 x5) ∧ w'.cell? ⟨w.heap.size, 8, none⟩ = some (.int .i64 x6) ∧ w'.cell? ⟨w.heap.size, 9, none⟩ = some (.int .i64 x7))
    (first | go_keep | (go_split_ands; refine ⟨?_, ?_, ?_, ?_, ?_, ?_, ?_, ?_, ?_, ?_⟩ <;> (rw [hb.cell (by simp)]; simp [go_sem])))
    (first
      | (go_at_call 60; refine (C1.out _).mono ?_; rintro e w' ⟨rfl, rfl⟩)
      | (go_at_call 61; refine (C2.out _).mono ?_; rintro e w' ⟨rfl, rfl⟩)
      | (go_at_call 31; refine (C3.out _).mono ?_; rintro e w' ⟨rfl, hb⟩)
      | (go_at_call 26; refine (first3 _ _ _ _).mono ?_; rintro e w' ⟨rfl, rfl⟩))
  go_wp2
  go_ret
  exact ⟨by rw [HE.out]; rfl, ((((Below.refl _ _).alloc (Nat.le_refl _) _).drew).trans (hb.mono (by simp))).alloc (by have := hb.size; simp at this; omega) _⟩

def sumTo (c h : Int) (xs : List Int) : Nat → Int
  | 0 => 9 * c + 10 * h
  | k + 1 => sumTo c h xs k + ((k : Int) + 1) * (xs.getD k 0 + 32768)
def sumT (c h : Int) (xs : List Int) : Int := sumTo c h xs 8 % 65537

theorem sumTo_bd (c h : Int) (xs : List Int) (k : Nat) (hk : k ≤ 8) (hc : 0 ≤ c ∧ c ≤ 65535) (hh : 0 ≤ h ∧ h ≤ 3) (hx : Bnd xs 32767) : 0 ≤ sumTo c h xs k ∧ sumTo c h xs k ≤ 1000000 + 600000 * k := by
  induction k with
  | zero => simp only [sumTo]; omega
  | succ k ih =>
    have i := ih (by omega)
    have b := hx k
    have m := mul_bd2 ((k : Int) + 1) (xs.getD k 0 + 32768) 8 65535 (by omega) (by omega) (by omega) (by omega)
    simp only [sumTo]
    omega

theorem sumOf_some (c h x0 x1 x2 x3 x4 x5 x6 x7 s : Int) (w : World) :
    Calls Tryz.prog 39 #[.agg #[.int .i64 c, .int .i64 h, .int .i64 x0, .int .i64 x1, .int .i64 x2, .int .i64 x3, .int .i64 x4, .int .i64 x5, .int .i64 x6, .int .i64 x7, .int .i64 s]] w fun e w' => (∃ n : Int, e = .returned (.int .i64 n)) ∧ Below w.heap.size w w' := by
  have H := Lib.hid (is8_lit x0 x1 x2 x3 x4 x5 x6 x7)
  go_enter Tryz.func39, Tryz.ntmps39
  go_wp2
  go_loop [3, 15] (fun n i => ∃ k : Nat, k ≤ 8 ∧ i = .int .i64 k ∧ Hid (∃ m : Int, n = .int .i64 m)) (fun _ i => 8 - (intOf i).toNat)
  case atStart => exact ⟨0, by omega, rfl, _, rfl⟩
  case round =>
    obtain ⟨k, hk, rfl, hm⟩ := hrel
    obtain ⟨m, rfl⟩ := hm.out
    clear hm
    by_cases hlt : k < 8
    · have hix := H.out.ix k hlt
      obtain ⟨x, hx⟩ : ∃ x, List.getD [x0, x1, x2, x3, x4, x5, x6, x7] k 0 = x := ⟨_, rfl⟩
      rw [hx] at hix
      clear hx
      go_wp2
      go_round
      case rel => exact ⟨k + 1, by omega, by go_num, _, rfl⟩
      case measure => simp [intOf]; omega
    · obtain rfl : k = 8 := by omega
      go_wp2
      go_ret
      exact ⟨⟨_, rfl⟩, (Below.refl _ _).alloc (Nat.le_refl _) _⟩

theorem sumOf_ok (c h x0 x1 x2 x3 x4 x5 x6 x7 s : Int) (w : World) (hc : 0 ≤ c ∧ c ≤ 65535) (hh : 0 ≤ h ∧ h ≤ 3) (hxs : Bnd [x0, x1, x2, x3, x4, x5, x6, x7] 32767) :
    Calls Tryz.prog 39 #[.agg #[.int .i64 c, .int .i64 h, .int .i64 x0, .int .i64 x1, .int .i64 x2, .int .i64 x3, .int .i64 x4, .int .i64 x5, .int .i64 x6, .int .i64 x7, .int .i64 s]] w fun e w' => e = .returned (.int .i64 (sumT c h [x0, x1, x2, x3, x4, x5, x6, x7])) ∧ Below w.heap.size w w' := by
  have H := Lib.hid (is8_lit x0 x1 x2 x3 x4 x5 x6 x7)
  have HB := Lib.hid hxs
  clear hxs
  go_enter Tryz.func39, Tryz.ntmps39
  go_wp2
  go_loop [3, 15] (fun n i => ∃ k : Nat, k ≤ 8 ∧ i = .int .i64 k ∧ n = .int .i64 (sumTo c h [x0, x1, x2, x3, x4, x5, x6, x7] k)) (fun _ i => 8 - (intOf i).toNat)
  case atStart => exact ⟨0, by omega, rfl, rfl⟩
  case round =>
    obtain ⟨k, hk, rfl, rfl⟩ := hrel
    have hbd := sumTo_bd c h [x0, x1, x2, x3, x4, x5, x6, x7] k hk hc hh HB.out
    by_cases hlt : k < 8
    · have hix := H.out.ix k hlt
      have hxb := HB.out k
      have hst : Hid (sumTo c h [x0, x1, x2, x3, x4, x5, x6, x7] (k + 1) = sumTo c h [x0, x1, x2, x3, x4, x5, x6, x7] k + ((k : Int) + 1) * (List.getD [x0, x1, x2, x3, x4, x5, x6, x7] k 0 + 32768)) := rfl
      obtain ⟨x, hx⟩ : ∃ x, List.getD [x0, x1, x2, x3, x4, x5, x6, x7] k 0 = x := ⟨_, rfl⟩
      obtain ⟨n, hn⟩ : ∃ n, sumTo c h [x0, x1, x2, x3, x4, x5, x6, x7] k = n := ⟨_, rfl⟩
      rw [hx] at hix hxb hst
      rw [hn] at hst hbd ⊢
      clear hx hn
      have hm := mul_bd2 ((k : Int) + 1) (x + 32768) 8 65535 (by omega) (by omega) (by omega) (by omega)
      go_wp2
      go_round
      case rel => exact ⟨k + 1, by omega, by go_num, by rw [hst.out]⟩
      case measure => simp [intOf]; omega
    · obtain rfl : k = 8 := by omega
      obtain ⟨n, hn⟩ : ∃ n, sumTo c h [x0, x1, x2, x3, x4, x5, x6, x7] 8 = n := ⟨_, rfl⟩
      have hT : Hid (sumT c h [x0, x1, x2, x3, x4, x5, x6, x7] = n % 65537) := by show sumT _ _ _ = _; rw [sumT, hn]
      rw [hn] at hbd ⊢
      clear hn
      go_wp2
      go_ret
      exact ⟨by rw [hT.out]; rfl, (Below.refl _ _).alloc (Nat.le_refl _) _⟩

end Go.Proofs.YtkemoffagdilgaaGreatDoor
