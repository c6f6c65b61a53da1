import Derived.Test.YtepjnkmmielamaaDoorW4
namespace Go.Proofs.YtepjnkmmielamaaDoor
open Go.RowKit

/-- The slice '.slice A n c' reads as the numbers xs. -/
def RdI (w : World) (A : Option Addr) (n : Nat) (xs : List Int) : Prop :=
  xs.length = n ∧ (0 < n → ∃ ad, A = some ad ∧ ad.block < w.heap.size ∧ ∀ j, j < n → w.cell? (ad.add j) = some (.int .i64 (xs.getD j 0)))

theorem addBlock (a : Addr) (n : Nat) : (a.add n).block = a.block := by unfold Addr.add; split <;> rfl
theorem RdI.below {w w' : World} {A : Option Addr} {n : Nat} {xs : List Int} (h : RdI w A n xs) (hb : Below w.heap.size w w') : RdI w' A n xs := by
  refine ⟨h.1, fun hn => ?_⟩
  obtain ⟨ad, e, hlt, hc⟩ := h.2 hn
  exact ⟨ad, e, Nat.lt_of_lt_of_le hlt hb.size, fun j hj => (hb.cell (by rw [addBlock]; exact hlt)).trans (hc j hj)⟩

def rangesE (xs : List Int) (lo hi : Int) : Int := firstE (xs.map fun x => rangeE x lo hi)

theorem rangesE_step (xs : List Int) (lo hi : Int) (k : Nat) (hk : k < xs.length) :
    rangesE (xs.drop k) lo hi = if rangeE (xs.getD k 0) lo hi = 0 then rangesE (xs.drop (k + 1)) lo hi else rangeE (xs.getD k 0) lo hi := by
  unfold rangesE
  rw [List.drop_eq_getElem_cons hk]
  simp only [List.map_cons, firstE, List.getD_eq_getElem?_getD, List.getElem?_eq_getElem hk, Option.getD_some]

theorem from1_any (lo hi n : Int) (b0 b1 : Nat) (w : World) (h0 : w.cell? ⟨b0, 0, none⟩ = some (.int .i64 lo)) (h1 : w.cell? ⟨b1, 0, none⟩ = some (.int .i64 hi)) :
    Calls Tryd.prog 153 #[.int .i64 n, .pointer (some ⟨b0, 0, none⟩), .pointer (some ⟨b1, 0, none⟩)] w fun e w' => e = .returned (.int .i64 (rangeE n lo hi)) ∧ w = w' := by
  go_enter Tryd.func153, Tryd.ntmps153
  go_wp2_with (go_at_call 76; refine (checkRange_any _ _ _ _).mono ?_; rintro e w' ⟨rfl, rfl⟩)
  go_ret
  exact ⟨rfl, rfl⟩

theorem checkEachInt_any (A : Option Addr) (n c : Nat) (xs : List Int) (lo hi : Int) (b0 b1 : Nat) (w : World) (hr : RdI w A n xs) (hn : n ≤ 9223372036854775807)
    (h0 : w.cell? ⟨b0, 0, none⟩ = some (.int .i64 lo)) (h1 : w.cell? ⟨b1, 0, none⟩ = some (.int .i64 hi)) :
    Calls Tryd.prog 109 #[.slice A n c, .func (Fn.func 153) #[] #[.pointer (some ⟨b0, 0, none⟩), .pointer (some ⟨b1, 0, none⟩)]] w
      fun e w' => e = .returned (.int .i64 (rangesE xs lo hi)) ∧ w = w' := by
  have HR := Lib.hid hr; clear hr
  have H0 := Lib.hid h0; clear h0
  have H1 := Lib.hid h1; clear h1
  go_enter Tryd.func109, Tryd.ntmps109
  go_wp2
  go_loop [4, 10] (fun e i => ∃ k : Nat, k ≤ n ∧ i = .int .i64 k ∧ Hid (rangesE xs lo hi = rangesE (xs.drop k) lo hi)) (fun _ i => n - (intOf i).toNat)
  case atStart => exact ⟨0, Nat.zero_le _, rfl, rfl⟩
  case round =>
    obtain ⟨k, hk, rfl, HE⟩ := hrel
    by_cases hlt : k < n
    · obtain ⟨ad, ha, _, hc⟩ := HR.out.2 (by omega)
      have hck := hc k hlt
      clear hc
      subst ha
      obtain ⟨x, hx⟩ : ∃ x, xs.getD k 0 = x := ⟨_, rfl⟩
      have hs := rangesE_step xs lo hi k (by have := HR.out.1; omega)
      rw [hx] at hck hs
      have HS := Lib.hid hs; clear hs hx
      obtain ⟨r, hr⟩ : ∃ r, rangeE x lo hi = r := ⟨_, rfl⟩
      have HRr := Lib.hid hr
      have C : Hid (∀ w : World, w.cell? ⟨b0, 0, none⟩ = some (.int .i64 lo) → w.cell? ⟨b1, 0, none⟩ = some (.int .i64 hi) → Calls Tryd.prog 153 #[.int .i64 x, .pointer (some ⟨b0, 0, none⟩), .pointer (some ⟨b1, 0, none⟩)] w fun e w' => e = .returned (.int .i64 r) ∧ w = w') :=
        fun w a b => by rw [← hr]; exact from1_any lo hi x b0 b1 w a b
      clear hr
      go_wp2_with (go_at_call 153; refine (C.out _ H0.out H1.out).mono ?_; rintro e w' ⟨rfl, rfl⟩)
      · have h1 : (r != 0) = true := by assumption
        go_ret
        refine ⟨?_, rfl⟩
        have h2 : r ≠ 0 := by simpa using h1
        rw [HE.out, HS.out, HRr.out, if_neg h2]
        rfl
      · have h1 : (r != 0) = false := by assumption
        have h2 : r = 0 := by simpa using h1
        go_round
        case rel =>
          refine ⟨k + 1, by omega, by go_num, ?_⟩
          show rangesE xs lo hi = _
          rw [HE.out, HS.out, HRr.out, if_pos h2]
        case measure => simp [intOf]; omega
    · go_wp2
      go_ret
      refine ⟨?_, rfl⟩
      rw [HE.out, List.drop_of_length_le (by have := HR.out.1; omega)]
      rfl

theorem checkSignal_any (A : Option Addr) (n c : Nat) (xs : List Int) (w : World) (hr : RdI w A n xs) (hn : n ≤ 9223372036854775807) :
    Calls Tryd.prog 94 #[.slice A n c] w fun e w' => e = .returned (.int .i64 (rangesE xs (-32767) 32767)) ∧ Below w.heap.size w w' := by
  have HR := Lib.hid hr; clear hr
  go_enter Tryd.func94, Tryd.ntmps94
  go_wp2_with (go_at_call 110; go_in)
  refine (checkEachInt_any A n c xs (-32767) 32767 _ _ _ (HR.out.below (((Below.refl _ _).alloc (Nat.le_refl _) _).alloc (by simp) _)) hn ?_ ?_).mono ?_
  · simp [go_sem]
  · simp [go_sem]
  rintro e w' ⟨rfl, rfl⟩
  go_wp2
  go_ret
  exact ⟨rfl, ((Below.refl _ _).alloc (Nat.le_refl _) _).alloc (by simp) _⟩

end Go.Proofs.YtepjnkmmielamaaDoor
