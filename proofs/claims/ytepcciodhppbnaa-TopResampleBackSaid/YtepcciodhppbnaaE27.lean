import Derived.Test.YtepcciodhppbnaaE26

namespace Go.Proofs.Ytepcciodhppbnaa
open Go.RowKit

set_option maxRecDepth 100000 in
theorem refDegreeErr_any (a : Int) (w : World) :
    Calls Try.prog 66 #[.int .i64 a] w fun e w' => e = .returned (.int .i64 (degE a)) ∧ w = w' := by
  have HE : Hid (degE a = if a = 1 ∨ a = 3 then 0 else 15) := rfl
  obtain ⟨E, hE⟩ : ∃ E, degE a = E := ⟨_, rfl⟩
  rw [hE] at HE ⊢
  clear hE
  by_cases h1 : a = 1
  · have HF := HE.out
    rw [if_pos (.inl h1)] at HF
    subst h1 HF
    clear HE
    go_enter Try.func66, Try.ntmps66
    go_wp2
    go_ret
    exact ⟨rfl, rfl⟩
  · by_cases h3 : a = 3
    · have HF := HE.out
      rw [if_pos (.inr h3)] at HF
      subst h3 HF
      clear HE
      go_enter Try.func66, Try.ntmps66
      go_wp2
      go_ret
      exact ⟨rfl, rfl⟩
    · have HF := HE.out
      rw [if_neg (by omega)] at HF
      subst HF
      clear HE
      have b1 : (a != 1) = true := by rw [bne_iff_ne]; exact h1
      have b3 : (a != 3) = true := by rw [bne_iff_ne]; exact h3
      go_enter Try.func66, Try.ntmps66
      go_wp2
      go_ret
      exact ⟨rfl, rfl⟩
def shortB (n : Nat) : Bool := decide (n ≤ 64 ∨ 400 < n ∧ n ≤ 402)
set_option maxRecDepth 100000 in
theorem short_any (A : Option Addr) (n c : Nat) (w : World) (hn : n ≤ 9223372036854775807) :
    Calls Try.prog 21 #[.slice A n c] w fun e w' => e = .returned (.bool (shortB n)) ∧ w = w' := by
  have HE : Hid (shortB n = decide (n ≤ 64 ∨ 400 < n ∧ n ≤ 402)) := rfl
  obtain ⟨E, hE⟩ : ∃ E, shortB n = E := ⟨_, rfl⟩
  rw [hE] at HE ⊢
  clear hE
  by_cases h1 : n ≤ 64
  · have h1I : (n : Int) ≤ 64 := by omega
    have HF := HE.out
    rw [decide_eq_true (.inl h1)] at HF
    subst HF
    clear HE
    go_enter Try.func21, Try.ntmps21
    go_wp2
    go_ret
    exact ⟨by simp [h1I], rfl⟩
  · have h1I : ¬ (n : Int) ≤ 64 := by omega
    by_cases h2 : 400 < n
    · have h2I : (400 : Int) < (n : Int) := by omega
      by_cases h3 : n ≤ 402
      · have h3I : (n : Int) ≤ 402 := by omega
        have HF := HE.out
        rw [decide_eq_true (.inr ⟨h2, h3⟩)] at HF
        subst HF
        clear HE
        go_enter Try.func21, Try.ntmps21
        go_wp2
        go_ret
        exact ⟨by simp [h1I, h2I, h3I], rfl⟩
      · have h3I : ¬ (n : Int) ≤ 402 := by omega
        have HF := HE.out
        rw [decide_eq_false (by omega)] at HF
        subst HF
        clear HE
        go_enter Try.func21, Try.ntmps21
        go_wp2
        go_ret
        exact ⟨by simp [h1I, h2I, h3I], rfl⟩
    · have h2I : ¬ (400 : Int) < (n : Int) := by omega
      have HF := HE.out
      rw [decide_eq_false (by omega)] at HF
      subst HF
      clear HE
      go_enter Try.func21, Try.ntmps21
      go_wp2
      go_ret
      exact ⟨by simp [h1I, h2I], rfl⟩
set_option maxRecDepth 100000 in
set_option maxHeartbeats 1000000 in
theorem refSignalErr_any (A : Option Addr) (n c : Nat) (xs : List Int) (w : World) (hr : RdI w A n xs) (hn : n ≤ 9223372036854775806) :
    Calls Try.prog 25 #[.slice A n c] w fun e w' => e = .returned (.int .i64 (sigE xs)) ∧ w = w' := by
  have HR := Lib.hid hr
  have HE : Hid (sigE xs = if 400 < n then 8 else rngE (-32767) 32767 xs) := by show _ = _; unfold sigE numE; rw [hr.1]
  clear hr
  obtain ⟨E, hE⟩ : ∃ E, sigE xs = E := ⟨_, rfl⟩
  rw [hE] at HE ⊢
  clear hE
  by_cases h4 : 400 < n
  · have h4I : (400 : Int) < (n : Int) := by omega
    have HF := HE.out
    rw [if_pos h4] at HF
    subst HF
    clear HE
    go_enter Try.func25, Try.ntmps25
    go_wp2
    go_ret
    exact ⟨rfl, rfl⟩
  · have h4I : ¬ (400 : Int) < (n : Int) := by omega
    have HF := Lib.hid HE.out
    clear HE
    have HE : Hid (E = rngE (-32767) 32767 xs) := by show _ = _; rw [HF.out, if_neg h4]
    clear HF
    go_enter Try.func25, Try.ntmps25
    go_wp2
    go_loop [3] (fun i => ∃ k : Nat, k ≤ n ∧ i = .int .i64 k ∧ Hid (rngE (-32767) 32767 xs = rngE (-32767) 32767 (xs.drop k))) (fun i => n - (intOf i).toNat)
    case atStart => exact ⟨0, Nat.zero_le _, rfl, rfl⟩
    case round =>
      obtain ⟨k, hk, rfl, HF⟩ := hrel
      by_cases hlt : k < n
      · obtain ⟨ad, ha, _, hc⟩ := HR.out.2 (by omega)
        have hck := hc k hlt
        clear hc
        subst ha
        obtain ⟨x, hx⟩ : ∃ x, xs.getD k 0 = x := ⟨_, rfl⟩
        have hs := rngE_step (-32767) 32767 xs k (by have := HR.out.1; omega)
        rw [hx] at hck hs
        have CX := Lib.hid (fun w => within_any x (-32767) 32767 w)
        have hrx : rngE (-32767) 32767 [x] = if fromB (-32767) 32767 [x] = true then 0 else 2 := rfl
        rw [hrx] at hs
        obtain ⟨y, hy⟩ : ∃ y, fromB (-32767) 32767 [x] = y := ⟨_, rfl⟩
        rw [hy] at hs CX
        have HS := Lib.hid hs; clear hs hx hy hrx
        have hkI : (k : Int) < (n : Int) := by omega
        cases y
        · go_wp2_with fail
          refine (CX.out _).mono ?_
          rintro e w' ⟨rfl, rfl⟩
          go_wp2
          go_ret
          exact ⟨by rw [HE.out, HF.out, HS.out]; rfl, rfl⟩
        · go_wp2_with fail
          refine (CX.out _).mono ?_
          rintro e w' ⟨rfl, rfl⟩
          go_wp2
          go_round
          case rel => exact ⟨k + 1, by omega, by go_num, by show _ = _; rw [HF.out, HS.out]; rfl⟩
          case measure => simp [intOf]; omega
      · obtain rfl : n = k := by omega
        go_wp2
        go_ret
        exact ⟨by rw [HE.out, HF.out, List.drop_eq_nil_of_le (by have := HR.out.1; omega)]; rfl, rfl⟩

end Go.Proofs.Ytepcciodhppbnaa
