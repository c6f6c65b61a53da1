import Derived.Test.YtkemoffagdilgaaDoorW30
import Derived.Test.YtkemoffagdilgaaDoorW20
namespace Go.Proofs.YtkemoffagdilgaaDoor
open Go.RowKit

def refCE (b1 : Bool) (k sd : Int) (b2 : Bool) (n d : Int) : Int :=
  bif !b1 then 4 else bif !(inB k 0 2) then 15 else bif !(inB sd 1 2) then 2 else bif (k != 0 && sd == 2) || !b2 then 3 else bif !(inB n 1 10000) || decide (10000 < d) then 2 else 0

set_option maxRecDepth 100000 in
set_option maxHeartbeats 4000000 in
theorem carrierErr_any (nm : ByteArray) (k sd n d : Int) (w : World) (b1 b2 : Bool)
    (h1 : ∀ W, Calls Tryd.prog 25 #[.string nm] W fun e w' => e = .returned (.bool b1) ∧ W = w')
    (h2 : ∀ W, Calls Tryd.prog 26 #[.agg #[.int .i64 n, .int .i64 d]] W fun e w' => e = .returned (.bool b2) ∧ Below W.heap.size W w') :
    Calls Tryd.prog 9 #[.agg #[.string nm, .int .i64 k, .int .i64 sd, .int .i64 n, .int .i64 d]] w fun e w' => e = .returned (.int .i64 (refCE b1 k sd b2 n d)) ∧ Below w.heap.size w w' := by
  have C1 := Lib.hid h1
  have C2 := Lib.hid h2
  clear h1 h2
  obtain ⟨r, hr⟩ : ∃ r, refCE b1 k sd b2 n d = r := ⟨_, rfl⟩
  have HR : Hid (refCE b1 k sd b2 n d = r) := hr
  rw [hr]
  clear hr
  obtain ⟨g1, hg1⟩ : ∃ b, inB k 0 2 = b := ⟨_, rfl⟩
  obtain ⟨g2, hg2⟩ : ∃ b, inB sd 1 2 = b := ⟨_, rfl⟩
  obtain ⟨g3, hg3⟩ : ∃ b, (k != 0) = b := ⟨_, rfl⟩
  obtain ⟨g4, hg4⟩ : ∃ b, (sd == 2) = b := ⟨_, rfl⟩
  obtain ⟨g5, hg5⟩ : ∃ b, inB n 1 10000 = b := ⟨_, rfl⟩
  rw [refCE, hg1, hg2, hg3, hg4, hg5] at HR
  cases b1
  · go_enter Tryd.func9, Tryd.ntmps9
    go_wp2_with (go_at_call 25; refine (C1.out _).mono ?_; rintro e w' ⟨rfl, rfl⟩)
    go_ret
    exact ⟨by rw [← HR.out]; rfl, (Below.refl _ _).alloc (Nat.le_refl _) _⟩
  cases g1
  · go_enter Tryd.func9, Tryd.ntmps9
    go_wp2_with (first
      | (go_at_call 25; refine (C1.out _).mono ?_; rintro e w' ⟨rfl, rfl⟩)
      | (go_at_call 23; refine (within_any _ _ _ _).mono ?_; rintro e w' ⟨rfl, rfl⟩))
    go_ret
    exact ⟨by rw [← HR.out]; rfl, (Below.refl _ _).alloc (Nat.le_refl _) _⟩
  cases g2
  · go_enter Tryd.func9, Tryd.ntmps9
    go_wp2_with (first
      | (go_at_call 25; refine (C1.out _).mono ?_; rintro e w' ⟨rfl, rfl⟩)
      | (go_at_call 23; refine (within_any _ _ _ _).mono ?_; rintro e w' ⟨rfl, rfl⟩))
    go_ret
    exact ⟨by rw [← HR.out]; rfl, (Below.refl _ _).alloc (Nat.le_refl _) _⟩
  by_cases hg : (g3 && g4) = true
  · obtain ⟨rfl, rfl⟩ : g3 = true ∧ g4 = true := by simpa using hg
    clear hg
    go_enter Tryd.func9, Tryd.ntmps9
    go_wp2_with (first
      | (go_at_call 25; refine (C1.out _).mono ?_; rintro e w' ⟨rfl, rfl⟩)
      | (go_at_call 23; refine (within_any _ _ _ _).mono ?_; rintro e w' ⟨rfl, rfl⟩))
    go_ret
    exact ⟨by rw [← HR.out]; rfl, (Below.refl _ _).alloc (Nat.le_refl _) _⟩
  have HG : Hid ((g3 && g4) = false) := by show (g3 && g4) = false; exact Bool.eq_false_iff.2 hg
  clear hg
  rw [HG.out] at HR
  have hb : g3 = false ∨ (g3 = true ∧ g4 = false) := by have := HG.out; cases g3 <;> simp_all
  clear HG
  rcases hb with rfl | ⟨rfl, rfl⟩
  all_goals
    go_enter Tryd.func9, Tryd.ntmps9
    go_wp2_with (first
      | (go_at_call 25; refine (C1.out _).mono ?_; rintro e w' ⟨rfl, rfl⟩)
      | (go_at_call 23; refine (within_any _ _ _ _).mono ?_; rintro e w' ⟨rfl, rfl⟩))
    refine (C2.out _).mono ?_
    rintro e w' ⟨rfl, hb⟩
    have c3 : w'.cell? ⟨w.heap.size, 3, none⟩ = some (.int .i64 n) := by rw [hb.cell (by simp)]; simp [go_sem]
    have c4 : w'.cell? ⟨w.heap.size, 4, none⟩ = some (.int .i64 d) := by rw [hb.cell (by simp)]; simp [go_sem]
    have l1 : Hid (Below w.heap.size w w') := ((Below.refl _ _).alloc (Nat.le_refl _) _).trans (hb.mono (by simp))
    have z := hb.size
    simp at z
    clear hb
    cases b2
    · go_wp2
      go_ret
      exact ⟨by rw [← HR.out]; rfl, l1.out⟩
    cases g5
    · go_wp2_with (go_at_call 23; refine (within_any _ _ _ _).mono ?_; rintro e w' ⟨rfl, rfl⟩)
      go_ret
      exact ⟨by rw [← HR.out]; rfl, l1.out⟩
    by_cases hd : 10000 < d
    · have HD : Hid (decide (10000 < d) = true) := decide_eq_true hd
      rw [HD.out] at HR
      go_wp2_with (go_at_call 23; refine (within_any _ _ _ _).mono ?_; rintro e w' ⟨rfl, rfl⟩)
      go_ret
      exact ⟨by rw [← HR.out]; rfl, l1.out⟩
    · have HD : Hid (decide (10000 < d) = false) := decide_eq_false hd
      rw [HD.out] at HR
      go_wp2_with (go_at_call 23; refine (within_any _ _ _ _).mono ?_; rintro e w' ⟨rfl, rfl⟩)
      go_ret
      exact ⟨by rw [← HR.out]; rfl, l1.out⟩

end Go.Proofs.YtkemoffagdilgaaDoor
