import Derived.Test.YtepcciodhppbnaaE1

namespace Go.Proofs.Ytepcciodhppbnaa
open Go.RowKit

theorem firstNZ2 (a b : Int) : firstNZ [a, b] = if a = 0 then b else a := by
  simp only [firstNZ]
  by_cases h : b = 0 <;> simp [h]
theorem firstNZ3 (a b c : Int) : firstNZ [a, b, c] = if a = 0 then (if b = 0 then c else b) else a := by
  simp only [firstNZ]
  by_cases h : c = 0 <;> simp [h]

def ampE (a : Int) : Int := rngE 0 32767 [a]
def frcE (a : Int) : Int := rngE 0 63 [a]
theorem below2 (w : World) (o p : Obj) : Below w.heap.size w ((w.alloc o).alloc p) := ((Below.refl _ _).alloc (Nat.le_refl _) _).alloc (by simp) _
theorem below3 (w : World) (o p q : Obj) : Below w.heap.size w (((w.alloc o).alloc p).alloc q) := (below2 w o p).alloc (by simp; omega) _

theorem checkAmplitude_any (n : Int) (w : World) :
    Calls Try.prog 80 #[.int .i64 n] w fun e w' => e = .returned (.int .i64 (ampE n)) ∧ Below w.heap.size w w' := by
  go_enter Try.func80, Try.ntmps80
  go_wp2_with (first | (go_at_call 63; refine (from_any _ _ _).mono ?_; rintro e w' ⟨rfl, rfl⟩) | (go_at_call 117; refine (from1_any n 0 32767 _ _ _ ?_ ?_).mono ?_; (focus (simp [go_sem])); (focus (simp [go_sem])); rintro e w' ⟨rfl, rfl⟩))
  go_ret
  exact ⟨rfl, below2 _ _ _⟩
/-- The error of as many numbers as a signal may have. -/
def numE (m : Int) (xs : List Int) : Int := if 400 < xs.length then 8 else rngE (-m) m xs
def sigE (xs : List Int) : Int := numE 32767 xs
def outE (xs : List Int) : Int := numE 1000000000000000 xs
theorem checkNumbers_any (A : Option Addr) (n c : Nat) (xs : List Int) (m : Int) (w : World) (hr : RdI w A n xs) (hn : n ≤ 9223372036854775806) (hm : 0 ≤ m ∧ m ≤ 4611686018427387904) :
    Calls Try.prog 78 #[.slice A n c, .int .i64 m] w fun e w' => e = .returned (.int .i64 (numE m xs)) ∧ Below w.heap.size w w' := by
  have HR := Lib.hid hr
  have HE : Hid (numE m xs = if 400 < n then 8 else rngE (-m) m xs) := by show _ = _; unfold numE; rw [hr.1]
  clear hr
  have C2 : Hid (∀ o p, Calls Try.prog 124 #[.slice A n c, .func (.func 117) #[] #[.pointer (some ⟨w.heap.size, 0, none⟩), .pointer (some ⟨w.heap.size + 1, 0, none⟩)]] ((w.alloc (.cells #[.int .i64 (-m)] o)).alloc (.cells #[.int .i64 m] p)) fun e w' => e = .returned (.int .i64 (rngE (-m) m xs)) ∧ ((w.alloc (.cells #[.int .i64 (-m)] o)).alloc (.cells #[.int .i64 m] p)) = w') := by
    intro o p
    exact checkEach_any A n c xs (-m) m _ _ _ (HR.out.below (below2 _ _ _)) hn (by simp [go_sem]) (by simp [go_sem])
  obtain ⟨E, hE⟩ : ∃ E, rngE (-m) m xs = E := ⟨_, rfl⟩
  rw [hE] at C2 HE
  clear hE HR
  by_cases h1 : 400 < n
  · have h1I : (400 : Int) < (n : Int) := by omega
    go_enter Try.func78, Try.ntmps78
    go_wp2_with (first | (go_at_call 68; refine (when_any true 8 _).mono ?_; rintro e w' ⟨rfl, rfl⟩) | (go_at_call 127; refine (atMost_any m (by omega) _).mono ?_; rintro e w' ⟨rfl, rfl⟩) | (go_at_call 124; refine (C2.out _ _).mono ?_; rintro e w' ⟨rfl, rfl⟩) | (go_at_call 62; refine (firstError_any _ 2 2 [8, E] _ (lit2 _ _ _ _ ?_ ?_) (by omega)).mono ?_; (focus (simp [go_sem])); (focus (simp [go_sem])); rintro e w' ⟨rfl, rfl⟩))
    go_ret
    exact ⟨by rw [HE.out, if_pos h1]; rfl, below3 _ _ _ _⟩
  · have h1I : ¬ (400 : Int) < (n : Int) := by omega
    go_enter Try.func78, Try.ntmps78
    go_wp2_with (first | (go_at_call 68; refine (when_any false 8 _).mono ?_; rintro e w' ⟨rfl, rfl⟩) | (go_at_call 127; refine (atMost_any m (by omega) _).mono ?_; rintro e w' ⟨rfl, rfl⟩) | (go_at_call 124; refine (C2.out _ _).mono ?_; rintro e w' ⟨rfl, rfl⟩) | (go_at_call 62; refine (firstError_any _ 2 2 [0, E] _ (lit2 _ _ _ _ ?_ ?_) (by omega)).mono ?_; (focus (simp [go_sem])); (focus (simp [go_sem])); rintro e w' ⟨rfl, rfl⟩))
    go_ret
    exact ⟨by rw [HE.out, if_neg h1, firstNZ2, if_pos rfl]; rfl, below3 _ _ _ _⟩
theorem checkSignal_any (A : Option Addr) (n c : Nat) (xs : List Int) (w : World) (hr : RdI w A n xs) (hn : n ≤ 9223372036854775806) :
    Calls Try.prog 71 #[.slice A n c] w fun e w' => e = .returned (.int .i64 (sigE xs)) ∧ Below w.heap.size w w' := by
  have C := Lib.hid (checkNumbers_any A n c xs 32767 w hr hn (by omega))
  clear hr
  go_enter Try.func71, Try.ntmps71
  go_wp2_with (go_at_call 78; refine C.out.mono ?_; rintro e w' ⟨rfl, hb⟩)
  go_ret
  exact ⟨rfl, hb⟩

def eqzE (f s d : Int) : Int := if rngE (-1000) 1000 [f, s] = 0 then rngE 1 1000 [d] else rngE (-1000) 1000 [f, s]
set_option maxHeartbeats 4000000 in
theorem CheckEqualizer_any (f s d : Int) (w : World) :
    Calls Try.prog 74 #[.agg #[.int .i64 f, .int .i64 s, .int .i64 d]] w fun e w' => e = .returned (.int .i64 (eqzE f s d)) ∧ Below w.heap.size w w' := by
  have HE : Hid (eqzE f s d = firstNZ [rngE (-1000) 1000 [f, s], rngE 1 1000 [d]]) := by show _ = _; rw [firstNZ2]; rfl
  go_enter Try.func74, Try.ntmps74
  go_wp2
  go_region_held3 (fun w' : World => w'.cell? ⟨w.heap.size, 0, none⟩ = some (.int .i64 f) ∧ w'.cell? ⟨w.heap.size, 1, none⟩ = some (.int .i64 s) ∧ w'.cell? ⟨w.heap.size, 2, none⟩ = some (.int .i64 d)) ((go_split_ands; simp [go_sem, *])) (first
    | (go_at_call 63; refine (from_any _ _ _).mono ?_; rintro e w' ⟨rfl, rfl⟩)
    | (go_at_call 127; refine (atMost_any 1000 (by omega) _).mono ?_; rintro e w' ⟨rfl, rfl⟩)
    | (go_at_call 117; refine (from1_any d 1 1000 _ _ _ ?_ ?_).mono ?_; (focus (simp [go_sem])); (focus (simp [go_sem])); rintro e w' ⟨rfl, rfl⟩)
    | (go_at_call 124; refine (checkEach_any _ 2 2 [f, s] (-1000) 1000 _ _ _ (lit2 _ _ _ _ ?_ ?_) (by omega) ?_ ?_).mono ?_; (focus (simp [go_sem])); (focus (simp [go_sem])); (focus (simp [go_sem])); (focus (simp [go_sem])); rintro e w' ⟨rfl, rfl⟩)
    | (go_at_call 62; refine (firstError_any _ 2 2 [rngE (-1000) 1000 [f, s], rngE 1 1000 [d]] _ (lit2 _ _ _ _ ?_ ?_) (by omega)).mono ?_; (focus (simp [go_sem])); (focus (simp [go_sem])); rintro e w' ⟨rfl, rfl⟩))
  all_goals
    go_wp2
    go_ret
    exact ⟨by rw [HE.out]; rfl, by (repeat (first | exact Below.refl _ _ | refine Below.drew ?_ | refine belowDrewN ?_ _ | refine Below.alloc ?_ (by first | (simp; done) | (simp; omega)) _))⟩

/-! ### the bounds of equalizers -/
def strF (f s : Int) : Int := absF f + absF s
theorem absF_bd (n m : Int) (h : -m ≤ n ∧ n ≤ m) : 0 ≤ absF n ∧ absF n ≤ m := by unfold absF; split <;> omega
set_option maxRecDepth 100000 in
theorem strength_any (f s d : Int) (w : World) (hf : -1000 ≤ f ∧ f ≤ 1000) (hs : -1000 ≤ s ∧ s ≤ 1000) :
    Calls Try.prog 115 #[.agg #[.int .i64 f, .int .i64 s, .int .i64 d]] w fun e w' => e = .returned (.int .i64 (strF f s)) ∧ Below w.heap.size w w' := by
  have h1 := absF_bd f 1000 (by omega)
  have h2 := absF_bd s 1000 (by omega)
  have hz : IntKind.i64.wrap (absF f + absF s) = absF f + absF s := IntWalk.i64_in _ (by omega)
  go_enter Try.func115, Try.ntmps115
  go_wp2
  go_quiet ((go_at_call 76; exact quietP (rsize_any _ _ (by omega))))
  go_wp2
  go_ret
  exact ⟨rfl, by (repeat (first | exact Below.refl _ _ | refine Below.drew ?_ | refine belowDrewN ?_ _ | refine Below.alloc ?_ (by first | (simp; done) | (simp; omega)) _))⟩

theorem rngE_01 (lo hi : Int) (xs : List Int) : rngE lo hi xs = 0 ∨ rngE lo hi xs = 2 := by unfold rngE; split <;> simp
theorem rngE_zero {lo hi n : Int} (h : rngE lo hi [n] = 0) : lo ≤ n ∧ n ≤ hi := by
  rw [rngE_one] at h
  by_cases h1 : lo ≤ n ∧ n ≤ hi
  · exact h1
  · rw [if_neg h1] at h; cases h
theorem rngE_of {lo hi n : Int} (h : lo ≤ n ∧ n ≤ hi) : rngE lo hi [n] = 0 := by rw [rngE_one, if_pos h]
theorem rngE_two (lo hi a b : Int) : rngE lo hi [a, b] = if lo ≤ a ∧ a ≤ hi ∧ lo ≤ b ∧ b ≤ hi then 0 else 2 := by
  unfold rngE fromB
  by_cases h : lo ≤ a ∧ a ≤ hi ∧ lo ≤ b ∧ b ≤ hi
  · rw [if_pos h, if_pos (by simp [h.1, h.2.1, h.2.2.1, h.2.2.2])]
  · rw [if_neg h, if_neg (by simp; omega)]
theorem eqzE_zero {f s d : Int} (h : eqzE f s d = 0) : (-1000 ≤ f ∧ f ≤ 1000) ∧ (-1000 ≤ s ∧ s ≤ 1000) ∧ 1 ≤ d ∧ d ≤ 1000 := by
  unfold eqzE at h
  rw [rngE_two, rngE_one] at h
  by_cases h1 : -1000 ≤ f ∧ f ≤ 1000 ∧ -1000 ≤ s ∧ s ≤ 1000
  · rw [if_pos h1, if_pos rfl] at h
    by_cases h2 : 1 ≤ d ∧ d ≤ 1000
    · omega
    · rw [if_neg h2] at h; cases h
  · rw [if_neg h1] at h; simp at h
theorem eqzE_of {f s d : Int} (h : (-1000 ≤ f ∧ f ≤ 1000) ∧ (-1000 ≤ s ∧ s ≤ 1000) ∧ 1 ≤ d ∧ d ≤ 1000) : eqzE f s d = 0 := by
  unfold eqzE
  rw [rngE_two, rngE_one, if_pos (by omega)]
  simp; omega

theorem ampE_zero {a : Int} (h : ampE a = 0) : 0 ≤ a ∧ a ≤ 32767 := rngE_zero h
theorem mul_bd {a b A B : Int} (ha : -A ≤ a ∧ a ≤ A) (hb : -B ≤ b ∧ b ≤ B) (hA : 0 ≤ A) (hB : 0 ≤ B) : -(A * B) ≤ a * b ∧ a * b ≤ A * B := by
  have h : (a.natAbs : Int) * b.natAbs ≤ A * B := Int.mul_le_mul (by omega) (by omega) (by omega) hA
  have e : ((a * b).natAbs : Int) = (a.natAbs : Int) * b.natAbs := by rw [Int.natAbs_mul]; rfl
  rw [← e] at h
  obtain ⟨x, hx⟩ : ∃ x, a * b = x := ⟨_, rfl⟩
  obtain ⟨y, hy⟩ : ∃ y, A * B = y := ⟨_, rfl⟩
  rw [hx, hy] at h ⊢
  omega


theorem firstError2 {E1 E2 F : Int} (hF : firstNZ [E1, E2] = F) (W : World) (g : Nat) (h0 : W.cell? ⟨g, 0, none⟩ = some (.int .i64 E1)) (h1 : W.cell? ⟨g, 1, none⟩ = some (.int .i64 E2)) :
    Calls Try.prog 62 #[.slice (some ⟨g, 0, none⟩) 2 2] W fun e w' => e = .returned (.int .i64 F) ∧ W = w' := by
  subst hF
  exact firstError_any _ 2 2 [E1, E2] W (lit2 _ _ _ _ h0 h1) (by omega)
theorem firstError3 {E1 E2 E3 F : Int} (hF : firstNZ [E1, E2, E3] = F) (W : World) (g : Nat) (h0 : W.cell? ⟨g, 0, none⟩ = some (.int .i64 E1)) (h1 : W.cell? ⟨g, 1, none⟩ = some (.int .i64 E2)) (h2 : W.cell? ⟨g, 2, none⟩ = some (.int .i64 E3)) :
    Calls Try.prog 62 #[.slice (some ⟨g, 0, none⟩) 3 3] W fun e w' => e = .returned (.int .i64 F) ∧ W = w' := by
  subst hF
  exact firstError_any _ 3 3 [E1, E2, E3] W (lit3 _ _ _ _ _ h0 h1 h2) (by omega)
theorem firstError4 {E1 E2 E3 E4 F : Int} (hF : firstNZ [E1, E2, E3, E4] = F) (W : World) (g : Nat) (h0 : W.cell? ⟨g, 0, none⟩ = some (.int .i64 E1)) (h1 : W.cell? ⟨g, 1, none⟩ = some (.int .i64 E2)) (h2 : W.cell? ⟨g, 2, none⟩ = some (.int .i64 E3)) (h3 : W.cell? ⟨g, 3, none⟩ = some (.int .i64 E4)) :
    Calls Try.prog 62 #[.slice (some ⟨g, 0, none⟩) 4 4] W fun e w' => e = .returned (.int .i64 F) ∧ W = w' := by
  subst hF
  exact firstError_any _ 4 4 [E1, E2, E3, E4] W (lit4 _ _ _ _ _ _ h0 h1 h2 h3) (by omega)
theorem firstNZ_zero {xs : List Int} (h : firstNZ xs = 0) : ∀ x ∈ xs, x = 0 := by
  induction xs with
  | nil => simp
  | cons a l ih =>
    rw [firstNZ] at h
    by_cases h0 : a = 0
    · rw [if_pos h0] at h
      intro x hx
      rcases List.mem_cons.1 hx with rfl | hx
      · exact h0
      · exact ih h x hx
    · rw [if_neg h0] at h; exact absurd h h0

/-- What Below says of the cells. -/
theorem bcell {B : Nat} {W w1 : World} (hb : Below B W w1) : (∀ b o, b < B → w1.cell? ⟨b, o, none⟩ = W.cell? ⟨b, o, none⟩) ∧ (∀ b o, b < B → w1.frozen? ⟨b, o, none⟩ = W.frozen? ⟨b, o, none⟩) :=
  ⟨fun b o h => hb.cell (p := ⟨b, o, none⟩) h, fun b o h => hb.frozen (p := ⟨b, o, none⟩) h⟩

/-- The least bound: its error, and it. -/
def eqaE (f s d a : Int) : Int := firstNZ [eqzE f s d, ampE a]
def stbE (f s d a : Int) : Int := if eqaE f s d a = 0 then (if d - strF f s ≤ 0 then 22 else 0) else eqaE f s d a
def stbN (f s d a : Int) : Int := if stbE f s d a = 0 then upF (a * d) (d - strF f s) else 0
theorem eqaE_zero {f s d a : Int} (h : eqaE f s d a = 0) : (-1000 ≤ f ∧ f ≤ 1000) ∧ (-1000 ≤ s ∧ s ≤ 1000) ∧ (1 ≤ d ∧ d ≤ 1000) ∧ 0 ≤ a ∧ a ≤ 32767 := by
  have h1 := eqzE_zero (firstNZ_zero h (eqzE f s d) (by simp))
  have h2 := ampE_zero (firstNZ_zero h (ampE a) (by simp))
  exact ⟨h1.1, h1.2.1, h1.2.2, h2⟩
theorem strF_bd {f s : Int} (hf : -1000 ≤ f ∧ f ≤ 1000) (hs : -1000 ≤ s ∧ s ≤ 1000) : 0 ≤ strF f s ∧ strF f s ≤ 2000 := by
  have h1 := absF_bd f 1000 hf
  have h2 := absF_bd s 1000 hs
  unfold strF; omega


/-- A block of three integers known whole. -/
theorem bk3 {W : World} {g : Nat} {t : TypeId} {x y z : Int} (h : Bk W g t #[.int .i64 x, .int .i64 y, .int .i64 z]) : W.cell? ⟨g, 0, none⟩ = some (.int .i64 x) ∧ W.cell? ⟨g, 1, none⟩ = some (.int .i64 y) ∧ W.cell? ⟨g, 2, none⟩ = some (.int .i64 z) :=
  ⟨by rw [h.cell]; rfl, by rw [h.cell]; rfl, by rw [h.cell]; rfl⟩

theorem bk6 {W : World} {g : Nat} {t : TypeId} {a b c d e f : Value} (h : Bk W g t #[a, b, c, d, e, f]) : W.cell? ⟨g, 0, none⟩ = some a ∧ W.cell? ⟨g, 1, none⟩ = some b ∧ W.cell? ⟨g, 2, none⟩ = some c ∧ W.cell? ⟨g, 3, none⟩ = some d ∧ W.cell? ⟨g, 4, none⟩ = some e ∧ W.cell? ⟨g, 5, none⟩ = some f :=
  ⟨by rw [h.cell]; rfl, by rw [h.cell]; rfl, by rw [h.cell]; rfl, by rw [h.cell]; rfl, by rw [h.cell]; rfl, by rw [h.cell]; rfl⟩

end Go.Proofs.Ytepcciodhppbnaa
