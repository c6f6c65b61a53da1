import Derived.Test.YtepcciodhppbnaaE15

namespace Go.Proofs.Ytepcciodhppbnaa
open Go.RowKit

theorem holdsT_iff {t : Int} {ns : List (Int × Int)} {i : Nat} (h : holdsT t ns i = true) : (ns.getD i (0, 0)).2 ≤ t ∧ t ≤ (ns.getD (i + 1) (0, 0)).2 := by
  unfold holdsT at h
  simpa using h
theorem findP_spec {t : Int} {ns : List (Int × Int)} : ∀ {k i j : Nat}, findP t ns i k = some j → i ≤ j ∧ j < i + k ∧ holdsT t ns j = true
  | 0, _, _, h => by cases h
  | k + 1, i, j, h => by
    unfold findP at h
    by_cases h0 : holdsT t ns i = true
    · rw [if_pos h0] at h
      cases h
      exact ⟨Nat.le_refl _, by omega, h0⟩
    · rw [if_neg h0] at h
      obtain ⟨a, b, c⟩ := findP_spec h
      exact ⟨by omega, by omega, c⟩
/-- The position at a time, as the function gives it: its ends, and the error. -/
def posR (t : Int) (ns : List (Int × Int)) : Int × Int × Int :=
  if (mapR ns).2 = 0 then (match findP t ns 0 (ns.length - 1) with
    | some i => (posLo (ns.getD i (0, 0)).1 (ns.getD i (0, 0)).2 (ns.getD (i + 1) (0, 0)).1 (ns.getD (i + 1) (0, 0)).2 t, posHi (ns.getD i (0, 0)).1 (ns.getD i (0, 0)).2 (ns.getD (i + 1) (0, 0)).1 (ns.getD (i + 1) (0, 0)).2 t, 0)
    | none => (0, 0, 2)) else (0, 0, (mapR ns).2)

/-- What a call of PositionAt gives. -/
def PosRes (t : Int) (ns : List (Int × Int)) (w : World) (e : Ending) (w' : World) : Prop :=
  e = .returned (.tuple #[.agg #[.int .i64 (posR t ns).1, .int .i64 (posR t ns).2.1], .int .i64 (posR t ns).2.2]) ∧ Below w.heap.size w w'
set_option maxRecDepth 100000 in
set_option maxHeartbeats 2000000 in
theorem PositionAt_any (A : Option Addr) (m c : Nat) (ns : List (Int × Int)) (t : Int) (w : World) (hr : RdN w A m ns) (hm : m ≤ 1000000) :
    Calls Try.prog 46 #[.agg #[.slice A m c], .int .i64 t] w (PosRes t ns w) := by
  have CP : Hid (∀ w', Below w.heap.size w w' → ∀ B, w'.cell? ⟨B, 0, none⟩ = some (.int .i64 t) → B < w'.heap.size → Calls Try.prog 85 #[.agg #[.slice A m c], .func (.func 99) #[] #[.pointer (some ⟨B, 0, none⟩)]] w' fun e w'' => e = .returned (.tuple #[(pieceRes t ns).1, .int .i64 (pieceRes t ns).2]) ∧ Below w'.heap.size w' w'') := fun w' hb B h1 h2 => pieceWith_any A m c ns t B w' (hr.below hb) hm h1 h2
  have key : (∃ ev, ¬ ev = 0 ∧ pieceRes t ns = (.agg #[.int .i64 0, .int .i64 0, .int .i64 0, .int .i64 0], ev) ∧ posR t ns = (0, 0, ev)) ∨
      (∃ x1 x2 y1 y2 : Int, pieceRes t ns = (.agg #[.int .i64 x1, .int .i64 x2, .int .i64 y1, .int .i64 y2], 0) ∧ posR t ns = (posLo x1 x2 y1 y2 t, posHi x1 x2 y1 y2 t, 0) ∧ (0 ≤ x1 ∧ x1 < y1 ∧ y1 ≤ 1000000) ∧ (0 ≤ x2 ∧ x2 < y2 ∧ y2 ≤ 1000000000000) ∧ (x2 ≤ t ∧ t ≤ y2)) := by
    unfold pieceRes posR
    by_cases hE : (mapR ns).2 = 0
    · rw [if_pos hE, if_pos hE]
      cases hf : findP t ns 0 (ns.length - 1) with
      | none => exact .inl ⟨2, by omega, rfl, rfl⟩
      | some i =>
        obtain ⟨_, h2, h3⟩ := findP_spec hf
        have h4 := holdsT_iff h3
        obtain ⟨hok, _, _⟩ := mapR_ok hE
        have h5 := hok i (by omega)
        exact .inr ⟨_, _, _, _, rfl, rfl, h5.1, h5.2, h4⟩
    · rw [if_neg hE, if_neg hE]
      exact .inl ⟨_, hE, rfl, rfl⟩
  clear hr
  rcases key with ⟨ev, h0, hp, hq⟩ | ⟨x1, x2, y1, y2, hp, hq, hx, hy, ht⟩
  · have HQ : Hid (∀ w', Below w.heap.size w w' → PosRes t ns w (.returned (.tuple #[.agg #[.int .i64 0, .int .i64 0], .int .i64 ev])) w') := fun w' hb => ⟨by rw [hq], hb⟩
    rw [hp] at CP
    have hne : (ev != 0) = true := by rw [bne_iff_ne]; exact h0
    clear hp hq h0
    go_enter Try.func46, Try.ntmps46
    go_wp2_with fail
    refine (CP.out _ (by go_grown) _ ?_ ?_).mono ?_
    · simp [go_sem]
    · simp
    rintro e w1 ⟨rfl, hb1⟩
    have KR := Lib.hid ((show Bk (((w.alloc (.cells #[.slice A m c] 24)).alloc (.cells #[.int .i64 t] 3)).alloc (.cells #[.int .i64 0, .int .i64 0] 72)) (w.heap.size + 2) 72 #[.int .i64 0, .int .i64 0] by have h := Bk.new ((w.alloc (.cells #[.slice A m c] 24)).alloc (.cells #[.int .i64 t] 3)) 72 #[.int .i64 0, .int .i64 0]; simpa using h).later hb1)
    have BW := Lib.hid ((show Below w.heap.size w (((w.alloc (.cells #[.slice A m c] 24)).alloc (.cells #[.int .i64 t] 3)).alloc (.cells #[.int .i64 0, .int .i64 0] 72)) by go_grown).trans (hb1.mono (by simp; omega)))
    clear hb1
    obtain ⟨e0, e1, k0, k1⟩ := bk2 KR.out
    have hlt := KR.out.lt
    have hn2 : ¬ w.heap.size + 2 = w1.heap.size := by omega
    go_wp2
    refine bodyPost_ret (v := .tuple #[.agg #[.int .i64 0, .int .i64 0], .int .i64 ev]) (by simp [results, Try.results46, go_sem, e0, e1, k0, k1, hlt, hn2]) rfl (HQ.out _ ?_)
    have := BW.out
    have := this.size
    go_grown
  · have HQ : Hid (∀ w', Below w.heap.size w w' → PosRes t ns w (.returned (.tuple #[.agg #[.int .i64 (posLo x1 x2 y1 y2 t), .int .i64 (posHi x1 x2 y1 y2 t)], .int .i64 0])) w') := fun w' hb => ⟨by rw [hq], hb⟩
    have CA := Lib.hid (fun w => positionAt_any x1 x2 y1 y2 t w hx hy ht)
    rw [hp] at CP
    clear hp hq hx hy ht
    obtain ⟨lo, hlo⟩ : ∃ lo, posLo x1 x2 y1 y2 t = lo := ⟨_, rfl⟩
    obtain ⟨hi, hhi⟩ : ∃ hi, posHi x1 x2 y1 y2 t = hi := ⟨_, rfl⟩
    rw [hlo, hhi] at CA HQ
    clear hlo hhi
    go_enter Try.func46, Try.ntmps46
    go_wp2_with fail
    refine (CP.out _ (by go_grown) _ ?_ ?_).mono ?_
    · simp [go_sem]
    · simp
    rintro e w1 ⟨rfl, hb1⟩
    have KR := Lib.hid ((show Bk (((w.alloc (.cells #[.slice A m c] 24)).alloc (.cells #[.int .i64 t] 3)).alloc (.cells #[.int .i64 0, .int .i64 0] 72)) (w.heap.size + 2) 72 #[.int .i64 0, .int .i64 0] by have h := Bk.new ((w.alloc (.cells #[.slice A m c] 24)).alloc (.cells #[.int .i64 t] 3)) 72 #[.int .i64 0, .int .i64 0]; simpa using h).later hb1)
    have KT := Lib.hid ((show Bk (((w.alloc (.cells #[.slice A m c] 24)).alloc (.cells #[.int .i64 t] 3)).alloc (.cells #[.int .i64 0, .int .i64 0] 72)) (w.heap.size + 1) 3 #[.int .i64 t] by have h := (Bk.new (w.alloc (.cells #[.slice A m c] 24)) 3 #[.int .i64 t]).alloc (.cells #[.int .i64 0, .int .i64 0] 72); simpa using h).later hb1)
    have BW := Lib.hid ((show Below w.heap.size w (((w.alloc (.cells #[.slice A m c] 24)).alloc (.cells #[.int .i64 t] 3)).alloc (.cells #[.int .i64 0, .int .i64 0] 72)) by go_grown).trans (hb1.mono (by simp; omega)))
    clear hb1
    have hlt := KR.out.lt
    obtain ⟨t0, _⟩ := bk1 KT.out
    have hn1 : ¬ w.heap.size + 1 = w1.heap.size := by omega
    have hl1 : w.heap.size + 1 < w1.heap.size := by omega
    have t1 : (w1.alloc (.cells #[.int .i64 x1, .int .i64 x2, .int .i64 y1, .int .i64 y2] 129)).cell? ⟨w.heap.size + 1, 0, none⟩ = some (.int .i64 t) := (World.cell?_alloc_lt w1 _ _ hl1).trans t0
    have hn2 : ¬ w.heap.size + 2 = w1.heap.size := by omega
    go_wp2_with fail
    refine (CA.out _).mono ?_
    rintro e w2 ⟨rfl, hb2⟩
    have KR2 := Lib.hid ((KR.out.alloc (.cells #[.int .i64 x1, .int .i64 x2, .int .i64 y1, .int .i64 y2] 129)).later hb2)
    have BW2 := Lib.hid (((BW.out.alloc (by have := BW.out.size; omega) (.cells #[.int .i64 x1, .int .i64 x2, .int .i64 y1, .int .i64 y2] 129))).trans (hb2.mono (by have := BW.out.size; simp; omega)))
    clear hb2
    obtain ⟨e0, e1, k0, k1⟩ := bk2 KR2.out
    go_wp2
    refine bodyPost_ret (v := .tuple #[.agg #[.int .i64 lo, .int .i64 hi], .int .i64 0]) (by simp [results, Try.results46, go_sem, e0, e1, k0, k1]) rfl (HQ.out _ ?_)
    have := BW2.out
    go_grown

end Go.Proofs.Ytepcciodhppbnaa
