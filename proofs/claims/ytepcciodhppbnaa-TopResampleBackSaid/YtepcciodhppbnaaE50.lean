import Derived.Test.YtepcciodhppbnaaE49

namespace Go.Proofs.Ytepcciodhppbnaa
open Go.RowKit

theorem add_add' (a : Addr) (m n : Nat) : (a.add m).add n = a.add (m + n) := by
  unfold Addr.add
  by_cases hm : m = 0
  · subst hm; simp
  · by_cases hn : n = 0
    · subst hn; simp
    · rw [if_neg hm, if_neg hn, if_neg (by omega)]
      simp [Nat.add_assoc]

/-- The address of a part of a slice. -/
def cutA (a : Option Addr) (lo c : Nat) : Option Addr := if c = lo then a else a.map (·.add (lo * 1))
theorem intElem : Try.prog.elem 29 = 3 := by kernel_rfl
theorem intsUnder' : Try.prog.underlying 29 = some (.slice (Try.prog.elem 29)) := by kernel_rfl
theorem sizeOfInt (W : World) : (sizeOf 3).run Try.prog W = .ok 1 W := by kernel_rfl
theorem cut_run (a : Option Addr) (n c lo hi m d : Nat) (l h : Int) (hl : l = lo) (hh : h = hi) (h1 : lo ≤ hi) (h2 : hi ≤ c) (hm : hi - lo = m) (hd : c - lo = d) (W : World) :
    (Instr.slice 29 (.slice a n c) (some (.int .i64 l)) (some (.int .i64 h)) none).run Try.prog W = .ok (.slice (cutA a lo c) m d) W := by
  have := run_slice_lh (P := Try.prog) (w := W) 29 a n c intsUnder' .i64 .i64 l h (by omega) (by omega) (by omega)
  rw [this, intElem, sizeOfInt, ← hm, ← hd, hl, hh]
  rfl
theorem cutTo_run (a : Option Addr) (n c hi : Nat) (h : Int) (hh : h = hi) (h2 : hi ≤ c) (W : World) :
    (Instr.slice 29 (.slice a n c) none (some (.int .i64 h)) none).run Try.prog W = .ok (.slice (cutA a 0 c) hi c) W := by
  have := run_slice_h (P := Try.prog) (w := W) 29 a n c intsUnder' .i64 h (by omega) (by omega)
  rw [this, intElem, sizeOfInt, hh]
  rfl
theorem cutFrom_run (a : Option Addr) (n c lo m d : Nat) (l : Int) (hl : l = lo) (h1 : lo ≤ n) (hm : n - lo = m) (hd : c - lo = d) (W : World) :
    (Instr.slice 29 (.slice a n c) (some (.int .i64 l)) none none).run Try.prog W = .ok (.slice (cutA a lo c) m d) W := by
  have := run_slice_l (P := Try.prog) (w := W) 29 a n c intsUnder' .i64 l (by omega) (by omega)
  rw [this, intElem, sizeOfInt, ← hm, ← hd, hl]
  rfl
theorem RdI.cut {w : World} {a : Option Addr} {n : Nat} {xs : List Int} (h : RdI w a n xs) (lo c m : Nat) (h1 : lo + m ≤ n) (h2 : n ≤ c) : RdI w (cutA a lo c) m ((xs.drop lo).take m) := by
  have hl := h.1
  refine ⟨by rw [List.length_take, List.length_drop]; omega, fun hm => ?_⟩
  obtain ⟨ad, rfl, hb, hc⟩ := h.2 (by omega)
  refine ⟨ad.add (lo * 1), ?_, by rw [addBlock]; exact hb, fun j hj => ?_⟩
  · unfold cutA; rw [if_neg (by omega)]; rfl
  · rw [add_add', hc (lo * 1 + j) (by omega)]
    congr 2
    simp only [List.getD_eq_getElem?_getD, List.getElem?_take, List.getElem?_drop]
    rw [if_pos hj, Nat.mul_one]

theorem mod_all (n d : Int) (hd : 0 < d ∧ d ≤ 4611686018427387904) (w : World) :
    Calls Try.prog 56 #[.int .i64 n, .int .i64 d] w fun e w' => e = .returned (.int .i64 (n % d)) ∧ w = w' := by
  have hd0 : d ≠ 0 := by omega
  have hd1 : (d == 0) = false := by simpa using hd0
  have HM : Hid (n % d = if n.tmod d < 0 then n.tmod d + d else n.tmod d) := by
    show _ = _
    have e1 : 0 ≤ n % d := Int.emod_nonneg n (by omega)
    have e2 : n % d < d := Int.emod_lt_of_pos n (by omega)
    have e3 := Int.mul_ediv_add_emod n d
    have h1 := Int.mul_tdiv_add_tmod n d
    have h2 := Int.tmod_lt_of_pos n (b := d) (by omega)
    have h3 : -d < n.tmod d := by have h3 := Int.tmod_lt_of_pos (-n) (b := d) (by omega); rw [Int.neg_tmod] at h3; omega
    have hf := tdiv_floor n d hd.1
    split at hf
    · rw [if_pos (by assumption)]
      rw [← hf, Int.mul_sub, Int.mul_one] at e3; omega
    · rw [if_neg (by assumption)]
      rw [← hf] at e3; omega
  have hb : -d < n.tmod d ∧ n.tmod d < d := by
    have h2 := Int.tmod_lt_of_pos n (b := d) (by omega)
    have h3 : -d < n.tmod d := by have h3 := Int.tmod_lt_of_pos (-n) (b := d) (by omega); rw [Int.neg_tmod] at h3; omega
    exact ⟨h3, h2⟩
  have HB := Lib.hid hb
  clear hb
  go_enter Try.func56, Try.ntmps56
  go_wp2
  all_goals go_ret
  · have h : n.tmod d < 0 := by assumption
    have h2 := HM.out
    have h3 := HB.out
    rw [if_pos h] at h2
    refine ⟨?_, rfl⟩
    show Ending.returned (Value.int .i64 (wrap64 (n.tmod d + d))) = _
    rw [IntWalk.wrap64_in _ ⟨by omega, by omega⟩, h2]
  · have h : 0 ≤ n.tmod d := by assumption
    have h2 := HM.out
    rw [if_neg (by omega)] at h2
    refine ⟨?_, rfl⟩
    show Ending.returned (Value.int .i64 (n.tmod d)) = _
    rw [h2]
/-- A list of the call's own that reads as xs, and an error; what its address is. -/
def RdResN (w : World) (E : Int) (n : Nat) (xs : List Int) (e : Ending) (w' : World) : Prop :=
  (∃ A' c', e = .returned (.tuple #[.slice A' n c', .int .i64 E]) ∧ RdI w' A' n xs ∧ n ≤ c' ∧ (A' = none → n = 0 ∧ c' = 0)) ∧ Below w.heap.size w w'
theorem OwnRes.rdN {w w' : World} {E : Int} {n : Nat} {xs : List Int} {e : Ending} (h : OwnRes w E xs e w') (hn : xs.length = n) : RdResN w E n xs e w' := by
  obtain ⟨⟨v, rfl, ho⟩, hb⟩ := h
  obtain ⟨A, c, rfl, hnc, hr, hN⟩ := rd_ownN ho
  rw [hn] at hr hnc hN ⊢
  exact ⟨⟨A, c, rfl, hr, hnc, hN⟩, hb⟩
theorem eq_toN {f s d : Int} {xs L : List Int} {E : Int} {n k : Nat} (h : eqlE f s d xs = E ∧ eqlL f s d xs = L) (hk : L.length = k) (hn : n ≤ 1000000) (B : Option Addr) (cb : Nat) (W : World) (hr : RdI W B n xs) :
    Calls Try.prog 30 #[.agg #[.int .i64 f, .int .i64 s, .int .i64 d], .slice B n cb] W (RdResN W E k L) := by
  refine (Equalized_any f s d B n cb xs W hr hn).mono ?_
  intro e w' ho
  rw [h.1, h.2] at ho
  exact ho.rdN hk
theorem rs_toN {f s d : Int} {xs L : List Int} {E : Int} {n k : Nat} (h : rssE f s d xs = E ∧ rslL f s d xs = L) (hk : L.length = k) (hn : n ≤ 1000000) (B : Option Addr) (cb : Nat) (W : World) (hr : RdI W B n xs) :
    Calls Try.prog 31 #[.agg #[.int .i64 f, .int .i64 s, .int .i64 d], .slice B n cb] W (RdResN W E k L) := by
  refine (Restored_any f s d B n cb xs W hr hn).mono ?_
  intro e w' ho
  rw [h.1, h.2] at ho
  exact ho.rdN hk
theorem cutA_none {A : Option Addr} {n c k : Nat} (hA : A = none → n = 0 ∧ c = 0) (hk : k ≤ n) : cutA A 0 c = none → k = 0 ∧ c = 0 := by
  intro h
  unfold cutA at h
  cases A with
  | none => have := hA rfl; omega
  | some a => split at h <;> simp at h
theorem rd_take {w : World} {a : Option Addr} {n : Nat} {xs : List Int} (h : RdI w a n xs) (c k : Nat) (h1 : k ≤ n) (h2 : n ≤ c) : RdI w (cutA a 0 c) k (xs.take k) := by
  have := h.cut 0 c k (by omega) h2
  rwa [List.drop_zero] at this

end Go.Proofs.Ytepcciodhppbnaa
