import Derived.Test.YtkemoffagdilgaaDoorST13
namespace Go.Proofs.YtkemoffagdilgaaDoor
open Go.RowKit

def bv (l : List UInt8) : ByteArray := ⟨l.toArray⟩
theorem bv_list (l : List UInt8) : (bv l).data.toList = l := by simp [bv]
theorem bv_size (l : List UInt8) : (bv l).size = l.length := bytes_size l
theorem bv_of (s : ByteArray) : bv s.data.toList = s := by apply ByteArray.ext; simp [bv]

/-- What a string is parsed as. -/
def parC (s : ByteArray) : Array Value × Int :=
  match pcs 32 s.data.toList with
  | [a, b, c, d] => if a = [] then (noC, 7) else parV (bv a) (kindP (bv b)) (pcs 47 d) (bv c)
  | _ => (noC, 7)
theorem parC_4 {s : ByteArray} {a b c d : List UInt8} (h : pcs 32 s.data.toList = [a, b, c, d]) : parC s = if a = [] then (noC, 7) else parV (bv a) (kindP (bv b)) (pcs 47 d) (bv c) := by
  unfold parC; rw [h]
theorem parC_n {s : ByteArray} (h : (pcs 32 s.data.toList).length ≠ 4) : parC s = (noC, 7) := by
  unfold parC
  split
  · rename_i e; rw [e] at h; exact absurd rfl h
  · rfl
theorem four_of {ps : List (List UInt8)} (h : ps.length = 4) : ∃ a b c d, ps = [a, b, c, d] := by
  match ps, h with
  | [a, b, c, d], _ => exact ⟨a, b, c, d, rfl⟩
theorem bv_ne {a : List UInt8} (h : a ≠ []) : bv a ≠ ⟨#[]⟩ := by
  intro e
  apply h
  have := congrArg (fun z : ByteArray => z.data.toList) e
  rw [← bv_list a]
  simpa using this

theorem refPC_any (s : ByteArray) (w : World) (hs : s.size ≤ 1000) :
    Calls Tryd.prog 7 #[.string s] w fun e w' => e = .returned (.tuple #[.agg (parC s).1, .int .i64 (parC s).2]) ∧ Below w.heap.size w w' := by
  have hl : s.data.toList.length = s.size := by simp
  by_cases h4 : (pcs 32 s.data.toList).length = 4
  · obtain ⟨a, b, c, d, h⟩ := four_of h4
    have hz := pcs_sz 32 s.data.toList
    rw [h] at hz
    have za := hz a (by simp)
    have zc := hz c (by simp)
    have zd := hz d (by simp)
    by_cases ha : a = []
    · rw [parC_4 h, if_pos ha]
      exact refPC_2 s ⟨#[]⟩ [b, c, d] w (by omega) (by rw [h, ha]) rfl rfl
    · rw [parC_4 h, if_neg ha]
      exact refPC_3 s (bv a) (bv b) (bv c) (bv d) w (by omega) (by rw [bv_size]; omega) ⟨by rw [bv_size]; omega, by rw [bv_size]; omega⟩ (by simp only [bv_list]; exact h) (bv_ne ha) _ (by rw [bv_list]) _ _ rfl
  · rw [parC_n h4]
    exact refPC_1 s _ w (by omega) rfl h4

theorem numN_bd (l : List UInt8) : (0 : Int) ≤ (((numN l).getD 0 : Nat) : Int) ∧ (((numN l).getD 0 : Nat) : Int) < 1000000 := by
  refine ⟨by omega, ?_⟩
  cases h : numN l with
  | none => simp
  | some n =>
    have := digs_bd h
    simp at this ⊢
    omega

/-- The code's parts, whatever the string. -/
theorem code_parts (s : ByteArray) (hs : s.size ≤ 1000) : ∃ nm k sd n d ok, parC s = fromC nm k sd n d ok ∧ nm.size ≤ 1000 ∧ (0 ≤ n ∧ n < 1000000) ∧ (0 ≤ d ∧ d < 1000000) ∧ (∀ W, LaidS W → Calls Tryd.prog 18 #[.string s] W fun e w' => e = .returned (.tuple #[.agg (cRow nm k sd n d), .bool ok]) ∧ Below W.heap.size W w') := by
  have hl : s.data.toList.length = s.size := by simp
  by_cases h4 : (pcs 32 s.data.toList).length = 4
  · obtain ⟨a, b, c, d, h⟩ := four_of h4
    have hz := pcs_sz 32 s.data.toList
    rw [h] at hz
    have za := hz a (by simp)
    have zc := hz c (by simp)
    have zd := hz d (by simp)
    by_cases ha : a = []
    · refine ⟨⟨#[]⟩, 0, 0, 0, 0, false, ?_, by decide, by decide, by decide, fun W hW => carIn_2 s [b, c, d] W hW (by omega) (by rw [h, ha]) rfl⟩
      rw [parC_4 h, if_pos ha]; rfl
    · obtain ⟨num, den, f, hc⟩ : ∃ num den f, Lib.cut d [47] = (num, den, f) := ⟨_, _, _, rfl⟩
      refine ⟨bv a, (if 0 ≤ kindP (bv b) then kindP (bv b) else 0), (((numN c).getD 0 : Nat) : Int), (((numN num).getD 0 : Nat) : Int), (((numN den).getD 0 : Nat) : Int), codeOK (kindP (bv b)) c num den, ?_, by rw [bv_size]; omega, numN_bd num, numN_bd den, fun W hW => ?_⟩
      rotate_left
      · have := carIn_3 s (bv a) (bv b) (bv c) (bv d) (bv num) (bv den) f W hW (by omega) ⟨by rw [bv_size]; omega, by rw [bv_size]; omega, by rw [bv_size]; omega⟩ (by simp only [bv_list]; exact h) (bv_ne ha) (by simp only [bv_list]; exact hc)
        simp only [bv_list] at this
        exact this
      · rw [parC_4 h, if_neg ha, parV_code (bv a) (kindP (bv b)) (bv c) d num den f hc, bv_list]
        unfold codeV fromC
        by_cases ho : codeOK (kindP (bv b)) c num den = true
        · have h0 : 0 ≤ kindP (bv b) := by
            unfold codeOK at ho
            simp only [Bool.and_eq_true, decide_eq_true_eq] at ho
            exact ho.1.1.1
          rw [if_pos ho, if_pos ho, if_pos h0]
        · rw [if_neg ho, if_neg ho]
  · refine ⟨⟨#[]⟩, 0, 0, 0, 0, false, ?_, by decide, by decide, by decide, fun W hW => carIn_1 s W hW (by omega) h4⟩
    rw [parC_n h4]; rfl

theorem codePC_any (s : ByteArray) (w : World) (hl : LaidS w) (hs : s.size ≤ 1000) :
    Calls Tryd.prog 6 #[.string s] w fun e w' => e = .returned (.tuple #[.agg (parC s).1, .int .i64 (parC s).2]) ∧ Below w.heap.size w w' := by
  obtain ⟨nm, k, sd, n, d, ok, h1, h2, h3, h4, h5⟩ := code_parts s hs
  exact parseC_any s nm k sd n d ok w hl (by omega) h3 h4 h5 _ _ (by rw [← h1])

theorem parC_form (s : ByteArray) (hs : s.size ≤ 1000) : ∃ nm k sd n d r, parC s = (cRow nm k sd n d, r) := by
  obtain ⟨nm, k, sd, n, d, ok, h1, _⟩ := code_parts s hs
  rw [h1]
  unfold fromC
  split
  · split
    · exact ⟨_, _, _, _, _, _, rfl⟩
    · exact ⟨⟨#[]⟩, 0, 0, 0, 0, _, rfl⟩
  · exact ⟨⟨#[]⟩, 0, 0, 0, 0, _, rfl⟩

theorem firstE_all : ∀ (l : List Int), firstE l = 0 → ∀ x ∈ l, x = 0
  | [], _, x, hx => by cases hx
  | a :: r, h, x, hx => by
    by_cases ha : a = 0
    · rcases List.mem_cons.1 hx with rfl | hm
      · exact ha
      · exact firstE_all r (by simpa [firstE, ha] using h) x hm
    · simp [firstE, ha] at h
theorem whenE_zero {b : Bool} {e : Int} (he : e ≠ 0) (h : whenE b e = 0) : b = false := by
  cases b
  · rfl
  · exact absurd h he
theorem carrE_parts {l : List UInt8} {k sd n d : Int} (h : carrE l k sd n d = 0) : nameB l = true ∧ (0 ≤ k ∧ k < 3) ∧ (1 ≤ sd ∧ sd ≤ 2) ∧ (1 ≤ n ∧ n ≤ 10000) ∧ (1 ≤ d ∧ d ≤ 10000) := by
  have ha := firstE_all _ h
  have h1 := whenE_zero (by decide) (ha (whenE (!(nameB l)) 4) (by simp))
  have h2 := whenE_zero (by decide) (ha (whenE (decide (k < 0) || decide (3 ≤ k)) 15) (by simp))
  have h3 := (rangeE_zero _ _ _).1 (ha (rangeE sd 1 2) (by simp))
  refine ⟨by simpa using h1, ?_, h3, carrE_zero l k sd n d h⟩
  simp at h2
  omega

theorem okCh_space {b : UInt8} (h : okCh b = true) : b ≠ 32 := by
  rintro rfl
  revert h
  decide
theorem name_space {l : List UInt8} (h : nameB l = true) : (∀ b ∈ l, b ≠ 32) ∧ l ≠ [] := by
  unfold nameB at h
  simp only [Bool.and_eq_true, decide_eq_true_eq, List.all_eq_true] at h
  refine ⟨fun b hb => okCh_space (h.2.2.2 b hb), ?_⟩
  rintro rfl
  simp at h
theorem itoa_space (n : Int) : ∀ b ∈ Lib.itoa n, b ≠ 32 ∧ b ≠ 47 := by
  intro b hb
  have := itoa_all n b hb
  refine ⟨?_, ?_⟩ <;> (rintro rfl; revert this; decide)
theorem kws_space (k : Nat) (hk : k < 3) : ∀ b ∈ (kws k).data.toList, b ≠ 32 := by
  rcases (show k = 0 ∨ k = 1 ∨ k = 2 by omega) with rfl | rfl | rfl <;> decide

theorem itoa_nat (u : Nat) : Lib.itoa (u : Int) = Lib.decDigits u := Lib.itoa_nonneg u
theorem numS_itoa (u : Nat) (h : u < 1000000) : numS (Lib.itoa (u : Int)) 6 = some (u : Int) := by
  rw [itoa_nat]
  unfold numS
  have hh : (Lib.decDigits u).head? ≠ some 45 := by
    intro e
    have hm : (45 : UInt8) ∈ Lib.decDigits u := List.mem_of_mem_head? e
    have := decDigits_all u 45 hm
    revert this; decide
  rw [if_neg hh, digs_digits u 6 (by omega) (by omega)]
  rfl

theorem fmtC_back (nm : ByteArray) (k : Nat) (sd n d : Nat) (h : carrE nm.data.toList k sd n d = 0) : parC (fmtC nm k sd n d) = (cRow nm k sd n d, 0) := by
  obtain ⟨h1, h2, h3, h4, h5⟩ := carrE_parts h
  obtain ⟨hs1, hs2⟩ := name_space h1
  have hk : k < 3 := by omega
  have e : pcs 32 (fmtC nm k sd n d).data.toList = [nm.data.toList, (kws k).data.toList, Lib.itoa (sd : Int), Lib.itoa (n : Int) ++ 47 :: Lib.itoa (d : Int)] := by
    have : (fmtC nm k sd n d).data.toList = nm.data.toList ++ 32 :: ((kws k).data.toList ++ 32 :: (Lib.itoa (sd : Int) ++ 32 :: (Lib.itoa (n : Int) ++ 47 :: Lib.itoa (d : Int)))) := by simp [fmtC]
    rw [this, pcs_app 32 _ _ hs1, pcs_app 32 _ _ (kws_space k hk), pcs_app 32 _ _ (fun b hb => (itoa_space _ b hb).1)]
    rw [pcs_miss 32 (Lib.itoa (n : Int) ++ 47 :: Lib.itoa (d : Int))]
    intro q hq
    have hm := List.mem_of_getElem? hq
    rcases List.mem_append.1 hm with hm | hm
    · exact (itoa_space _ _ hm).1 rfl
    · rcases List.mem_cons.1 hm with hm | hm
      · revert hm; decide
      · exact (itoa_space _ _ hm).1 rfl
  have e2 : pcs 47 (Lib.itoa (n : Int) ++ 47 :: Lib.itoa (d : Int)) = [Lib.itoa (n : Int), Lib.itoa (d : Int)] := by
    rw [pcs_app 47 _ _ (fun b hb => (itoa_space _ b hb).2), pcs_miss 47 (Lib.itoa (d : Int))]
    intro q hq
    exact (itoa_space _ _ (List.mem_of_getElem? hq)).2 rfl
  rw [parC_4 e, if_neg hs2, e2, bv_of, bv_of, kindP_kws k hk]
  unfold parV
  rw [if_neg (by omega)]
  dsimp only
  rw [bv_list, numS_itoa sd (by omega), numS_itoa n (by omega), numS_itoa d (by omega)]
  dsimp only
  rw [if_neg (by omega), if_pos h]

end Go.Proofs.YtkemoffagdilgaaDoor
