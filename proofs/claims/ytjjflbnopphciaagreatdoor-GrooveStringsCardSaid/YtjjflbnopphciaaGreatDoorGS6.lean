import Derived.Test.YtjjflbnopphciaaGreatDoorGS5
namespace Go.Proofs.YtjjflbnopphciaaGreatDoor
open Go.RowKit

/-- Numbers as texts, a blank between. -/
def joinP (xs : List Int) : List UInt8 := Lib.join (xs.map Lib.itoa) [32]
theorem joinP_one (x : Int) : joinP [x] = Lib.itoa x := by simp [joinP, Lib.join_cons, Lib.joinTail]
theorem joinP_snoc (xs : List Int) (x : Int) (h : xs ≠ []) : joinP (xs ++ [x]) = joinP xs ++ 32 :: Lib.itoa x := by
  induction xs with
  | nil => exact absurd rfl h
  | cons a t ih =>
    cases t with
    | nil => simp [joinP, Lib.join_cons, Lib.joinTail]
    | cons b r =>
      have := ih (by simp)
      simp only [joinP, List.cons_append, List.map_cons, Lib.join_cons, Lib.joinTail] at this ⊢
      simp [this]
theorem digitsB_len (u d : Nat) (h : u < 10 ^ d) (hd : 1 ≤ d) : (Lib.decDigits u).length ≤ d := by
  have := nDigits_le_of u d h hd
  first | exact this | (rw [Lib.decDigits_length]; exact this) | (simpa [Lib.nDigits] using this)
theorem itoaB_size (n : Int) (h0 : -9223372036854775808 ≤ n) (h1 : n ≤ 9223372036854775807) : (Lib.itoa n).length ≤ 20 := by
  unfold Lib.itoa
  split
  · rename_i h
    have := digitsB_len n.natAbs 19 (by omega) (by omega)
    simp only [List.length_cons]
    omega
  · have := digitsB_len n.natAbs 19 (by omega) (by omega)
    first | omega | (have e : n.toNat = n.natAbs := by omega
                     rw [e]; omega)
def I64 (xs : List Int) : Prop := ∀ x ∈ xs, -9223372036854775808 ≤ x ∧ x ≤ 9223372036854775807

set_option maxRecDepth 100000 in
set_option maxHeartbeats 4000000 in
theorem join_any (A : Option Addr) (n cp : Nat) (xs : List Int) (w : World) (hr : RdI w A n xs) (hn : n ≤ 1000) (hx : I64 xs) (hl : xs.length = n) :
    Calls Tryz.prog 11 #[.slice A n cp] w fun e w' => e = .returned (.string (⟨(joinP xs).toArray⟩ : ByteArray)) ∧ Below w.heap.size w w' := by
  have HR := Lib.hid hr
  have HX := Lib.hid hx
  have HLN := Lib.hid hl
  obtain ⟨R, hR⟩ : ∃ R, (⟨(joinP xs).toArray⟩ : ByteArray) = R := ⟨_, rfl⟩
  have HRR := Lib.hid hR
  rw [hR]
  clear hr hx hl hR
  go_enter Tryz.func11, Tryz.ntmps11
  go_wp2
  go_loopw [3, 4] (fun s i wr => ∃ (j : Nat) (X : ByteArray), j ≤ n ∧ i = .int .i64 (j : Int) ∧ s = .string X ∧ X.size ≤ 21 * j ∧ Hid (X = ⟨(joinP (xs.take j)).toArray⟩ ∧ Below w.heap.size w wr)) (fun _ i _ => n - (intOf i).toNat)
  case atStart => exact ⟨0, ⟨#[]⟩, Nat.zero_le _, rfl, rfl, by decide, rfl, Below.refl _ _⟩
  case round =>
    obtain ⟨j, X, hj, rfl, rfl, hXz, HI⟩ := hrel
    by_cases hlt : j < n
    · obtain ⟨ad, rfl, hal, hcx⟩ := (HR.out.below HI.out.2).2 (by omega)
      have hcj := hcx j hlt
      have hxm : xs.getD j 0 ∈ xs := by
        rw [List.getD_eq_getElem?_getD, List.getElem?_eq_getElem (by rw [HLN.out]; exact hlt)]
        exact List.getElem_mem _
      have hxb := HX.out _ hxm
      have hsn : xs.take (j + 1) = xs.take j ++ [xs.getD j 0] := by
        rw [List.take_add_one, List.getD_eq_getElem?_getD, List.getElem?_eq_getElem (by rw [HLN.out]; exact hlt)]
        rfl
      obtain ⟨x, hx⟩ : ∃ x, xs.getD j 0 = x := ⟨_, rfl⟩
      rw [hx] at hcj hxb hsn
      obtain ⟨D, hD⟩ : ∃ D, (⟨(Lib.itoa x).toArray⟩ : ByteArray) = D := ⟨_, rfl⟩
      have hDz : D.size ≤ 20 := by rw [← hD, bytes_size]; exact itoaB_size x hxb.1 hxb.2
      have CD := Lib.hid (decimal_any x wr hxb.1 hxb.2)
      rw [hD] at CD
      have hltI : (j : Int) < (n : Int) := by omega
      have hadj : ad.add j = ad.add j := rfl
      have HSN := Lib.hid hsn
      have HD := Lib.hid hD
      clear hsn hx hxm hcx hD hxb
      by_cases h0 : j = 0
      · subst h0
        have hcj0 : wr.cell? ad = some (.int .i64 x) := by
          have e0 : ad.add 0 = ad := by unfold Addr.add; split <;> simp_all
          rwa [e0] at hcj
        clear hcj
        have hX0 : X = ⟨#[]⟩ := by
          have := HI.out.1
          rw [this, List.take_zero]; rfl
        subst hX0
        have HF : Hid ((⟨#[]⟩ : ByteArray) ++ D = ⟨(joinP (xs.take 1)).toArray⟩) := by
          show _ = _
          rw [HSN.out, List.take_zero, List.nil_append, joinP_one, ← HD.out]
          apply ByteArray.ext; simp
        have HF2 : Hid (D = ⟨(joinP (xs.take 1)).toArray⟩) := by
          show _ = _
          rw [HSN.out, List.take_zero, List.nil_append, joinP_one, ← HD.out]
        have z1 : ¬ 9223372036854775807 < 0 + D.size := by omega
        have z2 : ¬ 9223372036854775807 < D.size := by omega
        go_wp2_with (go_at_call 42; refine CD.out.mono ?_; rintro e w' ⟨rfl, hb⟩)
        go_roundw
        case rel =>
          first
            | exact ⟨1, D, by omega, by go_num, rfl, by omega, HF2.out, HI.out.2.trans (hb.mono HI.out.2.size)⟩
            | exact ⟨1, _, by omega, by go_num, rfl, by simp; omega, HF.out, HI.out.2.trans (hb.mono HI.out.2.size)⟩
        case measure => simp [intOf]; omega
      · have hpos : (0 : Int) < (j : Int) := by omega
        have hne : xs.take j ≠ [] := by
          intro e
          have := congrArg List.length e
          rw [List.length_take, HLN.out] at this
          simp at this; omega
        have HF : Hid (X ++ (⟨#[32]⟩ : ByteArray) ++ D = ⟨(joinP (xs.take (j + 1))).toArray⟩) := by
          show _ = _
          rw [HSN.out, joinP_snoc _ _ hne, HI.out.1, ← HD.out]
          apply ByteArray.ext; simp
        have z1 : ¬ 9223372036854775807 < X.size + 1 := by omega
        have z2 : ¬ 9223372036854775807 < X.size + 1 + D.size := by omega
        clear hne
        go_wp2_with (go_at_call 42; refine CD.out.mono ?_; rintro e w' ⟨rfl, hb⟩)
        go_roundw
        case rel => exact ⟨j + 1, _, by omega, by go_num, rfl, by rw [ByteArray.size_append, ByteArray.size_append]; show X.size + 1 + D.size ≤ _; omega, HF.out, HI.out.2.trans (hb.mono HI.out.2.size)⟩
        case measure => simp [intOf]; omega
    · obtain rfl : j = n := by omega
      have hXX : Hid (X = R) := by
        show _ = _
        rw [HI.out.1, ← HRR.out, List.take_of_length_le (by rw [HLN.out]; exact Nat.le_refl _)]
      go_wp2
      go_ret
      exact ⟨by rw [← hXX.out]; rfl, HI.out.2⟩

theorem joinP_len (xs : List Int) (h : I64 xs) : (joinP xs).length ≤ 21 * xs.length := by
  have key : ∀ ys zs : List Int, zs ++ ys = xs → zs ≠ [] → (joinP zs).length ≤ 21 * zs.length → (joinP (zs ++ ys)).length ≤ 21 * (zs ++ ys).length := by
    intro ys
    induction ys with
    | nil => intro zs _ _ hz; simpa using hz
    | cons y r ih =>
      intro zs he hne hz
      have hy := h y (by rw [← he]; simp)
      have hyl := itoaB_size y hy.1 hy.2
      have := ih (zs ++ [y]) (by rw [← he]; simp) (by simp) (by
        rw [joinP_snoc _ _ hne]
        simp only [List.length_append, List.length_cons, List.length_nil]
        omega)
      simpa using this
  cases xs with
  | nil => simp [joinP, Lib.join]
  | cons x r =>
    have hx := h x (by simp)
    have := key r [x] (by simp) (by simp) (by rw [joinP_one]; have := itoaB_size x hx.1 hx.2; simp; omega)
    simpa using this
end Go.Proofs.YtjjflbnopphciaaGreatDoor
