import Derived.Test.YtkemoffagdilgaaDoorTG
namespace Go.Proofs.YtkemoffagdilgaaDoor
open Go.RowKit

theorem grow_below (w : World) (k : Nat) (os : Array Obj) : Below w.heap.size w (Go.Sort.grow (w.drewN k) os) :=
  ⟨rfl, rfl, rfl, by simp [Go.Sort.grow], fun i hi => by
    show (w.heap ++ os)[i]? = _
    rw [Array.getElem?_append_left hi]⟩
theorem LaidS.drew {w : World} (h : LaidS w) : LaidS w.drew := h.later (Below.refl _ _).drew
theorem LaidS.alloc {w : World} (h : LaidS w) (o : Obj) : LaidS (w.alloc o) := h.later ((Below.refl _ _).alloc (Nat.le_refl _) _)
theorem itoa_form (n : Int) (h0 : -9223372036854775808 ≤ n) (h1 : n ≤ 9223372036854775807) (X : ByteArray) (hX : (⟨(Lib.itoa n).toArray⟩ : ByteArray) = X) (w : World) (hl : LaidS w) :
    Calls Tryd.prog 16 #[.int .i64 n] w fun e w' => e = .returned (.string X) ∧ Below w.heap.size w w' := by
  refine Calls.mono (Tryd.strconv_Itoa n h0 h1 w hl.tab) ?_
  rintro e w' ⟨rfl, k, os, rfl⟩
  rw [hX]
  exact ⟨rfl, grow_below _ _ _⟩

theorem digits_len (u d : Nat) (h : u < 10 ^ d) (hd : 1 ≤ d) : (Lib.decDigits u).length ≤ d := by
  have := nDigits_le_of u d h hd
  first | exact this | (rw [Lib.decDigits_length]; exact this) | (simpa [Lib.nDigits] using this)
theorem itoa_size (n : Int) (h0 : -9223372036854775808 ≤ n) (h1 : n ≤ 9223372036854775807) : (Lib.itoa n).length ≤ 20 := by
  unfold Lib.itoa
  split
  · rename_i h
    have := digits_len n.natAbs 19 (by omega) (by omega)
    simp only [List.length_cons]
    omega
  · have := digits_len n.natAbs 19 (by omega) (by omega)
    first | omega | (have e : n.toNat = n.natAbs := by omega
                     rw [e]; omega)

theorem join4 (a b c d : List UInt8) : Lib.join [a, b, c, d] [32] = a ++ 32 :: (b ++ 32 :: (c ++ 32 :: d)) := by
  simp [Lib.join_cons, Lib.joinTail]
theorem join_form (x0 x1 x2 x3 r : ByteArray) (hr : (⟨(x0.data.toList ++ 32 :: (x1.data.toList ++ 32 :: (x2.data.toList ++ 32 :: x3.data.toList))).toArray⟩ : ByteArray) = r) (hz : x0.size ≤ 1000000 ∧ x1.size ≤ 1000000 ∧ x2.size ≤ 1000000 ∧ x3.size ≤ 1000000) (W : World) :
    Calls Tryd.prog 17 #[.slice (some ⟨W.heap.size, 0, none⟩) 4 4, .string ⟨#[32]⟩] (W.alloc (.cells #[.string x0, .string x1, .string x2, .string x3] 9)) fun e w' => e = .returned (.string r) ∧ Below (W.alloc (.cells #[.string x0, .string x1, .string x2, .string x3] 9)).heap.size (W.alloc (.cells #[.string x0, .string x1, .string x2, .string x3] 9)) w' := by
  have e : ∀ z : ByteArray, z.data.toList.length = z.size := fun z => by simp
  refine Calls.mono (Tryd.strings_Join W.heap.size 0 4 [x0, x1, x2, x3] ⟨#[32]⟩ (W.alloc (.cells #[.string x0, .string x1, .string x2, .string x3] 9)) ?_ (by simp) (by simp) (by simp) ?_) ?_
  · intro j x hj
    rw [(Bk.new W 9 _).cell]
    match j, hj with
    | 0, hj => cases hj; rfl
    | 1, hj => cases hj; rfl
    | 2, hj => cases hj; rfl
    | 3, hj => cases hj; rfl
  · show (Lib.join [x0.data.toList, x1.data.toList, x2.data.toList, x3.data.toList] [32]).length ≤ _
    rw [join4]
    simp only [List.length_append, List.length_cons, e]
    omega
  · rintro e w' ⟨rfl, hb⟩
    refine ⟨?_, hb⟩
    rw [← hr]
    show Ending.returned (.string ⟨(Lib.join [x0.data.toList, x1.data.toList, x2.data.toList, x3.data.toList] [32]).toArray⟩) = _
    rw [join4]

/-- The string of a carrier with a kind. -/
def fmtC (nm : ByteArray) (k : Nat) (sd n d : Int) : ByteArray :=
  ⟨(nm.data.toList ++ 32 :: ((kws k).data.toList ++ 32 :: (Lib.itoa sd ++ 32 :: (Lib.itoa n ++ 47 :: Lib.itoa d)))).toArray⟩

set_option maxRecDepth 100000 in
set_option maxHeartbeats 8000000 in
theorem formatC_none (nm : ByteArray) (k sd n d : Int) (w : World) (hk : k < 0 ∨ 3 ≤ k) :
    Calls Tryd.prog 5 #[.agg #[.string nm, .int .i64 k, .int .i64 sd, .int .i64 n, .int .i64 d]] w fun e w' => e = .returned (.string ⟨#[]⟩) ∧ Below w.heap.size w w' := by
  rcases (show k < 0 ∨ (¬ k < 0 ∧ 3 ≤ k) by omega) with h | ⟨h, h3⟩
  all_goals
    go_enter Tryd.func5, Tryd.ntmps5
    go_wp2
    go_ret
    exact ⟨rfl, (Below.refl _ _).alloc (Nat.le_refl _) _⟩

set_option maxRecDepth 100000 in
set_option maxHeartbeats 8000000 in
theorem formatC_any (nm : ByteArray) (k : Nat) (sd n d : Int) (w : World) (hl : LaidS w) (hk : k < 3) (hnm : nm.size ≤ 1000)
    (hs : -9223372036854775808 ≤ sd ∧ sd ≤ 9223372036854775807) (hn : -9223372036854775808 ≤ n ∧ n ≤ 9223372036854775807) (hd : -9223372036854775808 ≤ d ∧ d ≤ 9223372036854775807) :
    Calls Tryd.prog 5 #[.agg #[.string nm, .int .i64 (k : Int), .int .i64 sd, .int .i64 n, .int .i64 d]] w fun e w' => e = .returned (.string (fmtC nm k sd n d)) ∧ Below w.heap.size w w' := by
  obtain ⟨S, hS⟩ : ∃ X, (⟨(Lib.itoa sd).toArray⟩ : ByteArray) = X := ⟨_, rfl⟩
  obtain ⟨N, hN⟩ : ∃ X, (⟨(Lib.itoa n).toArray⟩ : ByteArray) = X := ⟨_, rfl⟩
  obtain ⟨D, hD⟩ : ∃ X, (⟨(Lib.itoa d).toArray⟩ : ByteArray) = X := ⟨_, rfl⟩
  have hSz : S.size ≤ 20 := by rw [← hS, bytes_size]; exact itoa_size sd hs.1 hs.2
  have hNz : N.size ≤ 20 := by rw [← hN, bytes_size]; exact itoa_size n hn.1 hn.2
  have hDz : D.size ≤ 20 := by rw [← hD, bytes_size]; exact itoa_size d hd.1 hd.2
  have CS : Hid (∀ W, LaidS W → _) := Lib.hid fun W h => itoa_form sd hs.1 hs.2 S hS W h
  have CN : Hid (∀ W, LaidS W → _) := Lib.hid fun W h => itoa_form n hn.1 hn.2 N hN W h
  have CD : Hid (∀ W, LaidS W → _) := Lib.hid fun W h => itoa_form d hd.1 hd.2 D hD W h
  have HL1 : Hid (LaidS (w.alloc (.cells (cRow nm k sd n d) 25))) := hl.later ((Below.refl _ _).alloc (Nat.le_refl _) _)
  have hkI : (k : Int) < 3 := by omega
  have z1 : ¬ 9223372036854775807 < N.size + 1 := by omega
  have z2 : ¬ 9223372036854775807 < N.size + 1 + D.size := by omega
  obtain ⟨T, hT⟩ : ∃ T, N ++ (⟨#[47]⟩ : ByteArray) ++ D = T := ⟨_, rfl⟩
  have HT := Lib.hid hT
  have HRES : Hid ((⟨(nm.data.toList ++ 32 :: ((kws k).data.toList ++ 32 :: (S.data.toList ++ 32 :: T.data.toList))).toArray⟩ : ByteArray) = fmtC nm k sd n d) := by
    show _ = _
    rw [← hT, ← hS, ← hN, ← hD]
    unfold fmtC
    congr 1
    simp
  have hTz : T.size ≤ 41 := by rw [← hT, ByteArray.size_append, ByteArray.size_append]; show N.size + 1 + D.size ≤ 41; omega
  have hKz : (kws k).size ≤ 10 := by
    rcases (show k = 0 ∨ k = 1 ∨ k = 2 by omega) with rfl | rfl | rfl <;> decide
  have CJ : Hid (∀ W : World, _) := Lib.hid fun W => join_form nm (kws k) S T (fmtC nm k sd n d) HRES.out (by omega) W
  obtain ⟨R, hR⟩ : ∃ R, fmtC nm k sd n d = R := ⟨_, rfl⟩
  rw [hR] at CJ ⊢
  clear hl hs hn hd hS hN hD hT hTz hKz hR HRES
  go_enter Tryd.func5, Tryd.ntmps5
  go_wp2_with fail
  go_region_held3 (fun w' => LaidS w' ∧ w'.cell? ⟨w.heap.size, 3, none⟩ = some (.int .i64 n) ∧ w'.cell? ⟨w.heap.size, 4, none⟩ = some (.int .i64 d) ∧ w.heap.size < w'.heap.size)
    ((go_split_ands; refine ⟨?_, ?_, ?_, ?_⟩ <;> first | assumption | exact HL1.out.drew | exact HL1.out | (exact LaidS.later (by assumption) hb) | (rw [hb.cell (by first | assumption | simp)]; first | assumption | (simp [go_sem]; done)) | exact Nat.lt_of_lt_of_le (by first | assumption | simp) hb.size | (go_keep; done) | (simp; omega)))
    (first
      | (go_at_call 16; refine Calls.mono (CN.out _ ?_) ?_; (first | assumption | (go_split_ands; assumption)); rintro e w' ⟨rfl, hb⟩)
      | (go_at_call 16; refine Calls.mono (CD.out _ ?_) ?_; (first | assumption | (go_split_ands; assumption)); rintro e w' ⟨rfl, hb⟩))
  have HB1 : Hid (Below w.heap.size w w') := (((Below.refl _ _).alloc (Nat.le_refl _) _).drew).trans (((‹Below (w.alloc _).drew.heap.size (w.alloc _).drew _› : Below _ _ _).mono (by simp)).trans (hb.mono (by have := (‹Below (w.alloc _).drew.heap.size (w.alloc _).drew _› : Below _ _ _).size; simp at this; omega)))
  obtain ⟨LA, _, _, hlt1⟩ := ‹LaidS w' ∧ _›
  have B0 : Hid (Bk (w.alloc (.cells (cRow nm k sd n d) 25)) w.heap.size 25 (cRow nm k sd n d)) := Bk.new _ _ _
  have HBx : Hid (Below (w.heap.size + 1) (w.alloc (.cells (cRow nm k sd n d) 25)) w') := ((Below.refl _ _).drew).trans (((‹Below (w.alloc _).drew.heap.size (w.alloc _).drew _› : Below _ _ _).mono (by simp)).trans (hb.mono (by have := (‹Below (w.alloc _).drew.heap.size (w.alloc _).drew _› : Below _ _ _).size; simp at this; omega)))
  have B1 : Hid (Bk w' w.heap.size 25 (cRow nm k sd n d)) := B0.out.below HBx.out (by omega)
  have HLA := Lib.hid LA
  rw [HT.out]
  clear B0 HBx hb LA HL1 CN CD HT
  have r0 : w'.cell? ⟨w.heap.size, 0, none⟩ = some (.string nm) := by rw [B1.out.cell]; rfl
  have r1 : w'.cell? ⟨w.heap.size, 1, none⟩ = some (.int .i64 (k : Int)) := by rw [B1.out.cell]; rfl
  have r2 : w'.cell? ⟨w.heap.size, 2, none⟩ = some (.int .i64 sd) := by rw [B1.out.cell]; rfl
  have rk : w'.cell? ⟨0, k, none⟩ = some (.string (kws k)) := HLA.out.kw k hk
  have rl : 0 < w'.heap.size := HLA.out.kl
  clear B1
  go_wp2_with fail
  go_region_held3 (fun W => LaidS W ∧ Below w.heap.size w W ∧ W.cell? ⟨w.heap.size, 0, none⟩ = some (.string nm) ∧ W.cell? ⟨w.heap.size, 1, none⟩ = some (.int .i64 (k : Int)) ∧ W.cell? ⟨w.heap.size, 2, none⟩ = some (.int .i64 sd) ∧ W.cell? ⟨0, k, none⟩ = some (.string (kws k)) ∧ 0 < W.heap.size ∧ w.heap.size < W.heap.size)
    ((go_split_ands; refine ⟨?_, ?_, ?_, ?_, ?_, ?_, ?_, ?_⟩ <;> first
      | assumption | exact HLA.out.drew | exact HB1.out.drew
      | (exact LaidS.later (by assumption) hb)
      | (refine LaidS.alloc ?_ _; assumption)
      | (exact Below.trans (by assumption) (hb.mono (Nat.le_of_lt (by assumption))))
      | (refine Below.alloc ?_ (Nat.le_of_lt ?_) _ <;> assumption)
      | (rw [hb.cell (by assumption)]; assumption)
      | (rw [World.cell?_alloc_lt _ _ _ (by assumption)]; assumption)
      | (exact Nat.lt_of_lt_of_le (by assumption) hb.size)
      | (simp; done)
      | (simp; omega)))
    (first
      | (go_at_call 16; refine Calls.mono (CS.out _ ?_) ?_; (first | assumption | (go_split_ands; assumption)); rintro e w' ⟨rfl, hb⟩)
      | (go_at_call 17; refine Calls.mono (CJ.out _) ?_; rintro e w' ⟨rfl, hb⟩))
  go_wp2
  go_ret
  refine ⟨rfl, ?_⟩
  have := ‹LaidS _ ∧ Below w.heap.size w w' ∧ _›
  first | exact this.2.1 | exact this.2.1.drew

end Go.Proofs.YtkemoffagdilgaaDoor
