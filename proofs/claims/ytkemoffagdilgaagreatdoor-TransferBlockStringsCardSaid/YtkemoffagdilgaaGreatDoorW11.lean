import Derived.Test.YtkemoffagdilgaaGreatDoorW10
import Derived.Test.YtkemoffagdilgaaGreatDoorUA
namespace Go.Proofs.YtkemoffagdilgaaGreatDoor
open Go.RowKit

theorem rangeE_zero (x lo hi : Int) : rangeE x lo hi = 0 ↔ lo ≤ x ∧ x ≤ hi := by
  unfold rangeE inB
  by_cases h : lo ≤ x <;> by_cases h2 : x ≤ hi <;> simp [h, h2]
theorem rangesE_nil (lo hi : Int) : rangesE [] lo hi = 0 := rfl
theorem rangesE_cons (x : Int) (xs : List Int) (lo hi : Int) : rangesE (x :: xs) lo hi = if rangeE x lo hi = 0 then rangesE xs lo hi else rangeE x lo hi := rfl
theorem rangesE_zero (xs : List Int) (lo hi : Int) : rangesE xs lo hi = 0 ↔ ∀ x ∈ xs, lo ≤ x ∧ x ≤ hi := by
  induction xs with
  | nil => simp [rangesE_nil]
  | cons x xs ih =>
    rw [rangesE_cons]
    by_cases h : rangeE x lo hi = 0
    · rw [if_pos h, ih]
      have := (rangeE_zero x lo hi).1 h
      simp [this]
    · rw [if_neg h]
      have h2 : ¬ (lo ≤ x ∧ x ≤ hi) := fun e => h ((rangeE_zero x lo hi).2 e)
      constructor
      · intro e; exact absurd e h
      · intro e; exact absurd (e x (by simp)) h2
theorem rangesE_cases (xs : List Int) (lo hi : Int) : rangesE xs lo hi = 0 ∨ rangesE xs lo hi = 2 := by
  induction xs with
  | nil => exact .inl rfl
  | cons x xs ih =>
    rw [rangesE_cons]
    split
    · exact ih
    · right
      unfold rangeE at *
      split <;> simp_all
theorem bnd_of_rangesE (xs : List Int) (h : rangesE xs (-32767) 32767 = 0) : Bnd xs 32767 := by
  intro j
  have := (rangesE_zero xs _ _).1 h
  rcases Nat.lt_or_ge j xs.length with hj | hj
  · have e : xs.getD j 0 = xs[j] := by simp [List.getD_eq_getElem?_getD, hj]
    rw [e]
    exact this _ (List.getElem_mem hj)
  · have e : xs.getD j 0 = 0 := by rw [List.getD_eq_getElem?_getD, List.getElem?_eq_none hj]; rfl
    rw [e]; omega

theorem packed_err (arr : Array Value) (xs : List Int) (w : World) (h : Is8 arr xs) (he : rangesE xs (-32767) 32767 ≠ 0) :
    Calls Tryz.prog 11 #[.agg arr] w fun e w' => e = .returned (.tuple #[.slice none 0 0, .int .i64 2]) ∧ Below w.heap.size w w' := by
  have H := Lib.hid h; clear h
  have h2 : rangesE xs (-32767) 32767 = 2 := (rangesE_cases xs _ _).resolve_left he
  have C : Hid (∀ W, Calls Tryz.prog 31 #[.agg arr] W fun e w' => e = .returned (.int .i64 2) ∧ Below W.heap.size W w') := fun W => by rw [← h2]; exact checkSamples_any arr xs W H.out
  clear h2 he
  go_enter Tryz.func11, Tryz.ntmps11
  go_wp2_with (first
    | (with_reducible refine wpList_load_row rfl 22 (.tmp 1) rfl w.heap.size rfl 22 arr (0, 0) _ (heap_alloc_new w _) arrUnder rfl H.out.info ?_)
    | (go_at_call 31; refine (C.out _).mono ?_; rintro e w2 ⟨rfl, hb2⟩; have HB2 := Lib.hid hb2; clear hb2))
  go_ret2
  exact ⟨rfl, ((Below.refl _ _).alloc (Nat.le_refl _) _).trans (HB2.out.mono (by simp))⟩

theorem own_later {w w' : World} {base : Nat} {e : TypeId} {sz n : Nat} {v : Value} {xs : List Value} (h : w.ownsRow base e sz v n xs) (hb : Below w.heap.size w w') : w'.ownsRow base e sz v n xs :=
  h.kept (row := none) ⟨hb.os, hb.tape, hb.output, hb.size, fun i hi _ => hb.block i hi⟩ (by cases h2 : v.ownBlock with | none => exact .inl rfl | some g => exact .inr (by simp))

theorem own_base {w : World} {base base' : Nat} {e : TypeId} {sz n : Nat} {v : Value} {xs : List Value} (h : w.ownsRow base e sz v n xs) (hb : base' ≤ base) : w.ownsRow base' e sz v n xs := by
  unfold World.ownsRow at h ⊢
  refine ⟨h.1, ?_⟩
  rcases h.2 with h1 | ⟨g, cap, cur, h2, h3, h4⟩
  · exact .inl h1
  · exact .inr ⟨g, cap, cur, h2, by omega, h4⟩

theorem appendBits_two (base : Nat) (m : Nat) (w : World) (hb : base ≤ w.heap.size) (hm : m < 1000001) :
    Calls Tryz.prog 33 #[.slice none 0 0, .int .i64 m, .int .i64 2] w fun e w' => ∃ v', e = .returned v' ∧ w'.ownsRow base 3 1 v' 2 ((bitsOf m 2).map (Value.int .i64)) ∧ Below base w w' := by
  have h := appendBits_any base (.slice none 0 0) 0 [] m 2 w (World.ownsRow_nil _ _ _ _) hb hm (by omega) (by omega)
  simpa using h
theorem appendBits_five (base : Nat) (v : Value) (n : Nat) (xs : List Int) (m : Nat) (w : World) (hown : w.ownsRow base 3 1 v n (xs.map (Value.int .i64))) (hb : base ≤ w.heap.size) (hm : m < 1000001) (hn : n ≤ 10000000) :
    Calls Tryz.prog 33 #[v, .int .i64 m, .int .i64 5] w fun e w' => ∃ v', e = .returned v' ∧ w'.ownsRow base 3 1 v' (n + 5) ((xs ++ bitsOf m 5).map (Value.int .i64)) ∧ Below base w w' :=
  appendBits_any base v n xs m 5 w hown hb hm (by omega) hn

set_option maxRecDepth 100000 in
set_option maxHeartbeats 2000000 in
theorem packed_ok (arr : Array Value) (xs : List Int) (w : World) (hw : Laid w) (h : Is8 arr xs) (he : rangesE xs (-32767) 32767 = 0) :
    Calls Tryz.prog 11 #[.agg arr] w fun e w' => ∃ v, e = .returned (.tuple #[v, .int .i64 0]) ∧ w'.ownsRow w.heap.size 3 1 v (packT xs).length ((packT xs).map (Value.int .i64)) ∧ Below w.heap.size w w' := by
  have H := Lib.hid h; clear h
  have HW := Lib.hid hw; clear hw
  have HB := Lib.hid (bnd_of_rangesE xs he)
  have C : Hid (∀ W, Calls Tryz.prog 31 #[.agg arr] W fun e w' => e = .returned (.int .i64 0) ∧ Below W.heap.size W w') := fun W => by rw [← he]; exact checkSamples_any arr xs W H.out
  clear he
  have hgood := shortS_good xs
  obtain ⟨p, hp⟩ : ∃ p, (shortS xs).1 = p := ⟨_, rfl⟩
  obtain ⟨k, hk⟩ : ∃ k, (shortS xs).2.1 = k := ⟨_, rfl⟩
  have hp3 : p < 3 := by rw [← hp]; exact hgood.1
  have hk18 : k < 18 := by rw [← hk]; exact hgood.2.1
  have CS : Hid (∀ W, Laid W → Calls Tryz.prog 32 #[.agg arr] W fun e w' => e = .returned (.tuple #[.int .i64 (p : Int), .int .i64 (k : Int)]) ∧ Below W.heap.size W w') := fun W hW => by rw [← hp, ← hk]; exact shortest_any arr xs W hW H.out HB.out
  have hP : Hid (packT xs = packW (foldeds xs p) p k 8) := by show packT xs = _; rw [packT, hp, hk]
  clear hgood hp hk
  have w1 : Hid (Below w.heap.size w (w.alloc (.cells arr 22))) := (Below.refl _ _).alloc (Nat.le_refl _) _
  have x1 : Hid (Bk (w.alloc (.cells arr 22)) w.heap.size 22 arr) := Bk.new _ _ _
  go_enter Tryz.func11, Tryz.ntmps11
  go_wp2_with (first
    | (with_reducible refine wpList_load_row rfl 22 (.tmp 1) rfl w.heap.size rfl 22 arr (0, 0) _ x1.out.heap arrUnder rfl H.out.info ?_)
    | (with_reducible refine wpList_load_row rfl 22 (.tmp 1) rfl w.heap.size rfl 22 arr (0, 0) _ x2.out.heap arrUnder rfl H.out.info ?_)
    | (go_at_call 31; refine (C.out _).mono ?_; rintro e w2 ⟨rfl, hb2⟩; have l2 : Hid (Below w.heap.size w w2) := w1.out.trans (hb2.mono (by simp)); have x2 : Hid (Bk w2 w.heap.size 22 arr) := x1.out.below hb2 (by simp); clear hb2)
    | (go_at_call 32; refine (CS.out _ (HW.out.later l2.out)).mono ?_; rintro e w3 ⟨rfl, hb3⟩; have l3 : Hid (Below w.heap.size w w3) := l2.out.trans (hb3.mono l2.out.size); have x3 : Hid (Bk w3 w.heap.size 22 arr) := x2.out.below hb3 x2.out.lt; clear hb3))
  refine (appendBits_two (w.heap.size + 1) p _ x3.out.lt (by omega)).mono ?_
  rintro e w4 ⟨v4, rfl, ho4, hb4⟩
  have o4 := Lib.hid ho4
  have l4 : Hid (Below w.heap.size w w4) := l3.out.trans (hb4.mono (by omega))
  have x4 : Hid (Bk w4 w.heap.size 22 arr) := x3.out.below hb4 (by omega)
  clear hb4 ho4
  go_wp2_with fail
  refine (appendBits_five (w.heap.size + 1) v4 2 _ k _ o4.out x4.out.lt (by omega) (by omega)).mono ?_
  rintro e w5 ⟨v5, rfl, ho5, hb5⟩
  have o5 := Lib.hid ho5
  have l5 : Hid (Below w.heap.size w w5) := l4.out.trans (hb5.mono (by omega))
  have x5 : Hid (Bk w5 w.heap.size 22 arr) := x4.out.below hb5 (by omega)
  clear hb5 ho5
  go_wp2_with (first
    | (with_reducible refine wpList_load_row rfl 22 (.tmp 1) rfl w.heap.size rfl 22 arr (0, 0) _ x5.out.heap arrUnder rfl H.out.info ?_)
    | (go_at_call 34; refine (foldedOf_any arr xs p _ (HW.out.later l5.out) H.out HB.out hp3).mono ?_; rintro e w6 ⟨us, rfl, hus, hb6⟩; have HUS := Lib.hid hus; have l6 : Hid (Below w.heap.size w w6) := l5.out.trans (hb6.mono l5.out.size); have b56 := Lib.hid hb6; clear hus hb6))
  have HL8 : Hid ((foldeds xs p).length = 8) := foldeds_length xs p
  obtain ⟨L, hL⟩ : ∃ L, foldeds xs p = L := ⟨_, rfl⟩
  have HSm : Hid (Small L) := by show Small L; rw [← hL]; exact foldeds_small xs p HB.out
  rw [hL] at HUS hP HL8
  clear hL
  have o6 : Hid (w6.ownsRow (w.heap.size + 1) 3 1 v5 (packW L p k 0).length ((packW L p k 0).map (Value.int .i64))) := by
    have := own_later o5.out b56.out
    show w6.ownsRow _ _ _ _ _ _
    have e : packW L p k 0 = bitsOf p 2 ++ bitsOf k 5 := by simp [packW, headB, codesTo]
    have e2 : (packW L p k 0).length = 2 + 5 := by rw [e]; simp [bitsOf_length]
    rw [e2, e]
    exact this
  have hs6 : w.heap.size < w6.heap.size := Nat.lt_of_lt_of_le x5.out.lt b56.out.size
  clear o5 b56 o4 l4 x4 l5 x5 l2 x2 l3 x3 w1 x1 C CS
  obtain ⟨i0, hi, hz0, hz1, hz2⟩ := info_parts intInfo
  go_loopw [7, 28] (fun v i wr => ∃ j : Nat, j ≤ 8 ∧ i = .int .i64 j ∧ Hid (wr.ownsRow (w.heap.size + 1) 3 1 v (packW L p k j).length ((packW L p k j).map (Value.int .i64))) ∧ Hid (Below w.heap.size w wr) ∧ w.heap.size < wr.heap.size) (fun _ i _ => 8 - (intOf i).toNat)
  case atStart => exact ⟨0, by omega, rfl, o6, l6, hs6⟩
  case round =>
    clear o6 l6 hs6
    obtain ⟨j, hj, rfl, ho, hl, hs⟩ := hrel
    by_cases hlt : j < 8
    · have hsm := HSm.out j
      obtain ⟨u, hu⟩ := Int.eq_ofNat_of_zero_le hsm.1
      have hix := HUS.out.ix j hlt
      rw [hu] at hsm hix
      have hu1 : u ≤ 1000000 := by omega
      have hlen := packW_length L p k j HSm.out (by rw [HL8.out]; exact hj)
      have hbd := bitsTo_bd L k j HSm.out (by omega) (by rw [HL8.out]; exact hj)
      have hn1 : (packW L p k j).length ≤ 8500000 := by omega
      have HU := Lib.hid hu
      clear hu hlen hbd hsm
      obtain ⟨n, hn⟩ : ∃ n, (packW L p k j).length = n := ⟨_, rfl⟩
      obtain ⟨ys, hys⟩ : ∃ ys, packW L p k j = ys := ⟨_, rfl⟩
      have hnext : Hid (packW L p k (j + 1) = ys ++ codeU u k) := by
        show packW L p k (j + 1) = _
        rw [← hys, packW, packW, codesTo, HU.out, List.append_assoc]
        rfl
      rw [hn] at hn1 ho
      rw [hys] at ho hn
      clear hys
      have HN := Lib.hid hn
      clear hn
      obtain ⟨q, hq⟩ : ∃ q : Nat, ((u : Int) / 2 ^ k) = q := ⟨u / 2 ^ k, by simp⟩
      have hq1 : q ≤ 1000000 := by have := quo_bd u k (by omega) (by omega); omega
      have HQ : Hid (u / 2 ^ k = q) := by
        show u / 2 ^ k = q
        have : ((u / 2 ^ k : Nat) : Int) = q := by rw [← hq]; simp
        omega
      go_wp2_with fail
      clear hq hix
      refine (repeat_any wr.heap.size q _ hq1 (by simp [go_sem])).mono ?_
      rintro e w7 ⟨rfl, hB7, hb7⟩
      have o7 : Hid (w7.ownsRow (w.heap.size + 1) 3 1 u7 n (ys.map (Value.int .i64))) := own_later (ho.out.alloc _) hb7
      have l7 : Hid (Below w.heap.size w w7) := (hl.out.alloc (by omega) _).trans (hb7.mono (by simp; omega))
      have hs7 : wr.heap.size + 1 < w7.heap.size := by have := hB7.lt; simpa using this
      have hB7' : Hid (Bk w7 (wr.heap.size + 1) 3 (List.replicate q (Value.int .i64 1)).toArray) := by
        have e := World.size_alloc wr (.cells #[.int .i64 1] 3)
        rw [e] at hB7
        exact hB7
      have src7 : Hid (∀ jj v, (List.replicate q (Value.int .i64 1))[jj]? = some v → w7.cell? ((⟨wr.heap.size + 1, 0, none⟩ : Addr).add jj) = some v) := by
        intro jj v hv
        have hadd : (⟨wr.heap.size + 1, 0, none⟩ : Addr).add jj = ⟨wr.heap.size + 1, jj, none⟩ := by unfold Addr.add; split <;> simp_all
        rw [hadd, hB7'.out.cell, List.getElem?_toArray]
        exact hv
      have one7 : Hid (∀ v ∈ List.replicate q (Value.int .i64 1), v.oneCell' = true) := by
        intro v hv; have := List.eq_of_mem_replicate hv; subst this; rfl
      have len7 : Hid ((List.replicate q (Value.int .i64 1)).length = q * 1) := by show _ = _; simp
      clear hB7 hb7 ho hl
      obtain ⟨news, hnews⟩ : ∃ news, List.replicate q (Value.int .i64 1) = news := ⟨_, rfl⟩
      rw [hnews] at src7 one7 len7
      have HNEWS := Lib.hid hnews
      clear hnews
      go_wp2_with (first
        | (at_builtin; refine wpList_append_own _ rfl (.tmp 31) (.tmp 36) 40 rfl (w.heap.size + 1) 3 i0 (.int .i64 0) 1 8 intsUnder hi hz0 hz1 hz2 rfl (by decide) _ _ _ rfl o7.out ⟨wr.heap.size + 1, 0, none⟩ q q news rfl len7.out src7.out one7.out (by unfold maxLen; omega) (by omega) (by omega) ?_; intro v8 w8 ho8 hg8 _; have o8 := Lib.hid ho8; have l8 : Hid (Below (w.heap.size + 1) w7 w8) := (Below.refl _ _).grown hg8 (by omega) (fun g hg => (o7.out.lt g hg).1); clear ho8 hg8)
        | (at_builtin; refine wpList_append_own _ rfl (.tmp 38) (.tmp 39) 40 rfl (w.heap.size + 1) 3 i0 (.int .i64 0) 1 8 intsUnder hi hz0 hz1 hz2 rfl (by decide) _ _ _ rfl (o8.out.alloc _) ⟨w8.heap.size, 0, none⟩ 1 1 [.int .i64 0] rfl rfl ?c1 ?c2 ?c3 ?c4 ?c5 ?_))
      case c1 =>
        intro q u hq
        match q, hq with
        | 0, hq => simp at hq; subst hq; simp [Addr.add]
      case c2 => intro u hu; simp at hu; subst hu; rfl
      case c3 => unfold maxLen; omega
      case c4 => omega
      case c5 => have := l8.out.size; simp; omega
      intro v9 w9 ho9 hg9 _
      have hs8 : w.heap.size + 1 ≤ w8.heap.size := by have := l8.out.size; omega
      have l9 : Hid (Below (w.heap.size + 1) w7 w9) := (l8.out.alloc hs8 _).grown hg9 (by simp; omega) (fun g hg => (o8.out.lt g hg).1)
      have o9 : Hid (w9.ownsRow (w.heap.size + 1) 3 1 v9 (n + q + 1) ((ys ++ (List.replicate q 1 ++ [0])).map (Value.int .i64))) := by
        have e : (ys ++ (List.replicate q 1 ++ [0])).map (Value.int .i64) = ys.map (Value.int .i64) ++ (news ++ [Value.int .i64 0]) := by
          rw [← HNEWS.out]; simp
        rw [e]
        show w9.ownsRow _ _ _ _ _ _
        simpa using ho9
      clear ho9 hg9 o8 l8
      go_wp2_with fail
      refine (appendBits_any (w.heap.size + 1) v9 (n + q + 1) _ u k w9 o9.out (by have := l9.out.size; omega) (by omega) (by omega) (by omega)).mono ?_
      rintro e w10 ⟨v10, rfl, ho10, hb10⟩
      have o10 := Lib.hid ho10
      have l10 : Hid (Below w.heap.size w w10) := l7.out.trans ((l9.out.trans hb10).mono (by omega))
      have hs10 : w.heap.size < w10.heap.size := by have := l9.out.size; have := hb10.size; omega
      clear ho10 hb10
      go_wp2
      go_roundw
      case rel =>
        refine ⟨j + 1, by omega, by go_num, ?_, l10, hs10⟩
        have := o10.out
        have e : ys ++ (List.replicate q 1 ++ [0]) ++ bitsOf u k = ys ++ codeU u k := by simp [codeU, HQ.out]
        have e3 : (codeU u k).length = q + 1 + k := by rw [codeU_length, HQ.out]
        have e4 : ys.length = n := HN.out
        have e2 : n + q + 1 + k = (ys ++ codeU u k).length := by rw [List.length_append, e3, e4]; omega
        show w10.ownsRow _ _ _ _ _ _
        rw [hnext.out, ← e2, ← e]
        exact this
      case measure => simp [intOf]; omega
    · obtain rfl : j = 8 := by omega
      go_wp2
      go_ret2
      refine ⟨_, rfl, ?_, hl.out⟩
      rw [hP.out]
      exact own_base (ho.out) (by omega)

end Go.Proofs.YtkemoffagdilgaaGreatDoor
