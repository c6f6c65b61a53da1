import Derived.Test.YtjjflbnopphciacGreatDoorRsah
import Derived.Test.YtjjflbnopphciacGreatDoorRsag
import Derived.Deep.DeepCutAuto
import Derived.BigQuiet
namespace Go.Proofs.YtjjflbnopphciacGreatDoor
open Go.RowKit

set_option maxRecDepth 100000 in
set_option maxHeartbeats 8000000 in
theorem refFormatMap_any (A : Option Addr) (n c : Nat) (ns : List (Int × Int)) (w : World) (hr : RdP w A n ns) (hn : n ≤ 1000) (hx : I64N ns) :
    Calls Tryz.prog 42 #[.agg #[.slice A n c]] w fun e w' => e = .returned (.string (mapT ns)) ∧ Below w.heap.size w w' := by
  have HLN := Lib.hid hr.1
  have HX := Lib.hid hx
  obtain ⟨R, hR⟩ : ∃ R, mapT ns = R := ⟨_, rfl⟩
  have HRR := Lib.hid hR
  rw [hR]
  obtain ⟨w1, hw1⟩ : ∃ W, w.alloc (.cells #[.slice A n c] 24) = W := ⟨_, rfl⟩
  have HB1 : Hid (Below w.heap.size w w1) := by show Below _ _ _; rw [← hw1]; exact (Below.refl _ _).alloc (Nat.le_refl _) _
  have KB : Hid (Bk w1 w.heap.size 24 #[.slice A n c]) := by show Bk _ _ _ _; rw [← hw1]; exact Bk.new _ _ _
  have HR0 := Lib.hid hr
  have HW1 := Lib.hid hw1
  clear hr hx hR hw1
  go_enter Tryz.func42, Tryz.ntmps42
  go_upto_region 1 with fail
  rw [show w.alloc (.cells #[.slice A n c] 24) = w1 from HW1.out]
  go_wp2
  go_loopw [3, 4] (fun s i wr => ∃ (j : Nat) (X : ByteArray), j ≤ n ∧ i = .int .i64 (j : Int) ∧ s = .string X ∧ X.size ≤ 42 * j ∧ Hid (X = ⟨(joinN (ns.take j)).toArray⟩) ∧ Hid (Below w1.heap.size w1 wr)) (fun _ i _ => n - (intOf i).toNat)
  case atStart => exact ⟨0, ⟨#[]⟩, Nat.zero_le _, rfl, rfl, by decide, rfl, Below.refl _ _⟩
  case round =>
    obtain ⟨j, X, hj, rfl, rfl, hXz, HXX, HB⟩ := hrel
    have c0 : wr.cell? ⟨w.heap.size, 0, none⟩ = some (.slice A n c) := by rw [(KB.out.later HB.out).cell]; rfl
    by_cases hlt : j < n
    · obtain ⟨ad, rfl, hgl, hcs⟩ := (HR0.out.below HB1.out).2 (by omega)
      obtain ⟨a1, a2⟩ := hcs j hlt
      have hxm : ns.getD j (0, 0) ∈ ns := by
        rw [List.getD_eq_getElem?_getD, List.getElem?_eq_getElem (by rw [HLN.out]; exact hlt)]
        exact List.getElem_mem _
      have hxb := HX.out _ hxm
      have hsn : ns.take (j + 1) = ns.take j ++ [ns.getD j (0, 0)] := by
        rw [List.take_add_one, List.getD_eq_getElem?_getD, List.getElem?_eq_getElem (by rw [HLN.out]; exact hlt)]
        rfl
      obtain ⟨⟨x, y⟩, hp⟩ : ∃ p, ns.getD j (0, 0) = p := ⟨_, rfl⟩
      rw [hp] at a1 a2 hxb hsn
      dsimp only at a1 a2 hxb
      obtain ⟨aq, haq⟩ : ∃ a, ad.add (j * 2) = a := ⟨_, rfl⟩
      have hqb : aq.block < w1.heap.size := by rw [← haq, addBlock]; exact hgl
      rw [haq] at a1 a2
      obtain ⟨aq1, haq1⟩ : ∃ a, aq.add 1 = a := ⟨_, rfl⟩
      have hqb1 : aq1.block < w1.heap.size := by rw [← haq1, addBlock]; exact hqb
      rw [haq1] at a2
      obtain ⟨D, hD⟩ : ∃ D, (⟨(Lib.itoa x).toArray⟩ : ByteArray) = D := ⟨_, rfl⟩
      obtain ⟨E, hE⟩ : ∃ D, (⟨(Lib.itoa y).toArray⟩ : ByteArray) = D := ⟨_, rfl⟩
      have CX : Hid (∀ W, _) := Lib.hid fun W => decimal_any x W hxb.1.1 hxb.1.2
      have CY : Hid (∀ W, _) := Lib.hid fun W => decimal_any y W hxb.2.1 hxb.2.2
      rw [hD] at CX
      rw [hE] at CY
      have hDz : D.size ≤ 20 := by rw [← hD, bytes_size]; exact itoaB_size x hxb.1.1 hxb.1.2
      have hEz : E.size ≤ 20 := by rw [← hE, bytes_size]; exact itoaB_size y hxb.2.1 hxb.2.2
      have hltI : (j : Int) < (n : Int) := by omega
      have HSN := Lib.hid hsn
      have HD := Lib.hid hD
      have HE := Lib.hid hE
      have HSK : Hid (∀ W, Below w1.heap.size w1 W → W.cell? ⟨w.heap.size, 0, none⟩ = some (.slice (some ad) n c) ∧ W.cell? aq = some (.int .i64 x) ∧ W.cell? aq1 = some (.int .i64 y)) := fun W hW =>
        ⟨by rw [(KB.out.later hW).cell]; rfl, (hW.cell hqb).trans a1, (hW.cell hqb1).trans a2⟩
      clear hp hxm hxb hD hE hsn hcs hqb hqb1 hgl
      by_cases h0 : j = 0
      · have hjz : ¬ (0 : Int) < (j : Int) := by omega
        have HF : Hid (X ++ D ++ (⟨#[64]⟩ : ByteArray) ++ E = ⟨(joinN (ns.take (j + 1))).toArray⟩) := by
          show _ = _
          rw [HSN.out, HXX.out, h0, List.take_zero, List.nil_append, joinN_one, ← HD.out, ← HE.out]
          apply ByteArray.ext; simp [nodeT, joinN, Lib.join]
        have z1 : ¬ 9223372036854775807 < X.size + D.size := by omega
        have z2 : ¬ 9223372036854775807 < X.size + D.size + 1 := by omega
        have z3 : ¬ 9223372036854775807 < X.size + D.size + 1 + E.size := by omega
        clear h0 a1 a2
        go_upto_region 7 with fail
        refine wp_region_held_drew (S := (fun w' : World => w'.cell? ⟨w.heap.size, 0, none⟩ = some (.slice (some ad) n c) ∧ w'.cell? aq = some (.int .i64 x) ∧ w'.cell? aq1 = some (.int .i64 y))) (by kernel_rfl) ?_ ?_
        · exact HSK.out _ HB.out.drew
        intro hHeld
        refine wpAnyH_take (i := 0) (v := ?_) rfl (by kernel_rfl) (by kernel_rfl) (by kernel_rfl) (fun _ _ _ h => h) (Or.inl ⟨by rfl, ?_⟩) (by assumption) ?_
        rotate_left
        · intro w hSw; (try dsimp only at hSw); go_simp; (try (with_reducible rfl))
        try simp only [List.getElem_toArray, List.getElem_cons_succ, List.getElem_cons_zero, Act.put, List.setIfInBounds_toArray, List.set_cons_zero, List.set_cons_succ]
        refine wpAnyH_take (i := 1) (v := ?_) rfl (by kernel_rfl) (by kernel_rfl) (by kernel_rfl) (fun _ _ _ h => h) (Or.inl ⟨by rfl, ?_⟩) (by assumption) ?_
        rotate_left
        · intro w hSw; (try dsimp only at hSw); go_simp; (try (with_reducible rfl))
        try simp only [List.getElem_toArray, List.getElem_cons_succ, List.getElem_cons_zero, Act.put, List.setIfInBounds_toArray, List.set_cons_zero, List.set_cons_succ]
        refine wpAnyH_take (i := 2) (v := ?_) rfl (by kernel_rfl) (by kernel_rfl) (by kernel_rfl) (fun _ _ _ h => h) (Or.inl ⟨by rfl, ?_⟩) (by assumption) ?_
        rotate_left
        · intro w hSw; (try dsimp only at hSw); go_simp; (try (with_reducible rfl))
        try simp only [List.getElem_toArray, List.getElem_cons_succ, List.getElem_cons_zero, Act.put, List.setIfInBounds_toArray, List.set_cons_zero, List.set_cons_succ]
        refine wpAnyH_take (i := 3) (v := ?_) rfl (by kernel_rfl) (by kernel_rfl) (by kernel_rfl) (fun _ _ _ h => h) (Or.inl ⟨by rfl, ?_⟩) (by assumption) ?_
        rotate_left
        · intro w hSw; (try dsimp only at hSw); go_simp; (try (with_reducible rfl))
        try simp only [List.getElem_toArray, List.getElem_cons_succ, List.getElem_cons_zero, Act.put, List.setIfInBounds_toArray, List.set_cons_zero, List.set_cons_succ]
        refine wpAnyH_take (i := 4) (v := ?_) rfl (by kernel_rfl) (by kernel_rfl) (by kernel_rfl) (fun _ _ _ h => h) (Or.inl ⟨by rfl, ?_⟩) (by assumption) ?_
        rotate_left
        · intro w hSw; (try dsimp only at hSw); go_simp; (try (with_reducible rfl))
        try simp only [List.getElem_toArray, List.getElem_cons_succ, List.getElem_cons_zero, Act.put, List.setIfInBounds_toArray, List.set_cons_zero, List.set_cons_succ]
        refine wpAnyH_take (i := 5) (v := ?_) rfl (by kernel_rfl) (by kernel_rfl) (by kernel_rfl) (fun _ _ _ h => h) (Or.inl ⟨by rfl, ?_⟩) (by assumption) ?_
        rotate_left
        · intro w hSw; (try dsimp only at hSw); go_simp; (try (with_reducible rfl))
        try simp only [List.getElem_toArray, List.getElem_cons_succ, List.getElem_cons_zero, Act.put, List.setIfInBounds_toArray, List.set_cons_zero, List.set_cons_succ]
        refine wpAnyH_take (i := 6) (v := ?_) rfl (by kernel_rfl) (by kernel_rfl) (by kernel_rfl) (fun _ _ _ h => h) (Or.inl ⟨by rfl, ?_⟩) (by assumption) ?_
        rotate_left
        · intro w hSw; (try dsimp only at hSw); go_simp; (try (with_reducible rfl))
        try simp only [List.getElem_toArray, List.getElem_cons_succ, List.getElem_cons_zero, Act.put, List.setIfInBounds_toArray, List.set_cons_zero, List.set_cons_succ]
        refine wpAnyH_take (i := 10) (v := ?_) rfl (by kernel_rfl) (by kernel_rfl) (by kernel_rfl) (fun _ _ _ h => h) (Or.inl ⟨by rfl, ?_⟩) (by assumption) ?_
        rotate_left
        · intro w hSw; (try dsimp only at hSw); go_simp; (try (with_reducible rfl))
        try simp only [List.getElem_toArray, List.getElem_cons_succ, List.getElem_cons_zero, Act.put, List.setIfInBounds_toArray, List.set_cons_zero, List.set_cons_succ]
        refine wpAnyH_take (i := 11) (v := ?_) rfl (by kernel_rfl) (by kernel_rfl) (by kernel_rfl) (fun _ _ _ h => h) (Or.inl ⟨by rfl, ?_⟩) (by assumption) ?_
        rotate_left
        · intro w hSw; (try dsimp only at hSw); go_simp; (try (with_reducible rfl))
        try simp only [List.getElem_toArray, List.getElem_cons_succ, List.getElem_cons_zero, Act.put, List.setIfInBounds_toArray, List.set_cons_zero, List.set_cons_succ]
        refine wpAnyH_take (i := 12) (v := ?_) rfl (by kernel_rfl) (by kernel_rfl) (by kernel_rfl) (fun _ _ _ h => h) (Or.inl ⟨by rfl, ?_⟩) (by assumption) ?_
        rotate_left
        · intro w hSw; (try dsimp only at hSw); go_simp; (try (with_reducible rfl))
        try simp only [List.getElem_toArray, List.getElem_cons_succ, List.getElem_cons_zero, Act.put, List.setIfInBounds_toArray, List.set_cons_zero, List.set_cons_succ]
        refine wpAnyH_take (i := 13) (v := ?_) rfl (by kernel_rfl) (by kernel_rfl) (by kernel_rfl) (fun _ _ _ h => h) (Or.inl ⟨by rfl, ?_⟩) (by assumption) ?_
        rotate_left
        · intro w hSw; (try dsimp only at hSw); go_simp; (try (with_reducible rfl))
        try simp only [List.getElem_toArray, List.getElem_cons_succ, List.getElem_cons_zero, Act.put, List.setIfInBounds_toArray, List.set_cons_zero, List.set_cons_succ]
        refine wpAnyH_take (i := 14) (v := ?_) rfl (by kernel_rfl) (by kernel_rfl) (by kernel_rfl) (fun _ _ _ h => h) (Or.inl ⟨by rfl, ?_⟩) (by assumption) ?_
        rotate_left
        · intro w hSw; (try dsimp only at hSw); go_simp; (try (with_reducible rfl))
        try simp only [List.getElem_toArray, List.getElem_cons_succ, List.getElem_cons_zero, Act.put, List.setIfInBounds_toArray, List.set_cons_zero, List.set_cons_succ]
        refine wpAnyH_take (i := 15) (v := ?_) rfl (by kernel_rfl) (by kernel_rfl) (by kernel_rfl) (fun _ _ _ h => h) (Or.inl ⟨by rfl, ?_⟩) (by assumption) ?_
        rotate_left
        · intro w hSw; (try dsimp only at hSw); go_simp; (try (with_reducible rfl))
        try simp only [List.getElem_toArray, List.getElem_cons_succ, List.getElem_cons_zero, Act.put, List.setIfInBounds_toArray, List.set_cons_zero, List.set_cons_succ]
        refine wpAnyH_ready (rs := [7]) (by kernel_rfl) (by simp) ?_
        refine AllReadyH.cons rfl (fun K hK => ?_) AllReadyH.nil
        go_simp
        go_at_call 74
        refine Calls.mono (CX.out _) ?_
        rintro e wa ⟨rfl, hb⟩
        have Hwa : Hid (Below w1.heap.size w1 wa) := (HB.out.drew).trans (hb.mono (HB.out.drew).size)
        clear hb
        go_wp2_with fail
        refine hK.out _ _ ?_ (fun hHeld => ?_)
        · clear hK K; exact HSK.out _ Hwa.out
        clear hK K
        try simp only [List.getElem_toArray, List.getElem_cons_succ, List.getElem_cons_zero, Act.put, List.setIfInBounds_toArray, List.set_cons_zero, List.set_cons_succ]
        refine wpAnyH_take (i := 8) (v := ?_) rfl (by kernel_rfl) (by kernel_rfl) (by kernel_rfl) (fun _ _ _ h => h) (Or.inl ⟨by rfl, ?_⟩) (by assumption) ?_
        rotate_left
        · intro w hSw; (try dsimp only at hSw); go_simp; (try (with_reducible rfl))
        try simp only [List.getElem_toArray, List.getElem_cons_succ, List.getElem_cons_zero, Act.put, List.setIfInBounds_toArray, List.set_cons_zero, List.set_cons_succ]
        refine wpAnyH_take (i := 9) (v := ?_) rfl (by kernel_rfl) (by kernel_rfl) (by kernel_rfl) (fun _ _ _ h => h) (Or.inl ⟨by rfl, ?_⟩) (by assumption) ?_
        rotate_left
        · intro w hSw; (try dsimp only at hSw); go_simp; (try (with_reducible rfl))
        try simp only [List.getElem_toArray, List.getElem_cons_succ, List.getElem_cons_zero, Act.put, List.setIfInBounds_toArray, List.set_cons_zero, List.set_cons_succ]
        refine wpAnyH_ready (rs := [16]) (by kernel_rfl) (by simp) ?_
        refine AllReadyH.cons rfl (fun K hK => ?_) AllReadyH.nil
        go_simp
        go_at_call 74
        refine Calls.mono (CY.out _) ?_
        rintro e wb ⟨rfl, hb⟩
        have Hwb : Hid (Below w1.heap.size w1 wb) := (Hwa.out).trans (hb.mono (Hwa.out).size)
        clear hb
        go_wp2_with fail
        refine hK.out _ _ ?_ (fun hHeld => ?_)
        · clear hK K; exact HSK.out _ Hwb.out
        clear hK K
        try simp only [List.getElem_toArray, List.getElem_cons_succ, List.getElem_cons_zero, Act.put, List.setIfInBounds_toArray, List.set_cons_zero, List.set_cons_succ]
        refine wpAnyH_take (i := 17) (v := ?_) rfl (by kernel_rfl) (by kernel_rfl) (by kernel_rfl) (fun _ _ _ h => h) (Or.inl ⟨by rfl, ?_⟩) (by assumption) ?_
        rotate_left
        · intro w hSw; (try dsimp only at hSw); go_simp; (try (with_reducible rfl))
        try simp only [List.getElem_toArray, List.getElem_cons_succ, List.getElem_cons_zero, Act.put, List.setIfInBounds_toArray, List.set_cons_zero, List.set_cons_succ]
        refine wpAnyH_take (i := 18) (v := ?_) rfl (by kernel_rfl) (by kernel_rfl) (by kernel_rfl) (fun _ _ _ h => h) (Or.inl ⟨by rfl, ?_⟩) (by assumption) ?_
        rotate_left
        · intro w hSw; (try dsimp only at hSw); go_simp; (try (with_reducible rfl))
        try simp only [List.getElem_toArray, List.getElem_cons_succ, List.getElem_cons_zero, Act.put, List.setIfInBounds_toArray, List.set_cons_zero, List.set_cons_succ]
        refine wpAnyH_done (by kernel_rfl) ?_ _
        clear hHeld
        go_wp2
        go_roundw
        case rel => exact ⟨j + 1, _, by omega, by go_num, rfl, by simp only [ByteArray.size_append]; show X.size + D.size + 1 + E.size ≤ _; omega, HF.out, Hwb.out⟩
        case measure => simp [intOf]; omega
      · have hjz : (0 : Int) < (j : Int) := by omega
        have hne : ns.take j ≠ [] := by
          intro e
          have := congrArg List.length e
          rw [List.length_take, HLN.out] at this
          simp at this; omega
        have HF : Hid (X ++ (⟨#[32]⟩ : ByteArray) ++ D ++ (⟨#[64]⟩ : ByteArray) ++ E = ⟨(joinN (ns.take (j + 1))).toArray⟩) := by
          show _ = _
          rw [HSN.out, joinN_snoc _ _ hne, HXX.out, ← HD.out, ← HE.out]
          apply ByteArray.ext; simp [nodeT]
        have z0 : ¬ 9223372036854775807 < X.size + 1 := by omega
        have z1 : ¬ 9223372036854775807 < X.size + 1 + D.size := by omega
        have z2 : ¬ 9223372036854775807 < X.size + 1 + D.size + 1 := by omega
        have z3 : ¬ 9223372036854775807 < X.size + 1 + D.size + 1 + E.size := by omega
        clear h0 a1 a2 hne
        go_upto_region 7 with fail
        refine wp_region_held_drew (S := (fun w' : World => w'.cell? ⟨w.heap.size, 0, none⟩ = some (.slice (some ad) n c) ∧ w'.cell? aq = some (.int .i64 x) ∧ w'.cell? aq1 = some (.int .i64 y))) (by kernel_rfl) ?_ ?_
        · exact HSK.out _ HB.out.drew
        intro hHeld
        refine wpAnyH_take (i := 0) (v := ?_) rfl (by kernel_rfl) (by kernel_rfl) (by kernel_rfl) (fun _ _ _ h => h) (Or.inl ⟨by rfl, ?_⟩) (by assumption) ?_
        rotate_left
        · intro w hSw; (try dsimp only at hSw); go_simp; (try (with_reducible rfl))
        try simp only [List.getElem_toArray, List.getElem_cons_succ, List.getElem_cons_zero, Act.put, List.setIfInBounds_toArray, List.set_cons_zero, List.set_cons_succ]
        refine wpAnyH_take (i := 1) (v := ?_) rfl (by kernel_rfl) (by kernel_rfl) (by kernel_rfl) (fun _ _ _ h => h) (Or.inl ⟨by rfl, ?_⟩) (by assumption) ?_
        rotate_left
        · intro w hSw; (try dsimp only at hSw); go_simp; (try (with_reducible rfl))
        try simp only [List.getElem_toArray, List.getElem_cons_succ, List.getElem_cons_zero, Act.put, List.setIfInBounds_toArray, List.set_cons_zero, List.set_cons_succ]
        refine wpAnyH_take (i := 2) (v := ?_) rfl (by kernel_rfl) (by kernel_rfl) (by kernel_rfl) (fun _ _ _ h => h) (Or.inl ⟨by rfl, ?_⟩) (by assumption) ?_
        rotate_left
        · intro w hSw; (try dsimp only at hSw); go_simp; (try (with_reducible rfl))
        try simp only [List.getElem_toArray, List.getElem_cons_succ, List.getElem_cons_zero, Act.put, List.setIfInBounds_toArray, List.set_cons_zero, List.set_cons_succ]
        refine wpAnyH_take (i := 3) (v := ?_) rfl (by kernel_rfl) (by kernel_rfl) (by kernel_rfl) (fun _ _ _ h => h) (Or.inl ⟨by rfl, ?_⟩) (by assumption) ?_
        rotate_left
        · intro w hSw; (try dsimp only at hSw); go_simp; (try (with_reducible rfl))
        try simp only [List.getElem_toArray, List.getElem_cons_succ, List.getElem_cons_zero, Act.put, List.setIfInBounds_toArray, List.set_cons_zero, List.set_cons_succ]
        refine wpAnyH_take (i := 4) (v := ?_) rfl (by kernel_rfl) (by kernel_rfl) (by kernel_rfl) (fun _ _ _ h => h) (Or.inl ⟨by rfl, ?_⟩) (by assumption) ?_
        rotate_left
        · intro w hSw; (try dsimp only at hSw); go_simp; (try (with_reducible rfl))
        try simp only [List.getElem_toArray, List.getElem_cons_succ, List.getElem_cons_zero, Act.put, List.setIfInBounds_toArray, List.set_cons_zero, List.set_cons_succ]
        refine wpAnyH_take (i := 5) (v := ?_) rfl (by kernel_rfl) (by kernel_rfl) (by kernel_rfl) (fun _ _ _ h => h) (Or.inl ⟨by rfl, ?_⟩) (by assumption) ?_
        rotate_left
        · intro w hSw; (try dsimp only at hSw); go_simp; (try (with_reducible rfl))
        try simp only [List.getElem_toArray, List.getElem_cons_succ, List.getElem_cons_zero, Act.put, List.setIfInBounds_toArray, List.set_cons_zero, List.set_cons_succ]
        refine wpAnyH_take (i := 6) (v := ?_) rfl (by kernel_rfl) (by kernel_rfl) (by kernel_rfl) (fun _ _ _ h => h) (Or.inl ⟨by rfl, ?_⟩) (by assumption) ?_
        rotate_left
        · intro w hSw; (try dsimp only at hSw); go_simp; (try (with_reducible rfl))
        try simp only [List.getElem_toArray, List.getElem_cons_succ, List.getElem_cons_zero, Act.put, List.setIfInBounds_toArray, List.set_cons_zero, List.set_cons_succ]
        refine wpAnyH_take (i := 10) (v := ?_) rfl (by kernel_rfl) (by kernel_rfl) (by kernel_rfl) (fun _ _ _ h => h) (Or.inl ⟨by rfl, ?_⟩) (by assumption) ?_
        rotate_left
        · intro w hSw; (try dsimp only at hSw); go_simp; (try (with_reducible rfl))
        try simp only [List.getElem_toArray, List.getElem_cons_succ, List.getElem_cons_zero, Act.put, List.setIfInBounds_toArray, List.set_cons_zero, List.set_cons_succ]
        refine wpAnyH_take (i := 11) (v := ?_) rfl (by kernel_rfl) (by kernel_rfl) (by kernel_rfl) (fun _ _ _ h => h) (Or.inl ⟨by rfl, ?_⟩) (by assumption) ?_
        rotate_left
        · intro w hSw; (try dsimp only at hSw); go_simp; (try (with_reducible rfl))
        try simp only [List.getElem_toArray, List.getElem_cons_succ, List.getElem_cons_zero, Act.put, List.setIfInBounds_toArray, List.set_cons_zero, List.set_cons_succ]
        refine wpAnyH_take (i := 12) (v := ?_) rfl (by kernel_rfl) (by kernel_rfl) (by kernel_rfl) (fun _ _ _ h => h) (Or.inl ⟨by rfl, ?_⟩) (by assumption) ?_
        rotate_left
        · intro w hSw; (try dsimp only at hSw); go_simp; (try (with_reducible rfl))
        try simp only [List.getElem_toArray, List.getElem_cons_succ, List.getElem_cons_zero, Act.put, List.setIfInBounds_toArray, List.set_cons_zero, List.set_cons_succ]
        refine wpAnyH_take (i := 13) (v := ?_) rfl (by kernel_rfl) (by kernel_rfl) (by kernel_rfl) (fun _ _ _ h => h) (Or.inl ⟨by rfl, ?_⟩) (by assumption) ?_
        rotate_left
        · intro w hSw; (try dsimp only at hSw); go_simp; (try (with_reducible rfl))
        try simp only [List.getElem_toArray, List.getElem_cons_succ, List.getElem_cons_zero, Act.put, List.setIfInBounds_toArray, List.set_cons_zero, List.set_cons_succ]
        refine wpAnyH_take (i := 14) (v := ?_) rfl (by kernel_rfl) (by kernel_rfl) (by kernel_rfl) (fun _ _ _ h => h) (Or.inl ⟨by rfl, ?_⟩) (by assumption) ?_
        rotate_left
        · intro w hSw; (try dsimp only at hSw); go_simp; (try (with_reducible rfl))
        try simp only [List.getElem_toArray, List.getElem_cons_succ, List.getElem_cons_zero, Act.put, List.setIfInBounds_toArray, List.set_cons_zero, List.set_cons_succ]
        refine wpAnyH_take (i := 15) (v := ?_) rfl (by kernel_rfl) (by kernel_rfl) (by kernel_rfl) (fun _ _ _ h => h) (Or.inl ⟨by rfl, ?_⟩) (by assumption) ?_
        rotate_left
        · intro w hSw; (try dsimp only at hSw); go_simp; (try (with_reducible rfl))
        try simp only [List.getElem_toArray, List.getElem_cons_succ, List.getElem_cons_zero, Act.put, List.setIfInBounds_toArray, List.set_cons_zero, List.set_cons_succ]
        refine wpAnyH_ready (rs := [7]) (by kernel_rfl) (by simp) ?_
        refine AllReadyH.cons rfl (fun K hK => ?_) AllReadyH.nil
        go_simp
        go_at_call 74
        refine Calls.mono (CX.out _) ?_
        rintro e wa ⟨rfl, hb⟩
        have Hwa : Hid (Below w1.heap.size w1 wa) := (HB.out.drew).trans (hb.mono (HB.out.drew).size)
        clear hb
        go_wp2_with fail
        refine hK.out _ _ ?_ (fun hHeld => ?_)
        · clear hK K; exact HSK.out _ Hwa.out
        clear hK K
        try simp only [List.getElem_toArray, List.getElem_cons_succ, List.getElem_cons_zero, Act.put, List.setIfInBounds_toArray, List.set_cons_zero, List.set_cons_succ]
        refine wpAnyH_take (i := 8) (v := ?_) rfl (by kernel_rfl) (by kernel_rfl) (by kernel_rfl) (fun _ _ _ h => h) (Or.inl ⟨by rfl, ?_⟩) (by assumption) ?_
        rotate_left
        · intro w hSw; (try dsimp only at hSw); go_simp; (try (with_reducible rfl))
        try simp only [List.getElem_toArray, List.getElem_cons_succ, List.getElem_cons_zero, Act.put, List.setIfInBounds_toArray, List.set_cons_zero, List.set_cons_succ]
        refine wpAnyH_take (i := 9) (v := ?_) rfl (by kernel_rfl) (by kernel_rfl) (by kernel_rfl) (fun _ _ _ h => h) (Or.inl ⟨by rfl, ?_⟩) (by assumption) ?_
        rotate_left
        · intro w hSw; (try dsimp only at hSw); go_simp; (try (with_reducible rfl))
        try simp only [List.getElem_toArray, List.getElem_cons_succ, List.getElem_cons_zero, Act.put, List.setIfInBounds_toArray, List.set_cons_zero, List.set_cons_succ]
        refine wpAnyH_ready (rs := [16]) (by kernel_rfl) (by simp) ?_
        refine AllReadyH.cons rfl (fun K hK => ?_) AllReadyH.nil
        go_simp
        go_at_call 74
        refine Calls.mono (CY.out _) ?_
        rintro e wb ⟨rfl, hb⟩
        have Hwb : Hid (Below w1.heap.size w1 wb) := (Hwa.out).trans (hb.mono (Hwa.out).size)
        clear hb
        go_wp2_with fail
        refine hK.out _ _ ?_ (fun hHeld => ?_)
        · clear hK K; exact HSK.out _ Hwb.out
        clear hK K
        try simp only [List.getElem_toArray, List.getElem_cons_succ, List.getElem_cons_zero, Act.put, List.setIfInBounds_toArray, List.set_cons_zero, List.set_cons_succ]
        refine wpAnyH_take (i := 17) (v := ?_) rfl (by kernel_rfl) (by kernel_rfl) (by kernel_rfl) (fun _ _ _ h => h) (Or.inl ⟨by rfl, ?_⟩) (by assumption) ?_
        rotate_left
        · intro w hSw; (try dsimp only at hSw); go_simp; (try (with_reducible rfl))
        try simp only [List.getElem_toArray, List.getElem_cons_succ, List.getElem_cons_zero, Act.put, List.setIfInBounds_toArray, List.set_cons_zero, List.set_cons_succ]
        refine wpAnyH_take (i := 18) (v := ?_) rfl (by kernel_rfl) (by kernel_rfl) (by kernel_rfl) (fun _ _ _ h => h) (Or.inl ⟨by rfl, ?_⟩) (by assumption) ?_
        rotate_left
        · intro w hSw; (try dsimp only at hSw); go_simp; (try (with_reducible rfl))
        try simp only [List.getElem_toArray, List.getElem_cons_succ, List.getElem_cons_zero, Act.put, List.setIfInBounds_toArray, List.set_cons_zero, List.set_cons_succ]
        refine wpAnyH_done (by kernel_rfl) ?_ _
        clear hHeld
        go_wp2
        go_roundw
        case rel => exact ⟨j + 1, _, by omega, by go_num, rfl, by simp only [ByteArray.size_append]; show X.size + 1 + D.size + 1 + E.size ≤ _; omega, HF.out, Hwb.out⟩
        case measure => simp [intOf]; omega
    · obtain rfl : j = n := by omega
      have hXX : Hid (X = R) := by
        show _ = _
        rw [HXX.out, ← HRR.out, List.take_of_length_le (by rw [HLN.out]; exact Nat.le_refl _)]
        rfl
      go_wp2
      go_ret
      exact ⟨by rw [← hXX.out]; rfl, HB1.out.trans (HB.out.mono HB1.out.size)⟩
end Go.Proofs.YtjjflbnopphciacGreatDoor

namespace Go.Proofs.YtjjflbnopphciacGreatDoor
open Go.RowKit

/-- The string of rules. -/
def rulesT (k d nu q s : Int) (ns : List (Int × Int)) : ByteArray :=
  if k = 0 then ⟨#[114, 97, 116, 105, 111, 32]⟩ ++ ⟨(joinP [d, nu, q]).toArray⟩ else if k = 1 then ⟨#[109, 97, 112, 32]⟩ ++ ⟨(joinP [d, s] ++ 32 :: joinN ns).toArray⟩ else ⟨#[]⟩
theorem rulesT0 (d nu q s : Int) (ns : List (Int × Int)) : rulesT 0 d nu q s ns = ⟨#[114, 97, 116, 105, 111, 32]⟩ ++ ⟨(joinP [d, nu, q]).toArray⟩ := if_pos rfl
theorem rulesT1 (d nu q s : Int) (ns : List (Int × Int)) : rulesT 1 d nu q s ns = ⟨#[109, 97, 112, 32]⟩ ++ ⟨(joinP [d, s] ++ 32 :: joinN ns).toArray⟩ := by
  unfold rulesT; rw [if_neg (by omega), if_pos rfl]
theorem rulesTX (k d nu q s : Int) (ns : List (Int × Int)) (h0 : k ≠ 0) (h1 : k ≠ 1) : rulesT k d nu q s ns = ⟨#[]⟩ := by
  unfold rulesT; rw [if_neg h0, if_neg h1]
theorem rdThree (W : World) (g : Nat) (a b c : Int) (h0 : W.cell? ⟨g, 0, none⟩ = some (.int .i64 a)) (h1 : W.cell? ⟨g, 1, none⟩ = some (.int .i64 b)) (h2 : W.cell? ⟨g, 2, none⟩ = some (.int .i64 c)) : RdI W (some ⟨g, 0, none⟩) 3 [a, b, c] :=
  ⟨rfl, fun _ => ⟨_, rfl, World.block_lt_of_cell? _ _ h0, fun j hj => (by
    rw [addOff]
    match j, hj with
    | 0, _ => exact h0
    | 1, _ => exact h1
    | 2, _ => exact h2)⟩⟩
theorem rdTwo (W : World) (g : Nat) (a b : Int) (h0 : W.cell? ⟨g, 0, none⟩ = some (.int .i64 a)) (h1 : W.cell? ⟨g, 1, none⟩ = some (.int .i64 b)) : RdI W (some ⟨g, 0, none⟩) 2 [a, b] :=
  ⟨rfl, fun _ => ⟨_, rfl, World.block_lt_of_cell? _ _ h0, fun j hj => (by
    rw [addOff]
    match j, hj with
    | 0, _ => exact h0
    | 1, _ => exact h1)⟩⟩

set_option maxRecDepth 100000 in
set_option maxHeartbeats 8000000 in
theorem formatRules0 (d nu q s : Int) (A : Option Addr) (m c : Nat) (ns : List (Int × Int)) (w : World) (hl : LaidG w) (hr : RdN w A m ns) (hm : m ≤ 1000) (hx : I64N ns) (hd : I64 [d, nu, q]) (hd2 : I64 [d, s]) :
    Calls Tryz.prog 7 #[.agg #[.int .i64 0, .int .i64 d, .int .i64 nu, .int .i64 q, .int .i64 s, .slice A m c]] w fun e w' => e = .returned (.string (rulesT 0 d nu q s ns)) ∧ Below w.heap.size w w' := by
  obtain ⟨w1, hw1⟩ : ∃ W, w.alloc (.cells #[.int .i64 0, .int .i64 d, .int .i64 nu, .int .i64 q, .int .i64 s, .slice A m c] 26) = W := ⟨_, rfl⟩
  have HB1 : Hid (Below w.heap.size w w1) := by show Below _ _ _; rw [← hw1]; exact (Below.refl _ _).alloc (Nat.le_refl _) _
  have K1 : Hid (Bk w1 w.heap.size 26 #[.int .i64 0, .int .i64 d, .int .i64 nu, .int .i64 q, .int .i64 s, .slice A m c]) := by show Bk _ _ _ _; rw [← hw1]; exact Bk.new _ _ _
  have HW1 := Lib.hid hw1
  obtain ⟨KW, hKW⟩ : ∃ K, kwRatio = K := ⟨_, rfl⟩
  have hKz : KW.size ≤ 5 := by rw [← hKW]; decide
  have hk0 := hl.k0
  rw [hKW] at hk0
  have HSK : Hid (∀ W, Below w1.heap.size w1 W → W.cell? ⟨w.heap.size, 0, none⟩ = some (.int .i64 0) ∧ W.cell? ⟨w.heap.size, 1, none⟩ = some (.int .i64 d) ∧ W.cell? ⟨w.heap.size, 2, none⟩ = some (.int .i64 nu) ∧ W.cell? ⟨w.heap.size, 3, none⟩ = some (.int .i64 q) ∧ W.cell? ⟨0, 0, none⟩ = some (.string KW)) := fun W hW => by
    have hk := K1.out.later hW
    exact ⟨by rw [hk.cell]; rfl, by rw [hk.cell]; rfl, by rw [hk.cell]; rfl, by rw [hk.cell]; rfl, (hW.cell (Nat.lt_of_lt_of_le (block_lt_of_cell hk0) HB1.out.size)).trans ((HB1.out.cell (block_lt_of_cell hk0)).trans hk0)⟩
  obtain ⟨c0, c1, c2, c3, ck⟩ := HSK.out w1 (Below.refl _ _)
  obtain ⟨T1, hT1⟩ : ∃ T, (⟨(joinP [d, nu, q]).toArray⟩ : ByteArray) = T := ⟨_, rfl⟩
  have hz1 : T1.size ≤ 63 := by
    rw [← hT1, bytes_size]
    have := joinP_len [d, nu, q] hd
    simpa using this
  have CJ : Hid (∀ W g, LaidG W → W.cell? ⟨g, 0, none⟩ = some (.int .i64 d) → W.cell? ⟨g, 1, none⟩ = some (.int .i64 nu) → W.cell? ⟨g, 2, none⟩ = some (.int .i64 q) → Calls Tryz.prog 28 #[.slice (some ⟨g, 0, none⟩) 3 3] W fun e w' => e = .returned (.string T1) ∧ Below W.heap.size W w') := fun W g h1 a b c => by rw [← hT1]; exact joined_any _ 3 3 [d, nu, q] W h1 (rdThree W g d nu q a b c) (by omega) hd
  have HLX : Hid (∀ W, Below w1.heap.size w1 W → LaidG W) := fun W hW => hl.later (HB1.out.trans (hW.mono HB1.out.size))
  have HFIN : Hid (rulesT 0 d nu q s ns = KW ++ (⟨#[32]⟩ : ByteArray) ++ T1) := by
    show _ = _
    rw [rulesT0, ← hKW, ← hT1]
    apply ByteArray.ext; simp [kwRatio]
  rw [HFIN.out]
  have z1 : ¬ 9223372036854775807 < KW.size + 1 := by omega
  have z2 : ¬ 9223372036854775807 < KW.size + 1 + T1.size := by omega
  clear hw1 hr hl hKW hT1 hx hd hd2 hk0 K1
  go_enter Tryz.func7, Tryz.ntmps7
  go_upto_region 1 with fail
  rw [show w.alloc (.cells #[.int .i64 0, .int .i64 d, .int .i64 nu, .int .i64 q, .int .i64 s, .slice A m c] 26) = w1 from HW1.out]
  go_upto_region 3 with fail
  clear c0 c1 c2 c3 ck
  refine wp_region_held_drew (S := (fun w' : World => w'.cell? ⟨w.heap.size, 0, none⟩ = some (.int .i64 0) ∧ w'.cell? ⟨w.heap.size, 1, none⟩ = some (.int .i64 d) ∧ w'.cell? ⟨w.heap.size, 2, none⟩ = some (.int .i64 nu) ∧ w'.cell? ⟨w.heap.size, 3, none⟩ = some (.int .i64 q) ∧ w'.cell? ⟨0, 0, none⟩ = some (.string KW))) (by kernel_rfl) ?_ ?_
  · exact HSK.out _ (Below.refl w1.heap.size w1).drew
  intro hHeld
  refine wpAnyH_take (i := 0) (v := ?_) rfl (by kernel_rfl) (by kernel_rfl) (by kernel_rfl) (fun _ _ _ h => h) (Or.inl ⟨by rfl, ?_⟩) (by assumption) ?_
  rotate_left
  · intro w hSw; (try dsimp only at hSw); go_simp; (try (with_reducible rfl))
  try simp only [List.getElem_toArray, List.getElem_cons_succ, List.getElem_cons_zero, Act.put, List.setIfInBounds_toArray, List.set_cons_zero, List.set_cons_succ]
  refine wpAnyH_take (i := 1) (v := ?_) rfl (by kernel_rfl) (by kernel_rfl) (by kernel_rfl) (fun _ _ _ h => h) (Or.inl ⟨by rfl, ?_⟩) (by assumption) ?_
  rotate_left
  · intro w hSw; (try dsimp only at hSw); go_simp; (try (with_reducible rfl))
  try simp only [List.getElem_toArray, List.getElem_cons_succ, List.getElem_cons_zero, Act.put, List.setIfInBounds_toArray, List.set_cons_zero, List.set_cons_succ]
  refine wpAnyH_take (i := 2) (v := ?_) rfl (by kernel_rfl) (by kernel_rfl) (by kernel_rfl) (fun _ _ _ h => h) (Or.inl ⟨by rfl, ?_⟩) (by assumption) ?_
  rotate_left
  · intro w hSw; (try dsimp only at hSw); go_simp; (try (with_reducible rfl))
  try simp only [List.getElem_toArray, List.getElem_cons_succ, List.getElem_cons_zero, Act.put, List.setIfInBounds_toArray, List.set_cons_zero, List.set_cons_succ]
  refine wpAnyH_take (i := 3) (v := ?_) rfl (by kernel_rfl) (by kernel_rfl) (by kernel_rfl) (fun _ _ _ h => h) (Or.inl ⟨by rfl, ?_⟩) (by assumption) ?_
  rotate_left
  · intro w hSw; (try dsimp only at hSw); go_simp; (try (with_reducible rfl))
  try simp only [List.getElem_toArray, List.getElem_cons_succ, List.getElem_cons_zero, Act.put, List.setIfInBounds_toArray, List.set_cons_zero, List.set_cons_succ]
  refine wpAnyH_take (i := 4) (v := ?_) rfl (by kernel_rfl) (by kernel_rfl) (by kernel_rfl) (fun _ _ _ h => h) (Or.inl ⟨by rfl, ?_⟩) (by assumption) ?_
  rotate_left
  · intro w hSw; (try dsimp only at hSw); go_simp; (try (with_reducible rfl))
  try simp only [List.getElem_toArray, List.getElem_cons_succ, List.getElem_cons_zero, Act.put, List.setIfInBounds_toArray, List.set_cons_zero, List.set_cons_succ]
  refine wpAnyH_take (i := 5) (v := ?_) rfl (by kernel_rfl) (by kernel_rfl) (by kernel_rfl) (fun _ _ _ h => h) (Or.inl ⟨by rfl, ?_⟩) (by assumption) ?_
  rotate_left
  · intro w hSw; (try dsimp only at hSw); go_simp; (try (with_reducible rfl))
  try simp only [List.getElem_toArray, List.getElem_cons_succ, List.getElem_cons_zero, Act.put, List.setIfInBounds_toArray, List.set_cons_zero, List.set_cons_succ]
  refine wpAnyH_take (i := 6) (v := ?_) rfl (by kernel_rfl) (by kernel_rfl) (by kernel_rfl) (fun _ _ _ h => h) (Or.inl ⟨by rfl, ?_⟩) (by assumption) ?_
  rotate_left
  · intro w hSw; (try dsimp only at hSw); go_simp; (try (with_reducible rfl))
  try simp only [List.getElem_toArray, List.getElem_cons_succ, List.getElem_cons_zero, Act.put, List.setIfInBounds_toArray, List.set_cons_zero, List.set_cons_succ]
  refine wpAnyH_take (i := 7) (v := ?_) rfl (by kernel_rfl) (by kernel_rfl) (by kernel_rfl) (fun _ _ _ h => h) (Or.inl ⟨by rfl, ?_⟩) (by assumption) ?_
  rotate_left
  · intro w hSw; (try dsimp only at hSw); go_simp; (try (with_reducible rfl))
  try simp only [List.getElem_toArray, List.getElem_cons_succ, List.getElem_cons_zero, Act.put, List.setIfInBounds_toArray, List.set_cons_zero, List.set_cons_succ]
  refine wpAnyH_take (i := 8) (v := ?_) rfl (by kernel_rfl) (by kernel_rfl) (by kernel_rfl) (fun _ _ _ h => h) (Or.inl ⟨by rfl, ?_⟩) (by assumption) ?_
  rotate_left
  · intro w hSw; (try dsimp only at hSw); go_simp; (try (with_reducible rfl))
  try simp only [List.getElem_toArray, List.getElem_cons_succ, List.getElem_cons_zero, Act.put, List.setIfInBounds_toArray, List.set_cons_zero, List.set_cons_succ]
  refine wpAnyH_take (i := 9) (v := ?_) rfl (by kernel_rfl) (by kernel_rfl) (by kernel_rfl) (fun _ _ _ h => h) (Or.inl ⟨by rfl, ?_⟩) (by assumption) ?_
  rotate_left
  · intro w hSw; (try dsimp only at hSw); go_simp; (try (with_reducible rfl))
  try simp only [List.getElem_toArray, List.getElem_cons_succ, List.getElem_cons_zero, Act.put, List.setIfInBounds_toArray, List.set_cons_zero, List.set_cons_succ]
  refine wpAnyH_take (i := 10) (v := ?_) rfl (by kernel_rfl) (by kernel_rfl) (by kernel_rfl) (fun _ _ _ h => h) (Or.inl ⟨by rfl, ?_⟩) (by assumption) ?_
  rotate_left
  · intro w hSw; (try dsimp only at hSw); go_simp; (try (with_reducible rfl))
  try simp only [List.getElem_toArray, List.getElem_cons_succ, List.getElem_cons_zero, Act.put, List.setIfInBounds_toArray, List.set_cons_zero, List.set_cons_succ]
  refine wpAnyH_ready (rs := [11]) (by kernel_rfl) (by simp) ?_
  refine AllReadyH.cons rfl (fun K hK => ?_) AllReadyH.nil
  go_simp
  refine hK.out _ _ ?_ (fun hHeld => ?_)
  · clear hK K; exact HSK.out _ ((Below.refl w1.heap.size w1).alloc (Nat.le_refl _) _).drew
  clear hK K
  try simp only [List.getElem_toArray, List.getElem_cons_succ, List.getElem_cons_zero, Act.put, List.setIfInBounds_toArray, List.set_cons_zero, List.set_cons_succ]
  refine wpAnyH_ready (rs := [12]) (by kernel_rfl) (by simp) ?_
  refine AllReadyH.cons rfl (fun K hK => ?_) AllReadyH.nil
  go_simp
  go_at_call 28
  refine Calls.mono (CJ.out _ _ (HLX.out _ (((Below.refl w1.heap.size w1).alloc (Nat.le_refl _) _).drew)) (by simp [go_sem]) (by simp [go_sem]) (by simp [go_sem])) ?_
  rintro e wa ⟨rfl, hb⟩
  have Hwa : Hid (Below w1.heap.size w1 wa) := ((((Below.refl w1.heap.size w1).alloc (Nat.le_refl _) _).drew)).trans (hb.mono ((((Below.refl w1.heap.size w1).alloc (Nat.le_refl _) _).drew)).size)
  clear hb
  go_wp2_with fail
  refine hK.out _ _ ?_ (fun hHeld => ?_)
  · clear hK K; exact HSK.out _ Hwa.out
  clear hK K
  try simp only [List.getElem_toArray, List.getElem_cons_succ, List.getElem_cons_zero, Act.put, List.setIfInBounds_toArray, List.set_cons_zero, List.set_cons_succ]
  refine wpAnyH_take (i := 13) (v := ?_) rfl (by kernel_rfl) (by kernel_rfl) (by kernel_rfl) (fun _ _ _ h => h) (Or.inl ⟨by rfl, ?_⟩) (by assumption) ?_
  rotate_left
  · intro w hSw; (try dsimp only at hSw); go_simp; (try (with_reducible rfl))
  try simp only [List.getElem_toArray, List.getElem_cons_succ, List.getElem_cons_zero, Act.put, List.setIfInBounds_toArray, List.set_cons_zero, List.set_cons_succ]
  refine wpAnyH_take (i := 14) (v := ?_) rfl (by kernel_rfl) (by kernel_rfl) (by kernel_rfl) (fun _ _ _ h => h) (Or.inl ⟨by rfl, ?_⟩) (by assumption) ?_
  rotate_left
  · intro w hSw; (try dsimp only at hSw); go_simp; (try (with_reducible rfl))
  try simp only [List.getElem_toArray, List.getElem_cons_succ, List.getElem_cons_zero, Act.put, List.setIfInBounds_toArray, List.set_cons_zero, List.set_cons_succ]
  refine wpAnyH_done (by kernel_rfl) ?_ _
  go_wp2_with fail
  go_ret
  exact ⟨rfl, HB1.out.trans (Hwa.out.mono HB1.out.size)⟩

set_option maxRecDepth 100000 in
set_option maxHeartbeats 8000000 in
theorem formatRules1 (d nu q s : Int) (A : Option Addr) (m c : Nat) (ns : List (Int × Int)) (w : World) (hl : LaidG w) (hr : RdN w A m ns) (hm : m ≤ 1000) (hx : I64N ns) (hd : I64 [d, nu, q]) (hd2 : I64 [d, s]) :
    Calls Tryz.prog 7 #[.agg #[.int .i64 1, .int .i64 d, .int .i64 nu, .int .i64 q, .int .i64 s, .slice A m c]] w fun e w' => e = .returned (.string (rulesT 1 d nu q s ns)) ∧ Below w.heap.size w w' := by
  obtain ⟨w1, hw1⟩ : ∃ W, w.alloc (.cells #[.int .i64 1, .int .i64 d, .int .i64 nu, .int .i64 q, .int .i64 s, .slice A m c] 26) = W := ⟨_, rfl⟩
  have HB1 : Hid (Below w.heap.size w w1) := by show Below _ _ _; rw [← hw1]; exact (Below.refl _ _).alloc (Nat.le_refl _) _
  have K1 : Hid (Bk w1 w.heap.size 26 #[.int .i64 1, .int .i64 d, .int .i64 nu, .int .i64 q, .int .i64 s, .slice A m c]) := by show Bk _ _ _ _; rw [← hw1]; exact Bk.new _ _ _
  have HW1 := Lib.hid hw1
  obtain ⟨KW, hKW⟩ : ∃ K, kwMap = K := ⟨_, rfl⟩
  have hKz : KW.size ≤ 3 := by rw [← hKW]; decide
  have hk0 := hl.k1
  rw [hKW] at hk0
  have HSK : Hid (∀ W, Below w1.heap.size w1 W → W.cell? ⟨w.heap.size, 0, none⟩ = some (.int .i64 1) ∧ W.cell? ⟨w.heap.size, 1, none⟩ = some (.int .i64 d) ∧ W.cell? ⟨w.heap.size, 4, none⟩ = some (.int .i64 s) ∧ W.cell? ⟨w.heap.size, 5, none⟩ = some (.slice A m c) ∧ W.cell? ⟨0, 1, none⟩ = some (.string KW)) := fun W hW => by
    have hk := K1.out.later hW
    exact ⟨by rw [hk.cell]; rfl, by rw [hk.cell]; rfl, by rw [hk.cell]; rfl, by rw [hk.cell]; rfl, (hW.cell (Nat.lt_of_lt_of_le (block_lt_of_cell hk0) HB1.out.size)).trans ((HB1.out.cell (block_lt_of_cell hk0)).trans hk0)⟩
  obtain ⟨c0, c1, c4, c5, ck⟩ := HSK.out w1 (Below.refl _ _)
  obtain ⟨T1, hT1⟩ : ∃ T, (⟨(joinP [d, s]).toArray⟩ : ByteArray) = T := ⟨_, rfl⟩
  have hz1 : T1.size ≤ 42 := by
    rw [← hT1, bytes_size]
    have := joinP_len [d, s] hd2
    simpa using this
  obtain ⟨T2, hT2⟩ : ∃ T, mapT ns = T := ⟨_, rfl⟩
  have hz2 : T2.size ≤ 42000 := by
    rw [← hT2, mapT, bytes_size]
    have := joinN_len ns hx
    have := hr.1
    omega
  have CJ : Hid (∀ W g, LaidG W → W.cell? ⟨g, 0, none⟩ = some (.int .i64 d) → W.cell? ⟨g, 1, none⟩ = some (.int .i64 s) → Calls Tryz.prog 28 #[.slice (some ⟨g, 0, none⟩) 2 2] W fun e w' => e = .returned (.string T1) ∧ Below W.heap.size W w') := fun W g h1 a b => by rw [← hT1]; exact joined_any _ 2 2 [d, s] W h1 (rdTwo W g d s a b) (by omega) hd2
  have HLX : Hid (∀ W, Below w1.heap.size w1 W → LaidG W) := fun W hW => hl.later (HB1.out.trans (hW.mono HB1.out.size))
  have HRX : Hid (∀ W, Below w1.heap.size w1 W → RdN W A m ns) := fun W hW => (hr.below HB1.out).below hW
  have CF : Hid (∀ W, LaidG W → RdN W A m ns → Calls Tryz.prog 29 #[.agg #[.slice A m c]] W fun e w' => e = .returned (.string T2) ∧ Below W.heap.size W w') := fun W h1 h2 => by rw [← hT2]; exact formatMap_any A m c ns W h1 h2 hm hx
  have HFIN : Hid (rulesT 1 d nu q s ns = KW ++ (⟨#[32]⟩ : ByteArray) ++ T1 ++ (⟨#[32]⟩ : ByteArray) ++ T2) := by
    show _ = _
    rw [rulesT1, ← hKW, ← hT1, ← hT2]
    apply ByteArray.ext; simp [kwMap, mapT]
  rw [HFIN.out]
  have z1 : ¬ 9223372036854775807 < KW.size + 1 := by omega
  have z2 : ¬ 9223372036854775807 < KW.size + 1 + T1.size := by omega
  have z3 : ¬ 9223372036854775807 < KW.size + 1 + T1.size + 1 := by omega
  have z4 : ¬ 9223372036854775807 < KW.size + 1 + T1.size + 1 + T2.size := by omega
  clear hw1 hr hl hKW hT1 hT2 hx hd hd2 hk0 K1
  go_enter Tryz.func7, Tryz.ntmps7
  go_upto_region 1 with fail
  rw [show w.alloc (.cells #[.int .i64 1, .int .i64 d, .int .i64 nu, .int .i64 q, .int .i64 s, .slice A m c] 26) = w1 from HW1.out]
  go_upto_region 5 with fail
  clear c0 c1 c4 c5 ck
  refine wp_region_held_drew (S := (fun w' : World => w'.cell? ⟨w.heap.size, 0, none⟩ = some (.int .i64 1) ∧ w'.cell? ⟨w.heap.size, 1, none⟩ = some (.int .i64 d) ∧ w'.cell? ⟨w.heap.size, 4, none⟩ = some (.int .i64 s) ∧ w'.cell? ⟨w.heap.size, 5, none⟩ = some (.slice A m c) ∧ w'.cell? ⟨0, 1, none⟩ = some (.string KW))) (by kernel_rfl) ?_ ?_
  · exact HSK.out _ (Below.refl w1.heap.size w1).drew
  intro hHeld
  refine wpAnyH_take (i := 0) (v := ?_) rfl (by kernel_rfl) (by kernel_rfl) (by kernel_rfl) (fun _ _ _ h => h) (Or.inl ⟨by rfl, ?_⟩) (by assumption) ?_
  rotate_left
  · intro w hSw; (try dsimp only at hSw); go_simp; (try (with_reducible rfl))
  try simp only [List.getElem_toArray, List.getElem_cons_succ, List.getElem_cons_zero, Act.put, List.setIfInBounds_toArray, List.set_cons_zero, List.set_cons_succ]
  refine wpAnyH_take (i := 1) (v := ?_) rfl (by kernel_rfl) (by kernel_rfl) (by kernel_rfl) (fun _ _ _ h => h) (Or.inl ⟨by rfl, ?_⟩) (by assumption) ?_
  rotate_left
  · intro w hSw; (try dsimp only at hSw); go_simp; (try (with_reducible rfl))
  try simp only [List.getElem_toArray, List.getElem_cons_succ, List.getElem_cons_zero, Act.put, List.setIfInBounds_toArray, List.set_cons_zero, List.set_cons_succ]
  refine wpAnyH_take (i := 2) (v := ?_) rfl (by kernel_rfl) (by kernel_rfl) (by kernel_rfl) (fun _ _ _ h => h) (Or.inl ⟨by rfl, ?_⟩) (by assumption) ?_
  rotate_left
  · intro w hSw; (try dsimp only at hSw); go_simp; (try (with_reducible rfl))
  try simp only [List.getElem_toArray, List.getElem_cons_succ, List.getElem_cons_zero, Act.put, List.setIfInBounds_toArray, List.set_cons_zero, List.set_cons_succ]
  refine wpAnyH_take (i := 3) (v := ?_) rfl (by kernel_rfl) (by kernel_rfl) (by kernel_rfl) (fun _ _ _ h => h) (Or.inl ⟨by rfl, ?_⟩) (by assumption) ?_
  rotate_left
  · intro w hSw; (try dsimp only at hSw); go_simp; (try (with_reducible rfl))
  try simp only [List.getElem_toArray, List.getElem_cons_succ, List.getElem_cons_zero, Act.put, List.setIfInBounds_toArray, List.set_cons_zero, List.set_cons_succ]
  refine wpAnyH_take (i := 4) (v := ?_) rfl (by kernel_rfl) (by kernel_rfl) (by kernel_rfl) (fun _ _ _ h => h) (Or.inl ⟨by rfl, ?_⟩) (by assumption) ?_
  rotate_left
  · intro w hSw; (try dsimp only at hSw); go_simp; (try (with_reducible rfl))
  try simp only [List.getElem_toArray, List.getElem_cons_succ, List.getElem_cons_zero, Act.put, List.setIfInBounds_toArray, List.set_cons_zero, List.set_cons_succ]
  refine wpAnyH_take (i := 5) (v := ?_) rfl (by kernel_rfl) (by kernel_rfl) (by kernel_rfl) (fun _ _ _ h => h) (Or.inl ⟨by rfl, ?_⟩) (by assumption) ?_
  rotate_left
  · intro w hSw; (try dsimp only at hSw); go_simp; (try (with_reducible rfl))
  try simp only [List.getElem_toArray, List.getElem_cons_succ, List.getElem_cons_zero, Act.put, List.setIfInBounds_toArray, List.set_cons_zero, List.set_cons_succ]
  refine wpAnyH_take (i := 6) (v := ?_) rfl (by kernel_rfl) (by kernel_rfl) (by kernel_rfl) (fun _ _ _ h => h) (Or.inl ⟨by rfl, ?_⟩) (by assumption) ?_
  rotate_left
  · intro w hSw; (try dsimp only at hSw); go_simp; (try (with_reducible rfl))
  try simp only [List.getElem_toArray, List.getElem_cons_succ, List.getElem_cons_zero, Act.put, List.setIfInBounds_toArray, List.set_cons_zero, List.set_cons_succ]
  refine wpAnyH_take (i := 7) (v := ?_) rfl (by kernel_rfl) (by kernel_rfl) (by kernel_rfl) (fun _ _ _ h => h) (Or.inl ⟨by rfl, ?_⟩) (by assumption) ?_
  rotate_left
  · intro w hSw; (try dsimp only at hSw); go_simp; (try (with_reducible rfl))
  try simp only [List.getElem_toArray, List.getElem_cons_succ, List.getElem_cons_zero, Act.put, List.setIfInBounds_toArray, List.set_cons_zero, List.set_cons_succ]
  refine wpAnyH_take (i := 8) (v := ?_) rfl (by kernel_rfl) (by kernel_rfl) (by kernel_rfl) (fun _ _ _ h => h) (Or.inl ⟨by rfl, ?_⟩) (by assumption) ?_
  rotate_left
  · intro w hSw; (try dsimp only at hSw); go_simp; (try (with_reducible rfl))
  try simp only [List.getElem_toArray, List.getElem_cons_succ, List.getElem_cons_zero, Act.put, List.setIfInBounds_toArray, List.set_cons_zero, List.set_cons_succ]
  refine wpAnyH_take (i := 13) (v := ?_) rfl (by kernel_rfl) (by kernel_rfl) (by kernel_rfl) (fun _ _ _ h => h) (Or.inl ⟨by rfl, ?_⟩) (by assumption) ?_
  rotate_left
  · intro w hSw; (try dsimp only at hSw); go_simp; (try (with_reducible rfl))
  try simp only [List.getElem_toArray, List.getElem_cons_succ, List.getElem_cons_zero, Act.put, List.setIfInBounds_toArray, List.set_cons_zero, List.set_cons_succ]
  refine wpAnyH_take (i := 14) (v := ?_) rfl (by kernel_rfl) (by kernel_rfl) (by kernel_rfl) (fun _ _ _ h => h) (Or.inl ⟨by rfl, ?_⟩) (by assumption) ?_
  rotate_left
  · intro w hSw; (try dsimp only at hSw); go_simp; (try (with_reducible rfl))
  try simp only [List.getElem_toArray, List.getElem_cons_succ, List.getElem_cons_zero, Act.put, List.setIfInBounds_toArray, List.set_cons_zero, List.set_cons_succ]
  refine wpAnyH_ready (rs := [9]) (by kernel_rfl) (by simp) ?_
  refine AllReadyH.cons rfl (fun K hK => ?_) AllReadyH.nil
  go_simp
  refine hK.out _ _ ?_ (fun hHeld => ?_)
  · clear hK K; exact HSK.out _ ((Below.refl w1.heap.size w1).alloc (Nat.le_refl _) _).drew
  clear hK K
  try simp only [List.getElem_toArray, List.getElem_cons_succ, List.getElem_cons_zero, Act.put, List.setIfInBounds_toArray, List.set_cons_zero, List.set_cons_succ]
  refine wpAnyH_ready (rs := [10]) (by kernel_rfl) (by simp) ?_
  refine AllReadyH.cons rfl (fun K hK => ?_) AllReadyH.nil
  go_simp
  go_at_call 28
  refine Calls.mono (CJ.out _ _ (HLX.out _ (((Below.refl w1.heap.size w1).alloc (Nat.le_refl _) _).drew)) (by simp [go_sem]) (by simp [go_sem])) ?_
  rintro e wa ⟨rfl, hb⟩
  have Hwa : Hid (Below w1.heap.size w1 wa) := ((((Below.refl w1.heap.size w1).alloc (Nat.le_refl _) _).drew)).trans (hb.mono ((((Below.refl w1.heap.size w1).alloc (Nat.le_refl _) _).drew)).size)
  clear hb
  go_wp2_with fail
  refine hK.out _ _ ?_ (fun hHeld => ?_)
  · clear hK K; exact HSK.out _ Hwa.out
  clear hK K
  try simp only [List.getElem_toArray, List.getElem_cons_succ, List.getElem_cons_zero, Act.put, List.setIfInBounds_toArray, List.set_cons_zero, List.set_cons_succ]
  refine wpAnyH_take (i := 11) (v := ?_) rfl (by kernel_rfl) (by kernel_rfl) (by kernel_rfl) (fun _ _ _ h => h) (Or.inl ⟨by rfl, ?_⟩) (by assumption) ?_
  rotate_left
  · intro w hSw; (try dsimp only at hSw); go_simp; (try (with_reducible rfl))
  try simp only [List.getElem_toArray, List.getElem_cons_succ, List.getElem_cons_zero, Act.put, List.setIfInBounds_toArray, List.set_cons_zero, List.set_cons_succ]
  refine wpAnyH_take (i := 12) (v := ?_) rfl (by kernel_rfl) (by kernel_rfl) (by kernel_rfl) (fun _ _ _ h => h) (Or.inl ⟨by rfl, ?_⟩) (by assumption) ?_
  rotate_left
  · intro w hSw; (try dsimp only at hSw); go_simp; (try (with_reducible rfl))
  try simp only [List.getElem_toArray, List.getElem_cons_succ, List.getElem_cons_zero, Act.put, List.setIfInBounds_toArray, List.set_cons_zero, List.set_cons_succ]
  refine wpAnyH_ready (rs := [15]) (by kernel_rfl) (by simp) ?_
  refine AllReadyH.cons rfl (fun K hK => ?_) AllReadyH.nil
  go_simp
  go_at_call 29
  refine (CF.out _ (HLX.out _ Hwa.out) (HRX.out _ Hwa.out)).mono ?_
  rintro e wb ⟨rfl, hb⟩
  have Hwb : Hid (Below w1.heap.size w1 wb) := (Hwa.out).trans (hb.mono (Hwa.out).size)
  clear hb
  go_wp2_with fail
  refine hK.out _ _ ?_ (fun hHeld => ?_)
  · clear hK K; exact HSK.out _ Hwb.out
  clear hK K
  try simp only [List.getElem_toArray, List.getElem_cons_succ, List.getElem_cons_zero, Act.put, List.setIfInBounds_toArray, List.set_cons_zero, List.set_cons_succ]
  refine wpAnyH_take (i := 16) (v := ?_) rfl (by kernel_rfl) (by kernel_rfl) (by kernel_rfl) (fun _ _ _ h => h) (Or.inl ⟨by rfl, ?_⟩) (by assumption) ?_
  rotate_left
  · intro w hSw; (try dsimp only at hSw); go_simp; (try (with_reducible rfl))
  try simp only [List.getElem_toArray, List.getElem_cons_succ, List.getElem_cons_zero, Act.put, List.setIfInBounds_toArray, List.set_cons_zero, List.set_cons_succ]
  refine wpAnyH_take (i := 17) (v := ?_) rfl (by kernel_rfl) (by kernel_rfl) (by kernel_rfl) (fun _ _ _ h => h) (Or.inl ⟨by rfl, ?_⟩) (by assumption) ?_
  rotate_left
  · intro w hSw; (try dsimp only at hSw); go_simp; (try (with_reducible rfl))
  try simp only [List.getElem_toArray, List.getElem_cons_succ, List.getElem_cons_zero, Act.put, List.setIfInBounds_toArray, List.set_cons_zero, List.set_cons_succ]
  refine wpAnyH_done (by kernel_rfl) ?_ _
  go_wp2_with fail
  go_ret
  exact ⟨rfl, HB1.out.trans (Hwb.out.mono HB1.out.size)⟩

set_option maxRecDepth 100000 in
set_option maxHeartbeats 8000000 in
theorem formatRulesX (k d nu q s : Int) (A : Option Addr) (m c : Nat) (ns : List (Int × Int)) (w : World) (h0 : k ≠ 0) (h1 : k ≠ 1) :
    Calls Tryz.prog 7 #[.agg #[.int .i64 k, .int .i64 d, .int .i64 nu, .int .i64 q, .int .i64 s, .slice A m c]] w fun e w' => e = .returned (.string (rulesT k d nu q s ns)) ∧ Below w.heap.size w w' := by
  rw [rulesTX k d nu q s ns h0 h1]
  have e0 : (k == 0) = false := by simpa using h0
  have e1 : (k == 1) = false := by simpa using h1
  go_enter Tryz.func7, Tryz.ntmps7
  go_wp2
  go_ret
  exact ⟨rfl, (Below.refl _ _).alloc (Nat.le_refl _) _⟩
end Go.Proofs.YtjjflbnopphciacGreatDoor

namespace Go.Proofs.YtjjflbnopphciacGreatDoor
open Go.RowKit

set_option maxRecDepth 100000 in
set_option maxHeartbeats 8000000 in
theorem refFormatRules0 (d nu q s : Int) (A : Option Addr) (m c : Nat) (ns : List (Int × Int)) (w : World) (hr : RdP w A m ns) (hm : m ≤ 1000) (hx : I64N ns) (hd : I64 [d, nu, q]) (hd2 : I64 [d, s]) :
    Calls Tryz.prog 15 #[.agg #[.int .i64 0, .int .i64 d, .int .i64 nu, .int .i64 q, .int .i64 s, .slice A m c]] w fun e w' => e = .returned (.string (rulesT 0 d nu q s ns)) ∧ Below w.heap.size w w' := by
  obtain ⟨w1, hw1⟩ : ∃ W, w.alloc (.cells #[.int .i64 0, .int .i64 d, .int .i64 nu, .int .i64 q, .int .i64 s, .slice A m c] 26) = W := ⟨_, rfl⟩
  have HB1 : Hid (Below w.heap.size w w1) := by show Below _ _ _; rw [← hw1]; exact (Below.refl _ _).alloc (Nat.le_refl _) _
  have K1 : Hid (Bk w1 w.heap.size 26 #[.int .i64 0, .int .i64 d, .int .i64 nu, .int .i64 q, .int .i64 s, .slice A m c]) := by show Bk _ _ _ _; rw [← hw1]; exact Bk.new _ _ _
  have HW1 := Lib.hid hw1
  have HSK : Hid (∀ W, Below w1.heap.size w1 W → W.cell? ⟨w.heap.size, 0, none⟩ = some (.int .i64 0) ∧ W.cell? ⟨w.heap.size, 1, none⟩ = some (.int .i64 d) ∧ W.cell? ⟨w.heap.size, 2, none⟩ = some (.int .i64 nu) ∧ W.cell? ⟨w.heap.size, 3, none⟩ = some (.int .i64 q)) := fun W hW => by
    have hk := K1.out.later hW
    exact ⟨by rw [hk.cell]; rfl, by rw [hk.cell]; rfl, by rw [hk.cell]; rfl, by rw [hk.cell]; rfl⟩
  obtain ⟨c0, c1, c2, c3⟩ := HSK.out w1 (Below.refl _ _)
  obtain ⟨T1, hT1⟩ : ∃ T, (⟨(joinP [d, nu, q]).toArray⟩ : ByteArray) = T := ⟨_, rfl⟩
  have hz1 : T1.size ≤ 63 := by
    rw [← hT1, bytes_size]
    have := joinP_len [d, nu, q] hd
    simpa using this
  have CJ : Hid (∀ W g, W.cell? ⟨g, 0, none⟩ = some (.int .i64 d) → W.cell? ⟨g, 1, none⟩ = some (.int .i64 nu) → W.cell? ⟨g, 2, none⟩ = some (.int .i64 q) → Calls Tryz.prog 41 #[.slice (some ⟨g, 0, none⟩) 3 3] W fun e w' => e = .returned (.string T1) ∧ Below W.heap.size W w') := fun W g a b c => by rw [← hT1]; exact join_any _ 3 3 [d, nu, q] W (rdThree W g d nu q a b c) (by omega) hd rfl
  have HFIN : Hid (rulesT 0 d nu q s ns = (⟨#[114, 97, 116, 105, 111, 32]⟩ : ByteArray) ++ T1) := by
    show _ = _
    rw [rulesT0, ← hT1]
  rw [HFIN.out]
  have z2 : ¬ 9223372036854775807 < 6 + T1.size := by omega
  clear hw1 hr hT1 hx hd hd2 K1
  go_enter Tryz.func15, Tryz.ntmps15
  go_upto_region 1 with fail
  rw [show w.alloc (.cells #[.int .i64 0, .int .i64 d, .int .i64 nu, .int .i64 q, .int .i64 s, .slice A m c] 26) = w1 from HW1.out]
  go_wp2_with (go_at_call 41; refine Calls.mono (CJ.out _ _ (by simp [go_sem]) (by simp [go_sem]) (by simp [go_sem])) ?_; rintro e wa ⟨rfl, hb⟩)
  have Hwa : Hid (Below w1.heap.size w1 wa) := by
    have B0 := (Below.refl w1.heap.size w1).alloc (Nat.le_refl _) (.cells #[.int .i64 d, .int .i64 nu, .int .i64 q] 3)
    exact B0.trans (hb.mono B0.size)
  clear hb
  go_ret
  exact ⟨rfl, HB1.out.trans (Hwa.out.mono HB1.out.size)⟩

set_option maxRecDepth 100000 in
set_option maxHeartbeats 8000000 in
theorem refFormatRules1 (d nu q s : Int) (A : Option Addr) (m c : Nat) (ns : List (Int × Int)) (w : World) (hr : RdP w A m ns) (hm : m ≤ 1000) (hx : I64N ns) (hd : I64 [d, nu, q]) (hd2 : I64 [d, s]) :
    Calls Tryz.prog 15 #[.agg #[.int .i64 1, .int .i64 d, .int .i64 nu, .int .i64 q, .int .i64 s, .slice A m c]] w fun e w' => e = .returned (.string (rulesT 1 d nu q s ns)) ∧ Below w.heap.size w w' := by
  obtain ⟨w1, hw1⟩ : ∃ W, w.alloc (.cells #[.int .i64 1, .int .i64 d, .int .i64 nu, .int .i64 q, .int .i64 s, .slice A m c] 26) = W := ⟨_, rfl⟩
  have HB1 : Hid (Below w.heap.size w w1) := by show Below _ _ _; rw [← hw1]; exact (Below.refl _ _).alloc (Nat.le_refl _) _
  have K1 : Hid (Bk w1 w.heap.size 26 #[.int .i64 1, .int .i64 d, .int .i64 nu, .int .i64 q, .int .i64 s, .slice A m c]) := by show Bk _ _ _ _; rw [← hw1]; exact Bk.new _ _ _
  have HW1 := Lib.hid hw1
  have HSK : Hid (∀ W, Below w1.heap.size w1 W → W.cell? ⟨w.heap.size, 0, none⟩ = some (.int .i64 1) ∧ W.cell? ⟨w.heap.size, 1, none⟩ = some (.int .i64 d) ∧ W.cell? ⟨w.heap.size, 4, none⟩ = some (.int .i64 s) ∧ W.cell? ⟨w.heap.size, 5, none⟩ = some (.slice A m c)) := fun W hW => by
    have hk := K1.out.later hW
    exact ⟨by rw [hk.cell]; rfl, by rw [hk.cell]; rfl, by rw [hk.cell]; rfl, by rw [hk.cell]; rfl⟩
  obtain ⟨c0, c1, c4, c5⟩ := HSK.out w1 (Below.refl _ _)
  obtain ⟨T1, hT1⟩ : ∃ T, (⟨(joinP [d, s]).toArray⟩ : ByteArray) = T := ⟨_, rfl⟩
  have hz1 : T1.size ≤ 42 := by
    rw [← hT1, bytes_size]
    have := joinP_len [d, s] hd2
    simpa using this
  obtain ⟨T2, hT2⟩ : ∃ T, mapT ns = T := ⟨_, rfl⟩
  have hz2 : T2.size ≤ 42000 := by
    rw [← hT2, mapT, bytes_size]
    have := joinN_len ns hx
    have := hr.1
    omega
  have CJ : Hid (∀ W g, W.cell? ⟨g, 0, none⟩ = some (.int .i64 d) → W.cell? ⟨g, 1, none⟩ = some (.int .i64 s) → Calls Tryz.prog 41 #[.slice (some ⟨g, 0, none⟩) 2 2] W fun e w' => e = .returned (.string T1) ∧ Below W.heap.size W w') := fun W g a b => by rw [← hT1]; exact join_any _ 2 2 [d, s] W (rdTwo W g d s a b) (by omega) hd2 rfl
  have HRX : Hid (∀ W, Below w1.heap.size w1 W → RdP W A m ns) := fun W hW => (hr.below HB1.out).below hW
  have CF : Hid (∀ W, RdP W A m ns → Calls Tryz.prog 42 #[.agg #[.slice A m c]] W fun e w' => e = .returned (.string T2) ∧ Below W.heap.size W w') := fun W h2 => by rw [← hT2]; exact refFormatMap_any A m c ns W h2 hm hx
  have HFIN : Hid (rulesT 1 d nu q s ns = (⟨#[109, 97, 112, 32]⟩ : ByteArray) ++ T1 ++ (⟨#[32]⟩ : ByteArray) ++ T2) := by
    show _ = _
    rw [rulesT1, ← hT1, ← hT2]
    apply ByteArray.ext; simp [mapT]
  rw [HFIN.out]
  have z2 : ¬ 9223372036854775807 < 4 + T1.size := by omega
  have z3 : ¬ 9223372036854775807 < 4 + T1.size + 1 := by omega
  have z4 : ¬ 9223372036854775807 < 4 + T1.size + 1 + T2.size := by omega
  clear hw1 hr hT1 hT2 hx hd hd2 K1
  go_enter Tryz.func15, Tryz.ntmps15
  go_upto_region 1 with fail
  rw [show w.alloc (.cells #[.int .i64 1, .int .i64 d, .int .i64 nu, .int .i64 q, .int .i64 s, .slice A m c] 26) = w1 from HW1.out]
  go_upto_region 5 with fail
  clear c0 c1 c4 c5
  refine wp_region_held_drew (S := (fun w' : World => w'.cell? ⟨w.heap.size, 0, none⟩ = some (.int .i64 1) ∧ w'.cell? ⟨w.heap.size, 1, none⟩ = some (.int .i64 d) ∧ w'.cell? ⟨w.heap.size, 4, none⟩ = some (.int .i64 s) ∧ w'.cell? ⟨w.heap.size, 5, none⟩ = some (.slice A m c))) (by kernel_rfl) ?_ ?_
  · exact HSK.out _ (Below.refl w1.heap.size w1).drew
  intro hHeld
  refine wpAnyH_take (i := 0) (v := ?_) rfl (by kernel_rfl) (by kernel_rfl) (by kernel_rfl) (fun _ _ _ h => h) (Or.inl ⟨by rfl, ?_⟩) (by assumption) ?_
  rotate_left
  · intro w hSw; (try dsimp only at hSw); go_simp; (try (with_reducible rfl))
  try simp only [List.getElem_toArray, List.getElem_cons_succ, List.getElem_cons_zero, Act.put, List.setIfInBounds_toArray, List.set_cons_zero, List.set_cons_succ]
  refine wpAnyH_take (i := 1) (v := ?_) rfl (by kernel_rfl) (by kernel_rfl) (by kernel_rfl) (fun _ _ _ h => h) (Or.inl ⟨by rfl, ?_⟩) (by assumption) ?_
  rotate_left
  · intro w hSw; (try dsimp only at hSw); go_simp; (try (with_reducible rfl))
  try simp only [List.getElem_toArray, List.getElem_cons_succ, List.getElem_cons_zero, Act.put, List.setIfInBounds_toArray, List.set_cons_zero, List.set_cons_succ]
  refine wpAnyH_take (i := 2) (v := ?_) rfl (by kernel_rfl) (by kernel_rfl) (by kernel_rfl) (fun _ _ _ h => h) (Or.inl ⟨by rfl, ?_⟩) (by assumption) ?_
  rotate_left
  · intro w hSw; (try dsimp only at hSw); go_simp; (try (with_reducible rfl))
  try simp only [List.getElem_toArray, List.getElem_cons_succ, List.getElem_cons_zero, Act.put, List.setIfInBounds_toArray, List.set_cons_zero, List.set_cons_succ]
  refine wpAnyH_take (i := 3) (v := ?_) rfl (by kernel_rfl) (by kernel_rfl) (by kernel_rfl) (fun _ _ _ h => h) (Or.inl ⟨by rfl, ?_⟩) (by assumption) ?_
  rotate_left
  · intro w hSw; (try dsimp only at hSw); go_simp; (try (with_reducible rfl))
  try simp only [List.getElem_toArray, List.getElem_cons_succ, List.getElem_cons_zero, Act.put, List.setIfInBounds_toArray, List.set_cons_zero, List.set_cons_succ]
  refine wpAnyH_take (i := 8) (v := ?_) rfl (by kernel_rfl) (by kernel_rfl) (by kernel_rfl) (fun _ _ _ h => h) (Or.inl ⟨by rfl, ?_⟩) (by assumption) ?_
  rotate_left
  · intro w hSw; (try dsimp only at hSw); go_simp; (try (with_reducible rfl))
  try simp only [List.getElem_toArray, List.getElem_cons_succ, List.getElem_cons_zero, Act.put, List.setIfInBounds_toArray, List.set_cons_zero, List.set_cons_succ]
  refine wpAnyH_take (i := 9) (v := ?_) rfl (by kernel_rfl) (by kernel_rfl) (by kernel_rfl) (fun _ _ _ h => h) (Or.inl ⟨by rfl, ?_⟩) (by assumption) ?_
  rotate_left
  · intro w hSw; (try dsimp only at hSw); go_simp; (try (with_reducible rfl))
  try simp only [List.getElem_toArray, List.getElem_cons_succ, List.getElem_cons_zero, Act.put, List.setIfInBounds_toArray, List.set_cons_zero, List.set_cons_succ]
  refine wpAnyH_ready (rs := [4]) (by kernel_rfl) (by simp) ?_
  refine AllReadyH.cons rfl (fun K hK => ?_) AllReadyH.nil
  go_simp
  refine hK.out _ _ ?_ (fun hHeld => ?_)
  · clear hK K; exact HSK.out _ ((Below.refl w1.heap.size w1).alloc (Nat.le_refl _) _).drew
  clear hK K
  try simp only [List.getElem_toArray, List.getElem_cons_succ, List.getElem_cons_zero, Act.put, List.setIfInBounds_toArray, List.set_cons_zero, List.set_cons_succ]
  refine wpAnyH_ready (rs := [5]) (by kernel_rfl) (by simp) ?_
  refine AllReadyH.cons rfl (fun K hK => ?_) AllReadyH.nil
  go_simp
  go_at_call 41
  refine Calls.mono (CJ.out _ _ (by simp [go_sem]) (by simp [go_sem])) ?_
  rintro e wa ⟨rfl, hb⟩
  have Hwa : Hid (Below w1.heap.size w1 wa) := ((((Below.refl w1.heap.size w1).alloc (Nat.le_refl _) _).drew)).trans (hb.mono ((((Below.refl w1.heap.size w1).alloc (Nat.le_refl _) _).drew)).size)
  clear hb
  go_wp2_with fail
  refine hK.out _ _ ?_ (fun hHeld => ?_)
  · clear hK K; exact HSK.out _ Hwa.out
  clear hK K
  try simp only [List.getElem_toArray, List.getElem_cons_succ, List.getElem_cons_zero, Act.put, List.setIfInBounds_toArray, List.set_cons_zero, List.set_cons_succ]
  refine wpAnyH_take (i := 6) (v := ?_) rfl (by kernel_rfl) (by kernel_rfl) (by kernel_rfl) (fun _ _ _ h => h) (Or.inl ⟨by rfl, ?_⟩) (by assumption) ?_
  rotate_left
  · intro w hSw; (try dsimp only at hSw); go_simp; (try (with_reducible rfl))
  try simp only [List.getElem_toArray, List.getElem_cons_succ, List.getElem_cons_zero, Act.put, List.setIfInBounds_toArray, List.set_cons_zero, List.set_cons_succ]
  refine wpAnyH_take (i := 7) (v := ?_) rfl (by kernel_rfl) (by kernel_rfl) (by kernel_rfl) (fun _ _ _ h => h) (Or.inl ⟨by rfl, ?_⟩) (by assumption) ?_
  rotate_left
  · intro w hSw; (try dsimp only at hSw); go_simp; (try (with_reducible rfl))
  try simp only [List.getElem_toArray, List.getElem_cons_succ, List.getElem_cons_zero, Act.put, List.setIfInBounds_toArray, List.set_cons_zero, List.set_cons_succ]
  refine wpAnyH_ready (rs := [10]) (by kernel_rfl) (by simp) ?_
  refine AllReadyH.cons rfl (fun K hK => ?_) AllReadyH.nil
  go_simp
  go_at_call 42
  refine (CF.out _ (HRX.out _ Hwa.out)).mono ?_
  rintro e wb ⟨rfl, hb⟩
  have Hwb : Hid (Below w1.heap.size w1 wb) := (Hwa.out).trans (hb.mono (Hwa.out).size)
  clear hb
  go_wp2_with fail
  refine hK.out _ _ ?_ (fun hHeld => ?_)
  · clear hK K; exact HSK.out _ Hwb.out
  clear hK K
  try simp only [List.getElem_toArray, List.getElem_cons_succ, List.getElem_cons_zero, Act.put, List.setIfInBounds_toArray, List.set_cons_zero, List.set_cons_succ]
  refine wpAnyH_take (i := 11) (v := ?_) rfl (by kernel_rfl) (by kernel_rfl) (by kernel_rfl) (fun _ _ _ h => h) (Or.inl ⟨by rfl, ?_⟩) (by assumption) ?_
  rotate_left
  · intro w hSw; (try dsimp only at hSw); go_simp; (try (with_reducible rfl))
  try simp only [List.getElem_toArray, List.getElem_cons_succ, List.getElem_cons_zero, Act.put, List.setIfInBounds_toArray, List.set_cons_zero, List.set_cons_succ]
  refine wpAnyH_take (i := 12) (v := ?_) rfl (by kernel_rfl) (by kernel_rfl) (by kernel_rfl) (fun _ _ _ h => h) (Or.inl ⟨by rfl, ?_⟩) (by assumption) ?_
  rotate_left
  · intro w hSw; (try dsimp only at hSw); go_simp; (try (with_reducible rfl))
  try simp only [List.getElem_toArray, List.getElem_cons_succ, List.getElem_cons_zero, Act.put, List.setIfInBounds_toArray, List.set_cons_zero, List.set_cons_succ]
  refine wpAnyH_done (by kernel_rfl) ?_ _
  go_wp2_with fail
  go_ret
  exact ⟨rfl, HB1.out.trans (Hwb.out.mono HB1.out.size)⟩

set_option maxRecDepth 100000 in
set_option maxHeartbeats 8000000 in
theorem refFormatRulesX (k d nu q s : Int) (A : Option Addr) (m c : Nat) (ns : List (Int × Int)) (w : World) (h0 : k ≠ 0) (h1 : k ≠ 1) :
    Calls Tryz.prog 15 #[.agg #[.int .i64 k, .int .i64 d, .int .i64 nu, .int .i64 q, .int .i64 s, .slice A m c]] w fun e w' => e = .returned (.string (rulesT k d nu q s ns)) ∧ Below w.heap.size w w' := by
  rw [rulesTX k d nu q s ns h0 h1]
  have e0 : (k == 0) = false := by simpa using h0
  have e1 : (k == 1) = false := by simpa using h1
  go_enter Tryz.func15, Tryz.ntmps15
  go_wp2
  go_ret
  exact ⟨rfl, (Below.refl _ _).alloc (Nat.le_refl _) _⟩
end Go.Proofs.YtjjflbnopphciacGreatDoor


namespace Go.Proofs.YtjjflbnopphciacGreatDoor
open Go.RowKit

theorem fls_D {cs : List Int} {b : Int} {xs : List Int} (h : ¬ fltE cs b = 0) : flsE cs b xs = fltE cs b ∧ flsL cs b xs = [] := by
  have e : flsE cs b xs = fltE cs b := by simp [flsE, firstNZ, h]
  exact ⟨e, by unfold flsL; rw [e, if_neg h]⟩
theorem fls_S {cs : List Int} {b : Int} {xs : List Int} (h : fltE cs b = 0) (hs : ¬ sigE xs = 0) : flsE cs b xs = sigE xs ∧ flsL cs b xs = [] := by
  have e : flsE cs b xs = sigE xs := by simp [flsE, firstNZ, h, hs]
  exact ⟨e, by unfold flsL; rw [e, if_neg hs]⟩
theorem fls_ok {cs : List Int} {b : Int} {xs : List Int} (h : fltE cs b = 0) (hs : sigE xs = 0) : flsE cs b xs = 0 ∧ flsL cs b xs = filt cs b xs := by
  have e : flsE cs b xs = 0 := by simp [flsE, firstNZ, h, hs]
  exact ⟨e, by unfold flsL; rw [e, if_pos rfl]⟩
end Go.Proofs.YtjjflbnopphciacGreatDoor


namespace Go.Proofs.YtjjflbnopphciacGreatDoor
open Go.RowKit

/-! ### the product of two filters -/
def cvS (cs ds : List Int) (l i j : Nat) : List Int := (List.range l).map fun q => fsP cs ds q i + (if i ≤ q ∧ q - i < j then cs.getD i 0 * ds.getD (q - i) 0 else 0)
theorem cvS_len (cs ds : List Int) (l i j : Nat) : (cvS cs ds l i j).length = l := by simp [cvS]
theorem cvS_at (cs ds : List Int) (l i j q : Nat) (h : q < l) : (cvS cs ds l i j).getD q 0 = fsP cs ds q i + (if i ≤ q ∧ q - i < j then cs.getD i 0 * ds.getD (q - i) 0 else 0) := by
  simp [cvS, h]
theorem cvS_old (cs ds : List Int) (l i j : Nat) (h : i + j < l) : (cvS cs ds l i j).getD (i + j) 0 = fsP cs ds (i + j) i := by
  rw [cvS_at _ _ _ _ _ _ h, if_neg (by omega), Int.add_zero]
theorem cvS_set (cs ds : List Int) (l i j : Nat) (h : i + j < l) : (cvS cs ds l i j).set (i + j) (fsP cs ds (i + j) i + cs.getD i 0 * ds.getD j 0) = cvS cs ds l i (j + 1) := by
  apply List.ext_getElem
  · simp [cvS]
  intro q h1 h2
  have hq : q < l := by simpa [cvS] using h2
  rw [List.getElem_set]
  by_cases e : i + j = q
  · subst e
    rw [if_pos rfl]
    simp [cvS]
  · rw [if_neg e]
    simp only [cvS, List.getElem_map, List.getElem_range]
    have : (i ≤ q ∧ q - i < j) ↔ (i ≤ q ∧ q - i < j + 1) := by omega
    simp only [this]
theorem cvS_next (cs ds : List Int) (l i m : Nat) (hm : ds.length = m) : cvS cs ds l i m = cvS cs ds l (i + 1) 0 := by
  apply List.ext_getElem
  · simp [cvS]
  intro q h1 h2
  simp only [cvS, List.getElem_map, List.getElem_range, fsP]
  rw [if_neg (by omega : ¬ (i + 1 ≤ q ∧ q - (i + 1) < 0)), Int.add_zero]
  congr 1
  by_cases h : i ≤ q
  · rw [if_pos h]
    by_cases h3 : q - i < m
    · rw [if_pos ⟨h, h3⟩]
    · rw [if_neg (by omega), List.getD_eq_getElem?_getD (l := ds), List.getElem?_eq_none (by omega)]
      simp
  · rw [if_neg h, if_neg (by omega)]
theorem cvS_zero (cs ds : List Int) (l : Nat) : cvS cs ds l 0 0 = List.replicate l 0 := by
  apply List.ext_getElem
  · simp [cvS]
  intro q h1 h2
  simp [cvS, fsP]
theorem cvS_all (cs ds : List Int) (n l : Nat) (hn : cs.length = n) (hl : l = cs.length + ds.length - 1) : cvS cs ds l n 0 = conv cs ds := by
  unfold cvS conv
  rw [hl]
  apply List.map_congr_left
  intro q _
  rw [if_neg (by omega), Int.add_zero, fsum, hn]
theorem conv_at (cs ds : List Int) (q : Nat) (h : q < cs.length + ds.length - 1) : (conv cs ds).getD q 0 = fsum cs ds q := by
  simp [conv, h]
theorem conv_take (cs ds : List Int) (k l : Nat) (hl : cs.length + ds.length - 1 = l) (h : k < l) : (conv cs ds).take (k + 1) = (conv cs ds).take k ++ [fsum cs ds k] := by
  have h1 : k < (conv cs ds).length := by rw [conv_len]; omega
  rw [take_snoc h1, conv_at _ _ _ (by omega)]
def cm0 (cs : List Int) (b : Int) (ds : List Int) (b2 : Int) : Int := firstNZ [fltE cs b, fltE ds b2]
def cmE (cs : List Int) (b : Int) (ds : List Int) (b2 : Int) : Int := if cm0 cs b ds b2 = 0 then (if fltE (conv cs ds) (b * b2) = 0 then 0 else 8) else cm0 cs b ds b2
def cmL (cs : List Int) (b : Int) (ds : List Int) (b2 : Int) : List Int := if cmE cs b ds b2 = 0 then conv cs ds else []
def cmD (cs : List Int) (b : Int) (ds : List Int) (b2 : Int) : Int := if cmE cs b ds b2 = 0 then b * b2 else 0
/-- A filter of the call's own, and an error. -/
def CpR (w : World) (E : Int) (b : Int) (l : Nat) (cs : List Int) (e : Ending) (w' : World) : Prop :=
  (∃ A' c', e = .returned (.tuple #[.agg #[.slice A' l c', .int .i64 b], .int .i64 E]) ∧ RdI w' A' l cs ∧ (A' = none → l = 0 ∧ c' = 0) ∧ (∀ a, A' = some a → w.heap.size ≤ a.block)) ∧ Below w.heap.size w w'
/-- What holds beside the product's numbers. -/
structure CInv (w : World) (g h l : Nat) (f1 f2 f3 : Array Value) (bb : Int) (W : World) : Prop where
  k1 : Bk W w.heap.size 29 f1
  k2 : Bk W (w.heap.size + 1) 29 f2
  r : Bk W (w.heap.size + 2) 29 f3
  p : Bk W h 29 #[.slice (some ⟨g, 0, none⟩) l l, .int .i64 bb]
  bel : Below w.heap.size w W
theorem CInv.set {w : World} {g h l : Nat} {f1 f2 f3 : Array Value} {bb : Int} {W : World} (hc : CInv w g h l f1 f2 f3 bb W) (hg : w.heap.size + 2 < g) (hgh : h ≠ g) (j : Nat) (v : Value) : CInv w g h l f1 f2 f3 bb (W.setCell ⟨g, j, none⟩ v) :=
  ⟨hc.k1.far _ (by show w.heap.size ≠ g; omega) _, hc.k2.far _ (by show w.heap.size + 1 ≠ g; omega) _, hc.r.far _ (by show w.heap.size + 2 ≠ g; omega) _, hc.p.far _ hgh _, hc.bel.setCell (p := ⟨g, j, none⟩) (by show w.heap.size ≤ g; omega) _⟩

end Go.Proofs.YtjjflbnopphciacGreatDoor


namespace Go.Proofs.YtjjflbnopphciacGreatDoor
open Go.RowKit

theorem cell2' {W : World} {g : Nat} {t : TypeId} {x y : Value} (h : Bk W g t #[x, y]) : W.cell? ⟨g, 0, none⟩ = some x ∧ W.cell? ⟨g, 1, none⟩ = some y ∧ W.frozen? ⟨g, 0, none⟩ = false ∧ W.frozen? ⟨g, 1, none⟩ = false :=
  ⟨by rw [h.cell]; rfl, by rw [h.cell]; rfl, h.frozen 0, h.frozen 1⟩

end Go.Proofs.YtjjflbnopphciacGreatDoor


namespace Go.Proofs.YtjjflbnopphciacGreatDoor
open Go.RowKit

theorem cell2r {W : World} {g : Nat} {t : TypeId} {x y : Value} (h : Bk W g t #[x, y]) : W.cell? ⟨g, 0, none⟩ = some x ∧ W.cell? ⟨g, 1, none⟩ = some y ∧ W.frozen? ⟨g, 0, none⟩ = false ∧ W.frozen? ⟨g, 1, none⟩ = false :=
  ⟨by rw [h.cell]; rfl, by rw [h.cell]; rfl, h.frozen 0, h.frozen 1⟩
/-- The boxes of the reference's product. -/
structure CRef (w : World) (f1 f2 f3 f4 : Array Value) (W : World) : Prop where
  k1 : Bk W w.heap.size 29 f1
  k2 : Bk W (w.heap.size + 1) 29 f2
  r : Bk W (w.heap.size + 2) 29 f3
  o : Bk W (w.heap.size + 3) 29 f4
  bel : Below w.heap.size w W
theorem CRef.drewN {w : World} {f1 f2 f3 f4 : Array Value} {W : World} (h : CRef w f1 f2 f3 f4 W) (k : Nat) : CRef w f1 f2 f3 f4 (W.drewN k) := ⟨h.k1.drewN k, h.k2.drewN k, h.r.drewN k, h.o.drewN k, belowDrewN h.bel k⟩
end Go.Proofs.YtjjflbnopphciacGreatDoor


namespace Go.Proofs.YtjjflbnopphciacGreatDoor
open Go.RowKit

/-- The boxes of both filters. -/
structure TwoB (w : World) (f1 f2 : Array Value) (W : World) : Prop where
  k1 : Bk W w.heap.size 29 f1
  k2 : Bk W (w.heap.size + 1) 29 f2
  b : Below w.heap.size w W
theorem TwoB.alloc {w W : World} {f1 f2 : Array Value} (h : TwoB w f1 f2 W) (o : Obj) : TwoB w f1 f2 (W.alloc o) := ⟨h.k1.alloc o, h.k2.alloc o, h.b.alloc h.b.size o⟩
theorem TwoB.drew {w W : World} {f1 f2 : Array Value} (h : TwoB w f1 f2 W) : TwoB w f1 f2 W.drew := ⟨h.k1.drew, h.k2.drew, h.b.drew⟩
theorem TwoB.drewN {w W : World} {f1 f2 : Array Value} (h : TwoB w f1 f2 W) (k : Nat) : TwoB w f1 f2 (W.drewN k) := ⟨h.k1.drewN k, h.k2.drewN k, belowDrewN h.b k⟩
theorem TwoB.later {w W W' : World} {f1 f2 : Array Value} (hb : Below W.heap.size W W') (h : TwoB w f1 f2 W) : TwoB w f1 f2 W' := ⟨h.k1.later hb, h.k2.later hb, h.b.trans (hb.mono h.b.size)⟩
theorem TwoB.far {w W : World} {f1 f2 : Array Value} (h : TwoB w f1 f2 W) (p : Addr) (hp : w.heap.size + 1 < p.block) (v : Value) : TwoB w f1 f2 (W.setCell p v) :=
  ⟨h.k1.far p (by omega) v, h.k2.far p (by omega) v, h.b.setCell (by omega) v⟩
theorem TwoB.four {w W : World} {a b c d : Value} (h : TwoB w #[a, b] #[c, d] W) : (W.cell? ⟨w.heap.size, 0, none⟩ = some a ∧ W.cell? ⟨w.heap.size, 1, none⟩ = some b) ∧ W.cell? ⟨w.heap.size + 1, 0, none⟩ = some c ∧ W.cell? ⟨w.heap.size + 1, 1, none⟩ = some d := ⟨bkf2 h.k1, bkf2 h.k2⟩
theorem RdI.allocX {w : World} {A : Option Addr} {n : Nat} {xs : List Int} (h : RdI w A n xs) (o : Obj) : RdI (w.alloc o) A n xs := h.below (below1 w o)
theorem rd_farB {W : World} {A : Option Addr} {n : Nat} {xs : List Int} (h : RdI W A n xs) (p : Addr) (v : Value) (hp : ∀ a, A = some a → 0 < n → a.block ≠ p.block) : RdI (W.setCell p v) A n xs := by
  refine ⟨h.1, fun hn => ?_⟩
  obtain ⟨a, ha, h2, h3⟩ := h.2 hn
  refine ⟨a, ha, by simpa using h2, fun j hj => ?_⟩
  rw [World.cell?_setCell_far _ _ _ _ (fun e => hp a ha hn (by rw [addBlock] at e; exact e.symm))]
  exact h3 j hj
set_option maxRecDepth 100000 in
set_option maxHeartbeats 4000000 in
theorem sameFilter_any (A B : Option Addr) (n c d : Nat) (b : Int) (cs : List Int) (w : World) (ha : RdI w A n cs) (hb : RdI w B n cs) (hn : n ≤ 1000000) :
    Calls Tryz.prog 18 #[.agg #[.slice A n c, .int .i64 b], .agg #[.slice B n d, .int .i64 b]] w fun e w' => e = .returned (.bool true) ∧ Below w.heap.size w w' := by
  have T0 : Hid (TwoB w #[.slice A n c, .int .i64 b] #[.slice B n d, .int .i64 b] ((w.alloc (.cells #[.slice A n c, .int .i64 b] 29)).alloc (.cells #[.slice B n d, .int .i64 b] 29))) := Lib.hid ⟨(Bk.new _ _ _).alloc _, by simpa using Bk.new (w.alloc (.cells #[.slice A n c, .int .i64 b] 29)) 29 #[.slice B n d, .int .i64 b], below2 _ _ _⟩
  have CI := Lib.hid (ints_same A B n c d cs _ (ha.below T0.out.b) (hb.below T0.out.b) (by omega))
  clear ha hb
  go_enter Tryz.func18, Tryz.ntmps18
  obtain ⟨⟨d0, d1⟩, e0, e1⟩ := T0.out.four
  go_wp2_with fail
  refine CI.out.mono ?_
  rintro e w' ⟨rfl, kk, rfl⟩
  have BB := belowDrewN T0.out.b kk
  go_wp2
  go_ret
  exact ⟨by simp, BB⟩

end Go.Proofs.YtjjflbnopphciacGreatDoor

namespace Go.Proofs.YtjjflbnopphciacGreatDoor
open Go.RowKit

set_option maxRecDepth 100000 in
set_option maxHeartbeats 8000000 in
/-- The same map twice. -/
theorem sameMap_any (A B : Option Addr) (n ca cb : Nat) (ns : List (Int × Int)) (w : World) (ha : RdP w A n ns) (hb : RdP w B n ns) (hn : n ≤ 1000000) :
    Calls Tryz.prog 43 #[.agg #[.slice A n ca], .agg #[.slice B n cb]] w fun e w' => e = .returned (.bool true) ∧ Below w.heap.size w w' := by
  obtain ⟨w1, hw1⟩ : ∃ W, (w.alloc (.cells #[.slice A n ca] 24)).alloc (.cells #[.slice B n cb] 24) = W := ⟨_, rfl⟩
  have HB1 : Hid (Below w.heap.size w w1) := by show Below _ _ _; rw [← hw1]; exact below2 _ _ _
  have KA : Hid (Bk w1 w.heap.size 24 #[.slice A n ca]) := by show Bk _ _ _ _; rw [← hw1]; exact (Bk.new _ _ _).alloc _
  have KB : Hid (Bk w1 (w.heap.size + 1) 24 #[.slice B n cb]) := by show Bk _ _ _ _; rw [← hw1]; simpa using Bk.new (w.alloc (.cells #[.slice A n ca] 24)) 24 #[.slice B n cb]
  have HA := Lib.hid (ha.below HB1.out)
  have HBB := Lib.hid (hb.below HB1.out)
  have HW1 := Lib.hid hw1
  have d0 : w1.cell? ⟨w.heap.size, 0, none⟩ = some (.slice A n ca) := by rw [KA.out.cell]; rfl
  have e0 : w1.cell? ⟨w.heap.size + 1, 0, none⟩ = some (.slice B n cb) := by rw [KB.out.cell]; rfl
  clear ha hb hw1
  go_enter Tryz.func43, Tryz.ntmps43
  go_upto_region 1 with fail
  rw [show (w.alloc (.cells #[.slice A n ca] 24)).alloc (.cells #[.slice B n cb] 24) = w1 from HW1.out]
  go_wp2
  clear d0 e0
  go_loopw [5] (fun i wr => ∃ j : Nat, j ≤ n ∧ i = .int .i64 (j : Int) ∧ Hid (Below w1.heap.size w1 wr)) (fun i _ => n - (intOf i).toNat)
  case atStart => exact ⟨0, Nat.zero_le _, rfl, by first | exact Below.refl _ _ | exact (Below.refl _ _).drew | exact below_dN _ _⟩
  case round =>
    obtain ⟨j, hj, rfl, HB⟩ := hrel
    have d0 : wr.cell? ⟨w.heap.size, 0, none⟩ = some (.slice A n ca) := by rw [(KA.out.later HB.out).cell]; rfl
    have e0 : wr.cell? ⟨w.heap.size + 1, 0, none⟩ = some (.slice B n cb) := by rw [(KB.out.later HB.out).cell]; rfl
    by_cases hlt : j < n
    · obtain ⟨ad, rfl, _, hcs⟩ := (HA.out.below HB.out).2 (by omega)
      obtain ⟨bd, rfl, _, hcs2⟩ := (HBB.out.below HB.out).2 (by omega)
      obtain ⟨a1, a2⟩ := hcs j hlt
      obtain ⟨b1, b2⟩ := hcs2 j hlt
      obtain ⟨⟨x, y⟩, hp⟩ : ∃ p, ns.getD j (0, 0) = p := ⟨_, rfl⟩
      rw [hp] at a1 a2 b1 b2
      dsimp only at a1 a2 b1 b2
      obtain ⟨aq, haq⟩ : ∃ a, ad.add (j * 2) = a := ⟨_, rfl⟩
      rw [haq] at a1 a2
      obtain ⟨aq1, haq1⟩ : ∃ a, aq.add 1 = a := ⟨_, rfl⟩
      rw [haq1] at a2
      obtain ⟨bq, hbq⟩ : ∃ a, bd.add (j * 2) = a := ⟨_, rfl⟩
      rw [hbq] at b1 b2
      obtain ⟨bq1, hbq1⟩ : ∃ a, bq.add 1 = a := ⟨_, rfl⟩
      rw [hbq1] at b2
      have aq0 : aq.add 0 = aq := by unfold Addr.add; split <;> simp_all
      have bq0 : bq.add 0 = bq := by unfold Addr.add; split <;> simp_all
      have hltI : (j : Int) < (n : Int) := by omega
      clear hcs hcs2 hp
      go_wp2
      go_quiet (fail)
      go_wp2
      go_roundw
      case rel => exact ⟨j + 1, by omega, by go_num, HB.out.trans (by first | exact (below_dN _ _).mono HB.out.size | exact (Below.refl _ _).mono HB.out.size)⟩
      case measure => simp [intOf]; omega
    · obtain rfl : j = n := by omega
      go_wp2
      go_ret
      exact ⟨rfl, HB1.out.trans (HB.out.mono HB1.out.size)⟩
end Go.Proofs.YtjjflbnopphciacGreatDoor

namespace Go.Proofs.YtjjflbnopphciacGreatDoor
open Go.RowKit

set_option maxRecDepth 100000 in
set_option maxHeartbeats 8000000 in
/-- The same rules twice. -/
theorem sameRules_any (k d nu q s : Int) (A B : Option Addr) (n ca cb : Nat) (ns : List (Int × Int)) (w : World) (ha : RdP w A n ns) (hb : RdP w B n ns) (hn : n ≤ 1000000) :
    Calls Tryz.prog 17 #[.agg #[.int .i64 k, .int .i64 d, .int .i64 nu, .int .i64 q, .int .i64 s, .slice A n ca], .agg #[.int .i64 k, .int .i64 d, .int .i64 nu, .int .i64 q, .int .i64 s, .slice B n cb]] w fun e w' => e = .returned (.bool true) ∧ Below w.heap.size w w' := by
  obtain ⟨w1, hw1⟩ : ∃ W, (w.alloc (.cells #[.int .i64 k, .int .i64 d, .int .i64 nu, .int .i64 q, .int .i64 s, .slice A n ca] 26)).alloc (.cells #[.int .i64 k, .int .i64 d, .int .i64 nu, .int .i64 q, .int .i64 s, .slice B n cb] 26) = W := ⟨_, rfl⟩
  have HB1 : Hid (Below w.heap.size w w1) := by show Below _ _ _; rw [← hw1]; exact below2 _ _ _
  have KA : Bk w1 w.heap.size 26 #[.int .i64 k, .int .i64 d, .int .i64 nu, .int .i64 q, .int .i64 s, .slice A n ca] := by rw [← hw1]; exact (Bk.new _ _ _).alloc _
  have KB : Bk w1 (w.heap.size + 1) 26 #[.int .i64 k, .int .i64 d, .int .i64 nu, .int .i64 q, .int .i64 s, .slice B n cb] := by rw [← hw1]; simpa using Bk.new (w.alloc (.cells #[.int .i64 k, .int .i64 d, .int .i64 nu, .int .i64 q, .int .i64 s, .slice A n ca] 26)) 26 #[.int .i64 k, .int .i64 d, .int .i64 nu, .int .i64 q, .int .i64 s, .slice B n cb]
  have CM : Hid (∀ W, Below w1.heap.size w1 W → Calls Tryz.prog 43 #[.agg #[.slice A n ca], .agg #[.slice B n cb]] W fun e w' => e = .returned (.bool true) ∧ Below W.heap.size W w') := fun W hW => sameMap_any A B n ca cb ns W ((ha.below HB1.out).below hW) ((hb.below HB1.out).below hW) hn
  have HW1 := Lib.hid hw1
  have a0 : w1.cell? ⟨w.heap.size, 0, none⟩ = some (.int .i64 k) := by rw [KA.cell]; rfl
  have a1 : w1.cell? ⟨w.heap.size, 1, none⟩ = some (.int .i64 d) := by rw [KA.cell]; rfl
  have a2 : w1.cell? ⟨w.heap.size, 2, none⟩ = some (.int .i64 nu) := by rw [KA.cell]; rfl
  have a3 : w1.cell? ⟨w.heap.size, 3, none⟩ = some (.int .i64 q) := by rw [KA.cell]; rfl
  have a4 : w1.cell? ⟨w.heap.size, 4, none⟩ = some (.int .i64 s) := by rw [KA.cell]; rfl
  have a5 : w1.cell? ⟨w.heap.size, 5, none⟩ = some (.slice A n ca) := by rw [KA.cell]; rfl
  have b0 : w1.cell? ⟨w.heap.size + 1, 0, none⟩ = some (.int .i64 k) := by rw [KB.cell]; rfl
  have b1 : w1.cell? ⟨w.heap.size + 1, 1, none⟩ = some (.int .i64 d) := by rw [KB.cell]; rfl
  have b2 : w1.cell? ⟨w.heap.size + 1, 2, none⟩ = some (.int .i64 nu) := by rw [KB.cell]; rfl
  have b3 : w1.cell? ⟨w.heap.size + 1, 3, none⟩ = some (.int .i64 q) := by rw [KB.cell]; rfl
  have b4 : w1.cell? ⟨w.heap.size + 1, 4, none⟩ = some (.int .i64 s) := by rw [KB.cell]; rfl
  have b5 : w1.cell? ⟨w.heap.size + 1, 5, none⟩ = some (.slice B n cb) := by rw [KB.cell]; rfl
  clear ha hb hw1 KA KB
  go_enter Tryz.func17, Tryz.ntmps17
  go_upto_region 1 with fail
  rw [show (w.alloc (.cells #[.int .i64 k, .int .i64 d, .int .i64 nu, .int .i64 q, .int .i64 s, .slice A n ca] 26)).alloc (.cells #[.int .i64 k, .int .i64 d, .int .i64 nu, .int .i64 q, .int .i64 s, .slice B n cb] 26) = w1 from HW1.out]
  go_wp2_with fail
  refine (CM.out _ (by first | exact Below.refl _ _ | exact (Below.refl _ _).drew | exact below_dN _ _)).mono ?_
  rintro e w2 ⟨rfl, hb⟩
  have HB2 : Hid (Below w1.heap.size w1 w2) := by first | exact hb | exact (Below.refl _ _).drew.trans (hb.mono (by simp)) | exact (below_dN _ _).trans (hb.mono (by simp))
  clear hb
  go_wp2
  go_ret
  exact ⟨by simp, HB1.out.trans (HB2.out.mono HB1.out.size)⟩
end Go.Proofs.YtjjflbnopphciacGreatDoor

namespace Go.Proofs.YtjjflbnopphciacGreatDoor
open Go.RowKit

theorem join_pcs (c : UInt8) : ∀ l : List UInt8, Lib.join (pcs c l) [c] = l
  | [] => by simp [pcs, Lib.join_cons, Lib.joinTail]
  | b :: t => by
    have ih := join_pcs c t
    unfold pcs
    cases hp : pcs c t with
    | nil => exact absurd hp (pcs_ne c t)
    | cons p ps =>
      rw [hp] at ih
      by_cases h : b = c
      · rw [if_pos h]
        have e : Lib.join ([] :: p :: ps) [c] = c :: Lib.join (p :: ps) [c] := by simp [Lib.join_cons, Lib.joinTail]
        rw [e, ih, h]
      · rw [if_neg h]
        rw [Lib.join_cons] at ih ⊢
        simpa using ih
/-- Two words and the rest. -/
def p3 : List (List UInt8) → List (List UInt8)
  | a :: b :: c :: m => [a, b, Lib.join (c :: m) [32]]
  | l => l
theorem p3_small {l : List (List UInt8)} (h : l.length ≤ 2) : p3 l = l := by
  match l, h with
  | [], _ => rfl
  | [_], _ => rfl
  | [_, _], _ => rfl
theorem splitK_hit' (c : UInt8) (k : Nat) (l : List UInt8) (i : Nat) (h1 : Lib.index l [c] = i) : Lib.splitK [c] 0 (k + 1) l = l.take i :: Lib.splitK [c] 0 k (l.drop (i + 1)) := by
  have hne : ((i : Int) == -1) = false := beq_eq_false_iff_ne.2 (by omega)
  simp only [Lib.splitK, h1, hne]
  simp
theorem splitK_miss' (c : UInt8) (k : Nat) (l : List UInt8) (h1 : Lib.index l [c] = -1) : Lib.splitK [c] 0 k l = [l] := by
  cases k with
  | zero => rfl
  | succ k => simp [Lib.splitK, h1]
theorem split2_p3 (l : List UInt8) : Lib.splitK [32] 0 2 l = p3 (pcs 32 l) := by
  rcases idx_one l 32 with ⟨h1, h2⟩ | ⟨i, h1, h2, h3⟩
  · rw [splitK_miss' 32 2 l h1, pcs_miss 32 l h2]; rfl
  · rw [splitK_hit' 32 1 l i h1, pcs_hit 32 l i h2 h3]
    rcases idx_one (l.drop (i + 1)) 32 with ⟨e1, e2⟩ | ⟨j, e1, e2, e3⟩
    · rw [splitK_miss' 32 1 _ e1, pcs_miss 32 _ e2]; rfl
    · rw [splitK_hit' 32 0 _ j e1, pcs_hit 32 _ j e2 e3]
      cases hp : pcs 32 ((l.drop (i + 1)).drop (j + 1)) with
      | nil => exact absurd hp (pcs_ne _ _)
      | cons c m =>
        show _ = [_, _, Lib.join (c :: m) [32]]
        rw [← hp, join_pcs]
        rfl
theorem splitN_p3 (s : ByteArray) : (Lib.splitB ⟨#[32]⟩ 0 (min 3 (s.size + 1) - 1) s).map (·.data.toList) = p3 (pcs 32 s.data.toList) := by
  rw [Lib.splitB_data]
  have e2 : (⟨#[32]⟩ : ByteArray).data.toList = [32] := rfl
  have hz : s.data.toList.length = s.size := by simp
  rw [e2]
  by_cases h : 2 ≤ s.size
  · rw [show min 3 (s.size + 1) - 1 = 2 by omega]
    exact split2_p3 _
  · have hl := pcs_len_le 32 s.data.toList
    rw [(splitK_pcs 32 _ s.data.toList).2 (by omega), p3_small (by omega)]
theorem splitN_form (s : ByteArray) (w : World) (hl : LaidG w) (hs : s.size ≤ 1000000) :
    Calls Tryz.prog 105 #[.string s, .string ⟨#[32]⟩, .int .i64 3] w fun e w' => (∃ c, e = .returned (.slice (some ⟨w.heap.size, 0, none⟩) (p3 (pcs 32 s.data.toList)).length c) ∧ (∀ k x, (p3 (pcs 32 s.data.toList))[k]? = some x → w'.cell? ⟨w.heap.size, k, none⟩ = some (sv x))) ∧ w.heap.size < w'.heap.size ∧ Below w.heap.size w w' := by
  obtain ⟨m, hm⟩ := hl.ml
  have h := Tryz.strings_SplitN s ⟨#[32]⟩ 3 m w (by omega) hm (by decide) (by omega) (by omega)
  refine Calls.mono h ?_
  rintro e w' ⟨rfl, rfl⟩
  have hp := splitN_p3 s
  refine ⟨⟨_, by rw [← hp, List.length_map], fun k x hx => ?_⟩, by simp, (Below.refl _ _).alloc (Nat.le_refl _) _⟩
  rw [← hp, List.getElem?_map] at hx
  cases hd : (Lib.splitB ⟨#[32]⟩ 0 (min 3 (s.size + 1) - 1) s)[k]? with
  | none => rw [hd] at hx; cases hx
  | some y =>
    rw [hd] at hx
    have hxy : y.data.toList = x := Option.some.inj hx
    have hk : k < (Lib.splitB ⟨#[32]⟩ 0 (min 3 (s.size + 1) - 1) s).length := (List.getElem?_eq_some_iff.1 hd).1
    rw [← hxy, ← sv_of, (Bk.new w 9 _).cell, ← Array.getElem?_toList]
    show ((Lib.splitB ⟨#[32]⟩ 0 (min 3 (s.size + 1) - 1) s).map Value.string ++ _)[k]? = _
    rw [List.getElem?_append_left (by rw [List.length_map]; exact hk), List.getElem?_map, hd]
    rfl

set_option maxRecDepth 100000 in
set_option maxHeartbeats 4000000 in
theorem partsOf_ok (s : ByteArray) (w : World) (hl : LaidG w) (hs : s.size ≤ 1000000) (a b c : List UInt8) (m : List (List UInt8)) (hps : pcs 32 s.data.toList = a :: b :: c :: m) (X Y Z : ByteArray) (hX : (⟨a.toArray⟩ : ByteArray) = X) (hY : (⟨b.toArray⟩ : ByteArray) = Y) (hZ : (⟨(Lib.join (c :: m) [32]).toArray⟩ : ByteArray) = Z) :
    Calls Tryz.prog 90 #[.string s] w fun e w' => e = .returned (.tuple #[.agg #[.string X, .string Y, .string Z], .bool true]) ∧ Below w.heap.size w w' := by
  obtain ⟨w1, hw1⟩ : ∃ W, w.alloc (.cells #[.string ⟨#[]⟩, .string ⟨#[]⟩, .string ⟨#[]⟩] 130) = W := ⟨_, rfl⟩
  have HB1 : Hid (Below w.heap.size w w1) := by show Below _ _ _; rw [← hw1]; exact (Below.refl _ _).alloc (Nat.le_refl _) _
  have K1 : Hid (Bk w1 w.heap.size 130 #[.string ⟨#[]⟩, .string ⟨#[]⟩, .string ⟨#[]⟩]) := by show Bk _ _ _ _; rw [← hw1]; exact Bk.new _ _ _
  have C := splitN_form s w1 (hl.later HB1.out) hs
  rw [hps, show p3 (a :: b :: c :: m) = [a, b, Lib.join (c :: m) [32]] from rfl] at C
  have CC := Lib.hid C
  have HW1 := Lib.hid hw1
  have HX := Lib.hid hX
  have HY := Lib.hid hY
  have HZ := Lib.hid hZ
  clear C hps hl hw1 hX hY hZ
  go_enter Tryz.func90, Tryz.ntmps90
  go_upto_region 1 with fail
  rw [show w.alloc (.cells #[.string ⟨#[]⟩, .string ⟨#[]⟩, .string ⟨#[]⟩] 130) = w1 from HW1.out]
  go_wp2_with fail
  refine CC.out.mono ?_
  rintro e w2 ⟨⟨cp, rfl, hc⟩, hg, hb⟩
  have c0 : w2.cell? ⟨w1.heap.size, 0, none⟩ = some (.string X) := by rw [hc 0 a rfl, ← HX.out]; rfl
  have c1 : w2.cell? ⟨w1.heap.size, 1, none⟩ = some (.string Y) := by rw [hc 1 b rfl, ← HY.out]; rfl
  have c2 : w2.cell? ⟨w1.heap.size, 2, none⟩ = some (.string Z) := by rw [hc 2 _ rfl, ← HZ.out]; rfl
  have K2 := K1.out.later hb
  have r0 : w2.cell? ⟨w.heap.size, 0, none⟩ = some (.string ⟨#[]⟩) := by rw [K2.cell]; rfl
  have r1 : w2.cell? ⟨w.heap.size, 1, none⟩ = some (.string ⟨#[]⟩) := by rw [K2.cell]; rfl
  have r2 : w2.cell? ⟨w.heap.size, 2, none⟩ = some (.string ⟨#[]⟩) := by rw [K2.cell]; rfl
  have f0 : w2.frozen? ⟨w.heap.size, 0, none⟩ = false := K2.frozen 0
  have f1 : w2.frozen? ⟨w.heap.size, 1, none⟩ = false := K2.frozen 1
  have f2 : w2.frozen? ⟨w.heap.size, 2, none⟩ = false := K2.frozen 2
  have HB2 : Hid (Below w.heap.size w w2) := HB1.out.trans (hb.mono HB1.out.size)
  clear hc hb hg K2 CC
  have hAt : Sem.run Tryz.prog (Instr.arrayAt 130 (.slice (some ⟨w1.heap.size, 0, none⟩) 3 cp)) w2 = .ok (.pointer (some ⟨w1.heap.size, 0, none⟩)) w2 := by
    simp [Instr.arrayAt, go_sem, Tryz.underlying130]
  go_wp2
  refine bodyPost_ret (v := .tuple #[.agg #[.string X, .string Y, .string Z], .bool true]) (by simp [results, Tryz.results90, go_sem, r0, r1, r2, f0, f1, f2]) rfl ?_
  refine ⟨rfl, ?_⟩
  exact ((HB2.out.setCell (Nat.le_refl _) _).setCell (Nat.le_refl _) _).setCell (Nat.le_refl _) _
end Go.Proofs.YtjjflbnopphciacGreatDoor

