import Derived.Test.YtkemoffagdilgaaGreatDoorSB6
namespace Go.Proofs.YtkemoffagdilgaaGreatDoor
open Go.RowKit

theorem intInf : (Tryz.prog.info? 3).map (fun i => (i.zero, i.size, i.bytes)) = some (some (.int .i64 0), 1, 8) := by kernel_rfl

theorem rdI_own {w : World} {base c : Nat} {A : Option Addr} {f : Nat → Int} (h : w.ownsRow base 3 1 (.slice A 11 c) 11 ((intsB f).map (Value.int .i64))) : RdI w A 11 (intsB f) := by
  refine ⟨rfl, fun h0 => ?_⟩
  obtain ⟨g, cp, e, _, hg, hc⟩ := own_str h rfl (by omega)
  simp only [Value.slice.injEq] at e
  obtain ⟨rfl, _, _⟩ := e
  refine ⟨⟨g, 0, none⟩, rfl, hg, fun j hj => ?_⟩
  have e0 : (⟨g, 0, none⟩ : Addr).add j = ⟨g, 0 + j, none⟩ := by unfold Addr.add; split <;> simp_all
  rw [e0, Nat.zero_add]
  refine hc j _ ?_
  rw [List.getElem?_map, List.getD_eq_getElem?_getD, List.getElem?_eq_getElem (show j < (intsB f).length from hj)]
  rfl

set_option maxRecDepth 100000 in
set_option maxHeartbeats 8000000 in
theorem refFmtB_any (f : Nat → Int) (w : World) (hf : ∀ i, -9223372036854775808 ≤ f i ∧ f i ≤ 9223372036854775807) :
    Calls Tryz.prog 8 #[.agg (bRow f)] w fun e w' => e = .returned (.string (⟨(joinP (intsB f)).toArray⟩ : ByteArray)) ∧ Below w.heap.size w w' := by
  obtain ⟨i0, hi0, hz0, hz1, hz2⟩ := info_parts intInf
  obtain ⟨w1, hw1⟩ : ∃ W, w.alloc (.cells (bRow f) 24) = W := ⟨_, rfl⟩
  have B1 : Hid (Below w.heap.size w w1) := by show Below _ _ _; rw [← hw1]; exact (Below.refl _ _).alloc (Nat.le_refl _) _
  have K1 : Hid (Bk w1 w.heap.size 24 (bRow f)) := by show Bk _ _ _ _; rw [← hw1]; exact Bk.new _ _ _
  have HW1 := Lib.hid hw1
  have hs1 : w1.heap.size = w.heap.size + 1 := by rw [← hw1]; simp
  have HI64 : Hid (I64 (intsB f)) := by
    intro y hy
    simp only [intsB, List.mem_cons, List.not_mem_nil, or_false] at hy
    rcases hy with rfl | rfl | rfl | rfl | rfl | rfl | rfl | rfl | rfl | rfl | rfl <;> exact hf _
  have r0 : w1.cell? ⟨w.heap.size, 0, none⟩ = some (.int .i64 (f 0)) := by rw [K1.out.cell]; rfl
  have r1 : w1.cell? ⟨w.heap.size, 1, none⟩ = some (.int .i64 (f 1)) := by rw [K1.out.cell]; rfl
  have r10 : w1.cell? ⟨w.heap.size, 10, none⟩ = some (.int .i64 (f 10)) := by rw [K1.out.cell]; rfl
  have hl1 : w.heap.size < w1.heap.size := by omega
  obtain ⟨R, hR⟩ : ∃ R, (⟨(joinP (intsB f)).toArray⟩ : ByteArray) = R := ⟨_, rfl⟩
  have HRR := Lib.hid hR
  rw [hR]
  have HS1 := Lib.hid hs1
  clear hf hw1 hR hs1
  have OWN0 : Hid (∀ W : World, w.heap.size + 1 ≤ W.heap.size → (W.alloc (.cells #[.int .i64 (f 0), .int .i64 (f 1)] 3)).ownsRow (w.heap.size + 1) 3 1 (.slice (some ⟨W.heap.size, 0, none⟩) 2 2) 2 [.int .i64 (f 0), .int .i64 (f 1)]) := fun W hW => World.ownsRow_lit W #[.int .i64 (f 0), .int .i64 (f 1)] 2 hW (by unfold maxLen; omega) rfl
  go_enter Tryz.func8, Tryz.ntmps8
  go_wp2_with fail
  rw [show w.alloc (.cells #[.int .i64 (f 0), .int .i64 (f 1), .int .i64 (f 2), .int .i64 (f 3), .int .i64 (f 4), .int .i64 (f 5), .int .i64 (f 6), .int .i64 (f 7), .int .i64 (f 8), .int .i64 (f 9), .int .i64 (f 10)] 24) = w1 from HW1.out]
  have hle : w.heap.size + 1 ≤ w1.heap.size := by have := HS1.out; omega
  have NEWS : Hid (∀ X : World, Below (w.heap.size + 1) w1 X → ∀ (j : Nat) (u : Value), ([.int .i64 (f 2), .int .i64 (f 3), .int .i64 (f 4), .int .i64 (f 5), .int .i64 (f 6), .int .i64 (f 7), .int .i64 (f 8), .int .i64 (f 9)] : List Value)[j]? = some u → X.cell? ((⟨w.heap.size, 2, none⟩ : Addr).add j) = some u) := by
    intro X hX j u hu
    have hj : j < 8 := (List.getElem?_eq_some_iff.1 hu).1
    have hadd : (⟨w.heap.size, 2, none⟩ : Addr).add j = ⟨w.heap.size, 2 + j, none⟩ := by unfold Addr.add; split <;> simp_all
    rw [hadd, (K1.out.below hX (by omega)).cell]
    rcases (show j = 0 ∨ j = 1 ∨ j = 2 ∨ j = 3 ∨ j = 4 ∨ j = 5 ∨ j = 6 ∨ j = 7 by omega) with rfl | rfl | rfl | rfl | rfl | rfl | rfl | rfl <;> exact hu
  have KEEP : Hid (∀ X : World, Below (w.heap.size + 1) w1 X → X.cell? ⟨w.heap.size, 0, none⟩ = some (.int .i64 (f 0)) ∧ X.cell? ⟨w.heap.size, 1, none⟩ = some (.int .i64 (f 1)) ∧ X.cell? ⟨w.heap.size, 10, none⟩ = some (.int .i64 (f 10)) ∧ w.heap.size < X.heap.size) := by
    intro X hX
    have K := K1.out.below hX (by omega)
    exact ⟨by rw [K.cell]; rfl, by rw [K.cell]; rfl, by rw [K.cell]; rfl, K.lt⟩
  have NB : Hid (∀ (X : World) (b : Nat), X.cell? ⟨b, 0, none⟩ = some (.int .i64 (f 10)) → ∀ (j : Nat) (u : Value), ([.int .i64 (f 10)] : List Value)[j]? = some u → X.cell? ((⟨b, 0, none⟩ : Addr).add j) = some u) := by
    intro X b hb j u hu
    cases j with
    | zero =>
      have e : Value.int .i64 (f 10) = u := by simpa using hu
      subst e
      have e0 : (⟨b, 0, none⟩ : Addr).add 0 = ⟨b, 0, none⟩ := rfl
      rw [e0]
      exact hb
    | succ j => simp at hu
  go_region_held3 (fun W => Below (w.heap.size + 1) w1 W ∧ W.cell? ⟨w.heap.size, 0, none⟩ = some (.int .i64 (f 0)) ∧ W.cell? ⟨w.heap.size, 1, none⟩ = some (.int .i64 (f 1)) ∧ W.cell? ⟨w.heap.size, 10, none⟩ = some (.int .i64 (f 10)) ∧ w.heap.size < W.heap.size)
    ((refine (fun h => ⟨h, KEEP.out _ h⟩) ?_; first
      | assumption | exact (Below.refl _ _).drew
      | (refine Below.drew ?_; exact Below.alloc (Below.refl _ _) hle _)
      | (refine Below.drew ?_; exact Below.alloc (Below.alloc (Below.refl _ _) hle _) (by simp; omega) _)
      | (refine Below.alloc ?_ ?_ _ <;> (go_split_ands; assumption))))
    ((first
      | (go_split_ands
         refine step_if (by rfl) ?_
         refine wp_append_own _ (.tmp 7) (.tmp 9) 40 rfl (w.heap.size + 1) 3 i0 _ 1 8 Tryz.underlying40 hi0 hz0 hz1 hz2 rfl (by decide) _ 2 [.int .i64 (f 0), .int .i64 (f 1)] (by rfl) ?_ ⟨w.heap.size, 2, none⟩ 8 8 [.int .i64 (f 2), .int .i64 (f 3), .int .i64 (f 4), .int .i64 (f 5), .int .i64 (f 6), .int .i64 (f 7), .int .i64 (f 8), .int .i64 (f 9)] (by rfl) rfl (NEWS.out _ ?_) (by simp [Value.oneCell']) (by unfold maxLen; omega) (by omega) ?_ ?_
         · exact OWN0.out w1 hle
         · assumption
         · simp; omega
         intro v' w' hown' hgrow _
         have hbb : Below (w.heap.size + 1) w1 w' := Below.grown (by assumption) hgrow (by simp; omega) (fun z e => by cases e; first | exact hle | (simp; omega)))
      | (go_split_ands
         refine step_if (by rfl) ?_
         refine wp_append_own _ (.tmp 7) (.tmp 9) 40 rfl (w.heap.size + 1) 3 i0 _ 1 8 Tryz.underlying40 hi0 hz0 hz1 hz2 rfl (by decide) _ 2 [.int .i64 (f 0), .int .i64 (f 1)] (by rfl) ?_ ⟨w.heap.size, 2, none⟩ 8 8 [.int .i64 (f 2), .int .i64 (f 3), .int .i64 (f 4), .int .i64 (f 5), .int .i64 (f 6), .int .i64 (f 7), .int .i64 (f 8), .int .i64 (f 9)] (by rfl) rfl (NEWS.out _ ?_) (by simp [Value.oneCell']) (by unfold maxLen; omega) (by omega) ?_ ?_
         · exact (OWN0.out w1 hle).alloc _
         · assumption
         · simp; omega
         intro v' w' hown' hgrow _
         have hbb : Below (w.heap.size + 1) w1 w' := Below.grown (by assumption) hgrow (by simp; omega) (fun z e => by cases e; first | exact hle | (simp; omega))
         have hB : w'.cell? ⟨w1.heap.size + 1, 0, none⟩ = some (.int .i64 (f 10)) := (World.cell?_of_block (hgrow.block _ (by first | (simp; done) | (simp; omega)) (fun e => by have := Option.some.inj (show some _ = some _ from e); simp at this))).trans (by simp [go_sem]))
      | (go_split_ands
         refine step_if (by rfl) ?_
         refine wp_append_own _ (.tmp 7) (.tmp 9) 40 rfl (w.heap.size + 1) 3 i0 _ 1 8 Tryz.underlying40 hi0 hz0 hz1 hz2 rfl (by decide) _ 2 [.int .i64 (f 0), .int .i64 (f 1)] (by rfl) ?_ ⟨w.heap.size, 2, none⟩ 8 8 [.int .i64 (f 2), .int .i64 (f 3), .int .i64 (f 4), .int .i64 (f 5), .int .i64 (f 6), .int .i64 (f 7), .int .i64 (f 8), .int .i64 (f 9)] (by rfl) rfl (NEWS.out _ ?_) (by simp [Value.oneCell']) (by unfold maxLen; omega) (by omega) ?_ ?_
         · have h := OWN0.out (w1.alloc (.cells #[.int .i64 (f 10)] 3)) (by simp; omega)
           rw [show (w1.alloc (.cells #[.int .i64 (f 10)] 3)).heap.size = w1.heap.size + 1 by simp] at h
           exact h
         · assumption
         · simp; omega
         intro v' w' hown' hgrow _
         have hbb : Below (w.heap.size + 1) w1 w' := Below.grown (by assumption) hgrow (by simp; omega) (fun z e => by cases e; first | exact hle | (simp; omega))
         have hB : w'.cell? ⟨w1.heap.size, 0, none⟩ = some (.int .i64 (f 10)) := (World.cell?_of_block (hgrow.block _ (by first | (simp; done) | (simp; omega)) (fun e => by have := Option.some.inj (show some _ = some _ from e); simp at this))).trans (by simp [go_sem]))
      | (go_split_ands
         refine step_if (by rfl) ?_
         refine wp_append_own _ (.tmp 10) (.tmp 13) 40 rfl (w.heap.size + 1) 3 i0 _ 1 8 Tryz.underlying40 hi0 hz0 hz1 hz2 rfl (by decide) _ 10 ([.int .i64 (f 0), .int .i64 (f 1)] ++ [.int .i64 (f 2), .int .i64 (f 3), .int .i64 (f 4), .int .i64 (f 5), .int .i64 (f 6), .int .i64 (f 7), .int .i64 (f 8), .int .i64 (f 9)]) (by rfl) ?_ ⟨w'.heap.size, 0, none⟩ 1 1 [.int .i64 (f 10)] (by rfl) rfl (NB.out _ _ ?_) (by simp [Value.oneCell']) (by unfold maxLen; omega) (by omega) ?_ ?_
         · exact hown'.alloc _
         · (simp [go_sem]; done)
         · (have := hbb.size; simp; omega)
         intro v2 w2 hown2 hgrow2 _
         have hbb2 : Below (w.heap.size + 1) w1 w2 := Below.grown (by assumption) hgrow2 (by have := hbb.size; simp; omega) (fun z e => (hown'.lt z e).1))
      | (go_split_ands
         refine step_if (by rfl) ?_
         refine wp_append_own _ (.tmp 10) (.tmp 13) 40 rfl (w.heap.size + 1) 3 i0 _ 1 8 Tryz.underlying40 hi0 hz0 hz1 hz2 rfl (by decide) _ 10 ([.int .i64 (f 0), .int .i64 (f 1)] ++ [.int .i64 (f 2), .int .i64 (f 3), .int .i64 (f 4), .int .i64 (f 5), .int .i64 (f 6), .int .i64 (f 7), .int .i64 (f 8), .int .i64 (f 9)]) (by rfl) ?_ ⟨w1.heap.size + 1, 0, none⟩ 1 1 [.int .i64 (f 10)] (by rfl) rfl (NB.out _ _ ?_) (by simp [Value.oneCell']) (by unfold maxLen; omega) (by omega) ?_ ?_
         · exact hown'
         · exact hB
         · (have := hbb.size; simp; omega)
         intro v2 w2 hown2 hgrow2 _
         have hbb2 : Below (w.heap.size + 1) w1 w2 := Below.grown (by assumption) hgrow2 (by have := hbb.size; simp; omega) (fun z e => (hown'.lt z e).1))
      | (go_split_ands
         refine step_if (by rfl) ?_
         refine wp_append_own _ (.tmp 10) (.tmp 13) 40 rfl (w.heap.size + 1) 3 i0 _ 1 8 Tryz.underlying40 hi0 hz0 hz1 hz2 rfl (by decide) _ 10 ([.int .i64 (f 0), .int .i64 (f 1)] ++ [.int .i64 (f 2), .int .i64 (f 3), .int .i64 (f 4), .int .i64 (f 5), .int .i64 (f 6), .int .i64 (f 7), .int .i64 (f 8), .int .i64 (f 9)]) (by rfl) ?_ ⟨w1.heap.size, 0, none⟩ 1 1 [.int .i64 (f 10)] (by rfl) rfl (NB.out _ _ ?_) (by simp [Value.oneCell']) (by unfold maxLen; omega) (by omega) ?_ ?_
         · exact hown'
         · exact hB
         · (have := hbb.size; simp; omega)
         intro v2 w2 hown2 hgrow2 _
         have hbb2 : Below (w.heap.size + 1) w1 w2 := Below.grown (by assumption) hgrow2 (by have := hbb.size; simp; omega) (fun z e => (hown'.lt z e).1))
      | (go_at_call 23
         obtain ⟨A2, c2, rfl, _⟩ := own_formT hown2
         refine (join_any A2 11 c2 (intsB f) _ (rdI_own hown2) (by omega) HI64.out rfl).mono ?_
         rintro e w3 ⟨rfl, hb3⟩
         have hbb3 : Below (w.heap.size + 1) w1 w3 := hbb2.trans (hb3.mono (by have := hbb2.size; omega)))))
  all_goals
    go_wp2
    go_ret
    exact ⟨by rw [← HRR.out]; rfl, B1.out.trans (hbb3.mono (by omega))⟩

end Go.Proofs.YtkemoffagdilgaaGreatDoor
