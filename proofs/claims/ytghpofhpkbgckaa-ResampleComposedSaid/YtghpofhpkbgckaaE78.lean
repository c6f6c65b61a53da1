import Derived.Deep.DeepCutAuto
import Derived.Test.YtghpofhpkbgckaaQ11

namespace Go.Proofs.Ytghpofhpkbgckaa
open Go.RowKit

set_option maxRecDepth 100000 in
set_option maxHeartbeats 4000000 in
theorem cpw_L (A : Option Addr) (n c : Nat) (b : Int) (b2 : Int) (cs : List Int) (B : Option Addr) (m d : Nat) (ds : List Int) (X : Option Addr) (k e : Nat) (xs : List Int) (w : World) (hr : RdI w A n cs) (hr2 : RdI w B m ds) (hx : RdI w X k xs) (hn : n ≤ 10) (hm : m ≤ 10) (hk : k ≤ 20) (hA : A = none → n = 0 ∧ c = 0) (hB : B = none → m = 0 ∧ d = 0) (hX : X = none → k = 0 ∧ e = 0)
    (CCo : ∀ A' c' B' d' W, RdI W A' n cs → RdI W B' m ds → Calls Try.prog 43 #[.agg #[.slice A' n c', .int .i64 b], .agg #[.slice B' m d', .int .i64 b2]] W (CpR W (8) (0) 0 ([] : List Int)))
    (CFe1 : ∀ W, RdI W A n cs → Calls Try.prog 30 #[.agg #[.slice A n c, .int .i64 b]] W fun e w' => e = .returned (.int .i64 0) ∧ Below W.heap.size W w')
    (CFe2 : ∀ W, RdI W B m ds → Calls Try.prog 30 #[.agg #[.slice B m d, .int .i64 b2]] W fun e w' => e = .returned (.int .i64 0) ∧ Below W.heap.size W w')
    (CRC : ∀ W, RdI W A n cs → RdI W B m ds → Calls Try.prog 44 #[.agg #[.slice A n c, .int .i64 b], .agg #[.slice B m d, .int .i64 b2]] W (CpR W (8) (0) 0 ([] : List Int)))
    : Calls Try.prog 7 #[.agg #[.slice A n c, .int .i64 b], .agg #[.slice B m d, .int .i64 b2], .slice X k e] w fun e w' => e = .returned (.bool true) ∧ Below w.heap.size w w' := by
  have HR1 : Hid (∀ W, TwoB w #[.slice A n c, .int .i64 b] #[.slice B m d, .int .i64 b2] W → RdI W A n cs) := fun W h => hr.below h.b
  have HR2 : Hid (∀ W, TwoB w #[.slice A n c, .int .i64 b] #[.slice B m d, .int .i64 b2] W → RdI W B m ds) := fun W h => hr2.below h.b
  have HXU : Hid (∀ W, TwoB w #[.slice A n c, .int .i64 b] #[.slice B m d, .int .i64 b2] W → RdI W X k xs) := fun W h => hx.below h.b
  have CCF1 : Hid (∀ W, TwoB w #[.slice A n c, .int .i64 b] #[.slice B m d, .int .i64 b2] W → Calls Try.prog 29 #[.agg #[.slice A n c, .int .i64 b]] W (CpF W n b cs)) := fun W h => copyFilter_any A n c b cs W hA (hr.below h.b) (by omega)
  have CCF2 : Hid (∀ W, TwoB w #[.slice A n c, .int .i64 b] #[.slice B m d, .int .i64 b2] W → Calls Try.prog 29 #[.agg #[.slice B m d, .int .i64 b2]] W (CpF W m b2 ds)) := fun W h => copyFilter_any B m d b2 ds W hB (hr2.below h.b) (by omega)
  have CCX : Hid (∀ W, TwoB w #[.slice A n c, .int .i64 b] #[.slice B m d, .int .i64 b2] W → Calls Try.prog 18 #[.slice X k e] W (RdOne W k xs)) := fun W h => (copyInts_any X k e xs W hX (hx.below h.b) (by omega)).mono fun e w' ho => ho.rd hx.1
  have CT1 := Lib.hid (fun W => taps_any A n c b W)
  have CT2 := Lib.hid (fun W => taps_any B m d b2 W)
  rw [decide_eq_true hn] at CT1
  rw [decide_eq_true hm] at CT2
  have hk2 : ¬ (20 : Int) < (k : Int) := by omega
  have CCo := Lib.hid CCo
  have CFe1 := Lib.hid CFe1
  have CFe2 := Lib.hid CFe2
  have CRC := Lib.hid CRC
  have T0 : Hid (TwoB w #[.slice A n c, .int .i64 b] #[.slice B m d, .int .i64 b2] ((w.alloc (.cells #[.slice A n c, .int .i64 b] 45)).alloc (.cells #[.slice B m d, .int .i64 b2] 45))) := Lib.hid ⟨(Bk.new _ _ _).alloc _, by simpa using Bk.new (w.alloc (.cells #[.slice A n c, .int .i64 b] 45)) 45 #[.slice B m d, .int .i64 b2], below2 _ _ _⟩
  clear hr hr2 hx hA hB hX
  go_enter Try.func7, Try.ntmps7
  go_wp2_with fail
  refine (awake_any _).mono ?_
  rintro e w1 ⟨rfl, hb⟩
  have T1 := Lib.hid (TwoB.later hb T0.out)
  clear T0 hb
  obtain ⟨⟨d0, d1⟩, e0, e1⟩ := T1.out.four
  go_wp2_with fail
  refine (CT1.out _).mono ?_
  rintro e w2 ⟨rfl, hb⟩
  have T2 := Lib.hid (TwoB.later hb T1.out)
  clear T1 hb
  clear d0 d1 e0 e1
  obtain ⟨⟨d0, d1⟩, e0, e1⟩ := T2.out.four
  go_wp2_with fail
  refine (CT2.out _).mono ?_
  rintro e w3 ⟨rfl, hb⟩
  have T3 := Lib.hid (TwoB.later hb T2.out)
  clear T2 hb
  clear d0 d1 e0 e1
  obtain ⟨⟨d0, d1⟩, e0, e1⟩ := T3.out.four
  go_upto_region 5 with fail
  go_cut [7, 8] (fun s7 s8 wx => ∃ (h7 : Nat) (Ah : Option Addr) (ch : Nat), s7 = .pointer (some ⟨h7, 0, none⟩) ∧ s8 = .int .i64 8 ∧ w.heap.size + 1 < h7 ∧ Hid (Bk wx h7 45 #[.slice Ah 0 ch, .int .i64 0]) ∧ Hid (TwoB w #[.slice A n c, .int .i64 b] #[.slice B m d, .int .i64 b2] wx) ∧ Hid (RdI wx Ah 0 ([] : List Int)) ∧ Hid (Ah = none → 0 = 0 ∧ ch = 0))
  case first =>
    refine wp_region_held_drew (S := (fun w' : World => (w'.cell? ⟨w.heap.size, 0, none⟩ = some (.slice A n c) ∧ w'.cell? ⟨w.heap.size, 1, none⟩ = some (.int .i64 b)) ∧ w'.cell? ⟨w.heap.size + 1, 0, none⟩ = some (.slice B m d) ∧ w'.cell? ⟨w.heap.size + 1, 1, none⟩ = some (.int .i64 b2))) (by kernel_rfl) ?_ ?_
    · exact (T3.out.drew).four
    intro hHeld
    have TD : Hid (TwoB w #[.slice A n c, .int .i64 b] #[.slice B m d, .int .i64 b2] w3.drew) := Lib.hid T3.out.drew
    refine wpAnyH_take (i := 0) (v := ?_) rfl (by kernel_rfl) (by kernel_rfl) (by kernel_rfl) (fun _ _ _ h => h) (Or.inl ⟨by rfl, ?_⟩) (by assumption) ?_
    rotate_left
    · intro w hSw; (try dsimp only at hSw); go_simp; (try (with_reducible rfl))
    try simp only [List.getElem_toArray, List.getElem_cons_succ, List.getElem_cons_zero, Act.put, List.setIfInBounds_toArray, List.set_cons_zero, List.set_cons_succ]
    refine wpAnyH_take (i := 2) (v := ?_) rfl (by kernel_rfl) (by kernel_rfl) (by kernel_rfl) (fun _ _ _ h => h) (Or.inl ⟨by rfl, ?_⟩) (by assumption) ?_
    rotate_left
    · intro w hSw; (try dsimp only at hSw); go_simp; (try (with_reducible rfl))
    try simp only [List.getElem_toArray, List.getElem_cons_succ, List.getElem_cons_zero, Act.put, List.setIfInBounds_toArray, List.set_cons_zero, List.set_cons_succ]
    refine wpAnyH_ready (rs := [1, 8]) (by kernel_rfl) (by simp) ?_
    refine AllReadyH.cons rfl (fun K hK => ?_) (AllReadyH.cons rfl (fun K hK => ?_) AllReadyH.nil)
    · go_simp
      go_at_call 29
      refine (CCF1.out _ (TD).out).mono ?_
      rintro e wz1 ⟨⟨Aq, cq, rfl, hq, hcq, hNq⟩, hb⟩
      have T1 : Hid (TwoB w #[.slice A n c, .int .i64 b] #[.slice B m d, .int .i64 b2] wz1) := Lib.hid (TwoB.later hb (TD).out)
      have Rq1 := Lib.hid hq
      clear hq hcq hNq
      clear hb
      go_wp2_with fail
      refine hK.out _ _ ?_ (fun hHeld => ?_)
      · clear hK K; exact T1.out.four
      clear hK K
      try simp only [List.getElem_toArray, List.getElem_cons_succ, List.getElem_cons_zero, Act.put, List.setIfInBounds_toArray, List.set_cons_zero, List.set_cons_succ]
      refine wpAnyH_ready (rs := [3, 8]) (by kernel_rfl) (by simp) ?_
      refine AllReadyH.cons rfl (fun K hK => ?_) (AllReadyH.cons rfl (fun K hK => ?_) AllReadyH.nil)
      · go_simp
        go_at_call 29
        refine (CCF2.out _ (T1).out).mono ?_
        rintro e wz2 ⟨⟨Ap, cp, rfl, hp, hcp, hNp⟩, hb⟩
        have T2 : Hid (TwoB w #[.slice A n c, .int .i64 b] #[.slice B m d, .int .i64 b2] wz2) := Lib.hid (TwoB.later hb (T1).out)
        have Rq2 : Hid (RdI wz2 Aq n cs) := Lib.hid (Rq1.out.below hb)
        have Rp2 := Lib.hid hp
        clear hp hcp hNp
        clear hb
        go_wp2_with fail
        refine hK.out _ _ ?_ (fun hHeld => ?_)
        · clear hK K; exact T2.out.four
        clear hK K
        try simp only [List.getElem_toArray, List.getElem_cons_succ, List.getElem_cons_zero, Act.put, List.setIfInBounds_toArray, List.set_cons_zero, List.set_cons_succ]
        refine wpAnyH_ready (rs := [4, 8]) (by kernel_rfl) (by simp) ?_
        refine AllReadyH.cons rfl (fun K hK => ?_) (AllReadyH.cons rfl (fun K hK => ?_) AllReadyH.nil)
        · go_simp
          go_at_call 43
          refine (CCo.out _ _ _ _ _ (Rq2).out (Rp2).out).mono ?_
          rintro e wz3 ⟨⟨Ah, ch, rfl, hh, hNh, hFh⟩, hb⟩
          have T3 : Hid (TwoB w #[.slice A n c, .int .i64 b] #[.slice B m d, .int .i64 b2] wz3) := Lib.hid (TwoB.later hb (T2).out)
          have Rh3 := Lib.hid hh
          have NH := Lib.hid hNh
          have NF := Lib.hid hFh
          clear hh hNh hFh
          clear hb
          go_wp2_with fail
          refine hK.out _ _ ?_ (fun hHeld => ?_)
          · clear hK K; exact T3.out.four
          clear hK K
          try simp only [List.getElem_toArray, List.getElem_cons_succ, List.getElem_cons_zero, Act.put, List.setIfInBounds_toArray, List.set_cons_zero, List.set_cons_succ]
          refine wpAnyH_take (i := 5) (v := ?_) rfl (by kernel_rfl) (by kernel_rfl) (by kernel_rfl) (fun _ _ _ h => h) (Or.inl ⟨by rfl, ?_⟩) (by assumption) ?_
          rotate_left
          · intro w hSw; (try dsimp only at hSw); go_simp; (try (with_reducible rfl))
          try simp only [List.getElem_toArray, List.getElem_cons_succ, List.getElem_cons_zero, Act.put, List.setIfInBounds_toArray, List.set_cons_zero, List.set_cons_succ]
          refine wpAnyH_take (i := 6) (v := ?_) rfl (by kernel_rfl) (by kernel_rfl) (by kernel_rfl) (fun _ _ _ h => h) (Or.inl ⟨by rfl, ?_⟩) (by assumption) ?_
          rotate_left
          · intro w hSw; (try dsimp only at hSw); go_simp; (try (with_reducible rfl))
          try simp only [List.getElem_toArray, List.getElem_cons_succ, List.getElem_cons_zero, Act.put, List.setIfInBounds_toArray, List.set_cons_zero, List.set_cons_succ]
          refine wpAnyH_take (i := 7) (v := ?_) rfl (by kernel_rfl) (by kernel_rfl) (by kernel_rfl) (fun _ _ _ h => h) (Or.inl ⟨by rfl, ?_⟩) (by assumption) ?_
          rotate_left
          · intro w hSw; (try dsimp only at hSw); go_simp; (try (with_reducible rfl))
          try simp only [List.getElem_toArray, List.getElem_cons_succ, List.getElem_cons_zero, Act.put, List.setIfInBounds_toArray, List.set_cons_zero, List.set_cons_succ]
          refine wpAnyH_ready (rs := [8]) (by kernel_rfl) (by simp) ?_
          refine AllReadyH.cons rfl (fun K hK => ?_) AllReadyH.nil
          go_simp
          have T4 : Hid (TwoB w #[.slice A n c, .int .i64 b] #[.slice B m d, .int .i64 b2] (wz3.alloc (.cells #[.slice none 0 0, .int .i64 0] 45))) := Lib.hid ((T3).out.alloc (.cells #[.slice none 0 0, .int .i64 0] 45))
          have k7_4 : Hid (Bk (wz3.alloc (.cells #[.slice none 0 0, .int .i64 0] 45)) (wz3.heap.size) 45 #[.slice none 0 0, .int .i64 0]) := Lib.hid (Bk.new wz3 45 #[.slice none 0 0, .int .i64 0])
          have g7_4 : w.heap.size + 1 < wz3.heap.size := (T3).out.k2.lt
          have Rh4 : Hid (RdI (wz3.alloc (.cells #[.slice none 0 0, .int .i64 0] 45)) Ah 0 ([] : List Int)) := Lib.hid (Rh3.out.allocX (.cells #[.slice none 0 0, .int .i64 0] 45))
          refine hK.out _ _ ?_ (fun hHeld => ?_)
          · clear hK K; exact T4.out.four
          clear hK K
          try simp only [List.getElem_toArray, List.getElem_cons_succ, List.getElem_cons_zero, Act.put, List.setIfInBounds_toArray, List.set_cons_zero, List.set_cons_succ]
          obtain ⟨c70, c71, f70, f71⟩ := cell2' k7_4.out
          refine wpAnyH_ready (rs := [9]) (by kernel_rfl) (by simp) ?_
          refine AllReadyH.cons rfl (fun K hK => ?_) AllReadyH.nil
          go_simp
          refine hK.out _ _ ?_ (fun hHeld => ?_)
          · clear hK K; first | exact (((T4).out.far ⟨wz3.heap.size, 0, none⟩ g7_4 _).far ⟨wz3.heap.size, 1, none⟩ g7_4 _).four | exact ((T3).out.alloc _).four
          clear hK K
          try simp only [List.getElem_toArray, List.getElem_cons_succ, List.getElem_cons_zero, Act.put, List.setIfInBounds_toArray, List.set_cons_zero, List.set_cons_succ]
          refine wpAnyH_take (i := 10) (v := ?_) rfl (by kernel_rfl) (by kernel_rfl) (by kernel_rfl) (fun _ _ _ h => h) (Or.inl ⟨by rfl, ?_⟩) (by assumption) ?_
          rotate_left
          · intro w hSw; (try dsimp only at hSw); go_simp; (try (with_reducible rfl))
          try simp only [List.getElem_toArray, List.getElem_cons_succ, List.getElem_cons_zero, Act.put, List.setIfInBounds_toArray, List.set_cons_zero, List.set_cons_succ]
          refine wpAnyH_done (by kernel_rfl) ?_ _
          go_wp2_with fail
          go_meet
          refine ⟨wz3.heap.size, Ah, ch, rfl, rfl, g7_4, Lib.hid ?_, Lib.hid ?_, Lib.hid ?_, NH⟩
          · first | exact ((k7_4).out.set_ 0 _).set_ 1 _ | exact Bk.new _ _ _
          · first | exact ((T4).out.far ⟨wz3.heap.size, 0, none⟩ g7_4 _).far ⟨wz3.heap.size, 1, none⟩ g7_4 _ | exact (T3).out.alloc _
          · first | exact rd_farB (rd_farB (Rh4).out ⟨wz3.heap.size, 0, none⟩ _ (fun a e _ => by have h1 := NF.out a e; have h2 := rfl; show a.block ≠ wz3.heap.size; omega)) ⟨wz3.heap.size, 1, none⟩ _ (fun a e _ => by have h1 := NF.out a e; have h2 := rfl; show a.block ≠ wz3.heap.size; omega) | exact (Rh3).out.allocX _
        · go_simp
          have T5 : Hid (TwoB w #[.slice A n c, .int .i64 b] #[.slice B m d, .int .i64 b2] (wz2.alloc (.cells #[.slice none 0 0, .int .i64 0] 45))) := Lib.hid ((T2).out.alloc (.cells #[.slice none 0 0, .int .i64 0] 45))
          have k7_5 : Hid (Bk (wz2.alloc (.cells #[.slice none 0 0, .int .i64 0] 45)) (wz2.heap.size) 45 #[.slice none 0 0, .int .i64 0]) := Lib.hid (Bk.new wz2 45 #[.slice none 0 0, .int .i64 0])
          have g7_5 : w.heap.size + 1 < wz2.heap.size := (T2).out.k2.lt
          have Rq5 : Hid (RdI (wz2.alloc (.cells #[.slice none 0 0, .int .i64 0] 45)) Aq n cs) := Lib.hid (Rq2.out.allocX (.cells #[.slice none 0 0, .int .i64 0] 45))
          have Rp5 : Hid (RdI (wz2.alloc (.cells #[.slice none 0 0, .int .i64 0] 45)) Ap m ds) := Lib.hid (Rp2.out.allocX (.cells #[.slice none 0 0, .int .i64 0] 45))
          refine hK.out _ _ ?_ (fun hHeld => ?_)
          · clear hK K; exact T5.out.four
          clear hK K
          try simp only [List.getElem_toArray, List.getElem_cons_succ, List.getElem_cons_zero, Act.put, List.setIfInBounds_toArray, List.set_cons_zero, List.set_cons_succ]
          refine wpAnyH_ready (rs := [4]) (by kernel_rfl) (by simp) ?_
          refine AllReadyH.cons rfl (fun K hK => ?_) AllReadyH.nil
          go_simp
          have GZ := k7_5.out.lt
          go_at_call 43
          refine (CCo.out _ _ _ _ _ (Rq5).out (Rp5).out).mono ?_
          rintro e wz6 ⟨⟨Ah, ch, rfl, hh, hNh, hFh⟩, hb⟩
          have T6 : Hid (TwoB w #[.slice A n c, .int .i64 b] #[.slice B m d, .int .i64 b2] wz6) := Lib.hid (TwoB.later hb (T5).out)
          have k7_6 : Hid (Bk wz6 (wz2.heap.size) 45 #[.slice none 0 0, .int .i64 0]) := Lib.hid (k7_5.out.later hb)
          have Rh6 := Lib.hid hh
          have NH := Lib.hid hNh
          have NF := Lib.hid hFh
          clear hh hNh hFh
          clear hb
          go_wp2_with fail
          refine hK.out _ _ ?_ (fun hHeld => ?_)
          · clear hK K; exact T6.out.four
          clear hK K
          try simp only [List.getElem_toArray, List.getElem_cons_succ, List.getElem_cons_zero, Act.put, List.setIfInBounds_toArray, List.set_cons_zero, List.set_cons_succ]
          refine wpAnyH_take (i := 5) (v := ?_) rfl (by kernel_rfl) (by kernel_rfl) (by kernel_rfl) (fun _ _ _ h => h) (Or.inl ⟨by rfl, ?_⟩) (by assumption) ?_
          rotate_left
          · intro w hSw; (try dsimp only at hSw); go_simp; (try (with_reducible rfl))
          try simp only [List.getElem_toArray, List.getElem_cons_succ, List.getElem_cons_zero, Act.put, List.setIfInBounds_toArray, List.set_cons_zero, List.set_cons_succ]
          refine wpAnyH_take (i := 6) (v := ?_) rfl (by kernel_rfl) (by kernel_rfl) (by kernel_rfl) (fun _ _ _ h => h) (Or.inl ⟨by rfl, ?_⟩) (by assumption) ?_
          rotate_left
          · intro w hSw; (try dsimp only at hSw); go_simp; (try (with_reducible rfl))
          try simp only [List.getElem_toArray, List.getElem_cons_succ, List.getElem_cons_zero, Act.put, List.setIfInBounds_toArray, List.set_cons_zero, List.set_cons_succ]
          refine wpAnyH_take (i := 7) (v := ?_) rfl (by kernel_rfl) (by kernel_rfl) (by kernel_rfl) (fun _ _ _ h => h) (Or.inl ⟨by rfl, ?_⟩) (by assumption) ?_
          rotate_left
          · intro w hSw; (try dsimp only at hSw); go_simp; (try (with_reducible rfl))
          try simp only [List.getElem_toArray, List.getElem_cons_succ, List.getElem_cons_zero, Act.put, List.setIfInBounds_toArray, List.set_cons_zero, List.set_cons_succ]
          obtain ⟨c70, c71, f70, f71⟩ := cell2' k7_6.out
          refine wpAnyH_ready (rs := [9]) (by kernel_rfl) (by simp) ?_
          refine AllReadyH.cons rfl (fun K hK => ?_) AllReadyH.nil
          go_simp
          refine hK.out _ _ ?_ (fun hHeld => ?_)
          · clear hK K; first | exact (((T6).out.far ⟨wz2.heap.size, 0, none⟩ g7_5 _).far ⟨wz2.heap.size, 1, none⟩ g7_5 _).four | exact ((T2).out.alloc _).four
          clear hK K
          try simp only [List.getElem_toArray, List.getElem_cons_succ, List.getElem_cons_zero, Act.put, List.setIfInBounds_toArray, List.set_cons_zero, List.set_cons_succ]
          refine wpAnyH_take (i := 10) (v := ?_) rfl (by kernel_rfl) (by kernel_rfl) (by kernel_rfl) (fun _ _ _ h => h) (Or.inl ⟨by rfl, ?_⟩) (by assumption) ?_
          rotate_left
          · intro w hSw; (try dsimp only at hSw); go_simp; (try (with_reducible rfl))
          try simp only [List.getElem_toArray, List.getElem_cons_succ, List.getElem_cons_zero, Act.put, List.setIfInBounds_toArray, List.set_cons_zero, List.set_cons_succ]
          refine wpAnyH_done (by kernel_rfl) ?_ _
          go_wp2_with fail
          go_meet
          refine ⟨wz2.heap.size, Ah, ch, rfl, rfl, g7_5, Lib.hid ?_, Lib.hid ?_, Lib.hid ?_, NH⟩
          · first | exact ((k7_6).out.set_ 0 _).set_ 1 _ | exact Bk.new _ _ _
          · first | exact ((T6).out.far ⟨wz2.heap.size, 0, none⟩ g7_5 _).far ⟨wz2.heap.size, 1, none⟩ g7_5 _ | exact (T2).out.alloc _
          · first | exact rd_farB (rd_farB (Rh6).out ⟨wz2.heap.size, 0, none⟩ _ (fun a e _ => by have h1 := NF.out a e; have h2 := GZ; show a.block ≠ wz2.heap.size; omega)) ⟨wz2.heap.size, 1, none⟩ _ (fun a e _ => by have h1 := NF.out a e; have h2 := GZ; show a.block ≠ wz2.heap.size; omega) | exact (rfl).out.allocX _
      · go_simp
        have T7 : Hid (TwoB w #[.slice A n c, .int .i64 b] #[.slice B m d, .int .i64 b2] (wz1.alloc (.cells #[.slice none 0 0, .int .i64 0] 45))) := Lib.hid ((T1).out.alloc (.cells #[.slice none 0 0, .int .i64 0] 45))
        have k7_7 : Hid (Bk (wz1.alloc (.cells #[.slice none 0 0, .int .i64 0] 45)) (wz1.heap.size) 45 #[.slice none 0 0, .int .i64 0]) := Lib.hid (Bk.new wz1 45 #[.slice none 0 0, .int .i64 0])
        have g7_7 : w.heap.size + 1 < wz1.heap.size := (T1).out.k2.lt
        have Rq7 : Hid (RdI (wz1.alloc (.cells #[.slice none 0 0, .int .i64 0] 45)) Aq n cs) := Lib.hid (Rq1.out.allocX (.cells #[.slice none 0 0, .int .i64 0] 45))
        refine hK.out _ _ ?_ (fun hHeld => ?_)
        · clear hK K; exact T7.out.four
        clear hK K
        try simp only [List.getElem_toArray, List.getElem_cons_succ, List.getElem_cons_zero, Act.put, List.setIfInBounds_toArray, List.set_cons_zero, List.set_cons_succ]
        refine wpAnyH_ready (rs := [3]) (by kernel_rfl) (by simp) ?_
        refine AllReadyH.cons rfl (fun K hK => ?_) AllReadyH.nil
        go_simp
        go_at_call 29
        refine (CCF2.out _ (T7).out).mono ?_
        rintro e wz8 ⟨⟨Ap, cp, rfl, hp, hcp, hNp⟩, hb⟩
        have T8 : Hid (TwoB w #[.slice A n c, .int .i64 b] #[.slice B m d, .int .i64 b2] wz8) := Lib.hid (TwoB.later hb (T7).out)
        have Rq8 : Hid (RdI wz8 Aq n cs) := Lib.hid (Rq7.out.below hb)
        have k7_8 : Hid (Bk wz8 (wz1.heap.size) 45 #[.slice none 0 0, .int .i64 0]) := Lib.hid (k7_7.out.later hb)
        have Rp8 := Lib.hid hp
        clear hp hcp hNp
        clear hb
        go_wp2_with fail
        refine hK.out _ _ ?_ (fun hHeld => ?_)
        · clear hK K; exact T8.out.four
        clear hK K
        try simp only [List.getElem_toArray, List.getElem_cons_succ, List.getElem_cons_zero, Act.put, List.setIfInBounds_toArray, List.set_cons_zero, List.set_cons_succ]
        refine wpAnyH_ready (rs := [4]) (by kernel_rfl) (by simp) ?_
        refine AllReadyH.cons rfl (fun K hK => ?_) AllReadyH.nil
        go_simp
        have GZ := k7_8.out.lt
        go_at_call 43
        refine (CCo.out _ _ _ _ _ (Rq8).out (Rp8).out).mono ?_
        rintro e wz9 ⟨⟨Ah, ch, rfl, hh, hNh, hFh⟩, hb⟩
        have T9 : Hid (TwoB w #[.slice A n c, .int .i64 b] #[.slice B m d, .int .i64 b2] wz9) := Lib.hid (TwoB.later hb (T8).out)
        have k7_9 : Hid (Bk wz9 (wz1.heap.size) 45 #[.slice none 0 0, .int .i64 0]) := Lib.hid (k7_8.out.later hb)
        have Rh9 := Lib.hid hh
        have NH := Lib.hid hNh
        have NF := Lib.hid hFh
        clear hh hNh hFh
        clear hb
        go_wp2_with fail
        refine hK.out _ _ ?_ (fun hHeld => ?_)
        · clear hK K; exact T9.out.four
        clear hK K
        try simp only [List.getElem_toArray, List.getElem_cons_succ, List.getElem_cons_zero, Act.put, List.setIfInBounds_toArray, List.set_cons_zero, List.set_cons_succ]
        refine wpAnyH_take (i := 5) (v := ?_) rfl (by kernel_rfl) (by kernel_rfl) (by kernel_rfl) (fun _ _ _ h => h) (Or.inl ⟨by rfl, ?_⟩) (by assumption) ?_
        rotate_left
        · intro w hSw; (try dsimp only at hSw); go_simp; (try (with_reducible rfl))
        try simp only [List.getElem_toArray, List.getElem_cons_succ, List.getElem_cons_zero, Act.put, List.setIfInBounds_toArray, List.set_cons_zero, List.set_cons_succ]
        refine wpAnyH_take (i := 6) (v := ?_) rfl (by kernel_rfl) (by kernel_rfl) (by kernel_rfl) (fun _ _ _ h => h) (Or.inl ⟨by rfl, ?_⟩) (by assumption) ?_
        rotate_left
        · intro w hSw; (try dsimp only at hSw); go_simp; (try (with_reducible rfl))
        try simp only [List.getElem_toArray, List.getElem_cons_succ, List.getElem_cons_zero, Act.put, List.setIfInBounds_toArray, List.set_cons_zero, List.set_cons_succ]
        refine wpAnyH_take (i := 7) (v := ?_) rfl (by kernel_rfl) (by kernel_rfl) (by kernel_rfl) (fun _ _ _ h => h) (Or.inl ⟨by rfl, ?_⟩) (by assumption) ?_
        rotate_left
        · intro w hSw; (try dsimp only at hSw); go_simp; (try (with_reducible rfl))
        try simp only [List.getElem_toArray, List.getElem_cons_succ, List.getElem_cons_zero, Act.put, List.setIfInBounds_toArray, List.set_cons_zero, List.set_cons_succ]
        obtain ⟨c70, c71, f70, f71⟩ := cell2' k7_9.out
        refine wpAnyH_ready (rs := [9]) (by kernel_rfl) (by simp) ?_
        refine AllReadyH.cons rfl (fun K hK => ?_) AllReadyH.nil
        go_simp
        refine hK.out _ _ ?_ (fun hHeld => ?_)
        · clear hK K; first | exact (((T9).out.far ⟨wz1.heap.size, 0, none⟩ g7_7 _).far ⟨wz1.heap.size, 1, none⟩ g7_7 _).four | exact ((T1).out.alloc _).four
        clear hK K
        try simp only [List.getElem_toArray, List.getElem_cons_succ, List.getElem_cons_zero, Act.put, List.setIfInBounds_toArray, List.set_cons_zero, List.set_cons_succ]
        refine wpAnyH_take (i := 10) (v := ?_) rfl (by kernel_rfl) (by kernel_rfl) (by kernel_rfl) (fun _ _ _ h => h) (Or.inl ⟨by rfl, ?_⟩) (by assumption) ?_
        rotate_left
        · intro w hSw; (try dsimp only at hSw); go_simp; (try (with_reducible rfl))
        try simp only [List.getElem_toArray, List.getElem_cons_succ, List.getElem_cons_zero, Act.put, List.setIfInBounds_toArray, List.set_cons_zero, List.set_cons_succ]
        refine wpAnyH_done (by kernel_rfl) ?_ _
        go_wp2_with fail
        go_meet
        refine ⟨wz1.heap.size, Ah, ch, rfl, rfl, g7_7, Lib.hid ?_, Lib.hid ?_, Lib.hid ?_, NH⟩
        · first | exact ((k7_9).out.set_ 0 _).set_ 1 _ | exact Bk.new _ _ _
        · first | exact ((T9).out.far ⟨wz1.heap.size, 0, none⟩ g7_7 _).far ⟨wz1.heap.size, 1, none⟩ g7_7 _ | exact (T1).out.alloc _
        · first | exact rd_farB (rd_farB (Rh9).out ⟨wz1.heap.size, 0, none⟩ _ (fun a e _ => by have h1 := NF.out a e; have h2 := GZ; show a.block ≠ wz1.heap.size; omega)) ⟨wz1.heap.size, 1, none⟩ _ (fun a e _ => by have h1 := NF.out a e; have h2 := GZ; show a.block ≠ wz1.heap.size; omega) | exact (rfl).out.allocX _
    · go_simp
      have T10 : Hid (TwoB w #[.slice A n c, .int .i64 b] #[.slice B m d, .int .i64 b2] (w3.alloc (.cells #[.slice none 0 0, .int .i64 0] 45)).drew) := Lib.hid ((TD).out.alloc (.cells #[.slice none 0 0, .int .i64 0] 45))
      have k7_10 : Hid (Bk (w3.alloc (.cells #[.slice none 0 0, .int .i64 0] 45)).drew (w3.heap.size) 45 #[.slice none 0 0, .int .i64 0]) := Lib.hid (Bk.new w3 45 #[.slice none 0 0, .int .i64 0])
      have g7_10 : w.heap.size + 1 < w3.heap.size := (TD).out.k2.lt
      refine hK.out _ _ ?_ (fun hHeld => ?_)
      · clear hK K; exact T10.out.four
      clear hK K
      try simp only [List.getElem_toArray, List.getElem_cons_succ, List.getElem_cons_zero, Act.put, List.setIfInBounds_toArray, List.set_cons_zero, List.set_cons_succ]
      refine wpAnyH_ready (rs := [1]) (by kernel_rfl) (by simp) ?_
      refine AllReadyH.cons rfl (fun K hK => ?_) AllReadyH.nil
      go_simp
      go_at_call 29
      refine (CCF1.out _ (T10).out).mono ?_
      rintro e wz11 ⟨⟨Aq, cq, rfl, hq, hcq, hNq⟩, hb⟩
      have T11 : Hid (TwoB w #[.slice A n c, .int .i64 b] #[.slice B m d, .int .i64 b2] wz11) := Lib.hid (TwoB.later hb (T10).out)
      have k7_11 : Hid (Bk wz11 (w3.heap.size) 45 #[.slice none 0 0, .int .i64 0]) := Lib.hid (k7_10.out.later hb)
      have Rq11 := Lib.hid hq
      clear hq hcq hNq
      clear hb
      go_wp2_with fail
      refine hK.out _ _ ?_ (fun hHeld => ?_)
      · clear hK K; exact T11.out.four
      clear hK K
      try simp only [List.getElem_toArray, List.getElem_cons_succ, List.getElem_cons_zero, Act.put, List.setIfInBounds_toArray, List.set_cons_zero, List.set_cons_succ]
      refine wpAnyH_ready (rs := [3]) (by kernel_rfl) (by simp) ?_
      refine AllReadyH.cons rfl (fun K hK => ?_) AllReadyH.nil
      go_simp
      go_at_call 29
      refine (CCF2.out _ (T11).out).mono ?_
      rintro e wz12 ⟨⟨Ap, cp, rfl, hp, hcp, hNp⟩, hb⟩
      have T12 : Hid (TwoB w #[.slice A n c, .int .i64 b] #[.slice B m d, .int .i64 b2] wz12) := Lib.hid (TwoB.later hb (T11).out)
      have k7_12 : Hid (Bk wz12 (w3.heap.size) 45 #[.slice none 0 0, .int .i64 0]) := Lib.hid (k7_11.out.later hb)
      have Rq12 : Hid (RdI wz12 Aq n cs) := Lib.hid (Rq11.out.below hb)
      have Rp12 := Lib.hid hp
      clear hp hcp hNp
      clear hb
      go_wp2_with fail
      refine hK.out _ _ ?_ (fun hHeld => ?_)
      · clear hK K; exact T12.out.four
      clear hK K
      try simp only [List.getElem_toArray, List.getElem_cons_succ, List.getElem_cons_zero, Act.put, List.setIfInBounds_toArray, List.set_cons_zero, List.set_cons_succ]
      refine wpAnyH_ready (rs := [4]) (by kernel_rfl) (by simp) ?_
      refine AllReadyH.cons rfl (fun K hK => ?_) AllReadyH.nil
      go_simp
      have GZ := k7_12.out.lt
      go_at_call 43
      refine (CCo.out _ _ _ _ _ (Rq12).out (Rp12).out).mono ?_
      rintro e wz13 ⟨⟨Ah, ch, rfl, hh, hNh, hFh⟩, hb⟩
      have T13 : Hid (TwoB w #[.slice A n c, .int .i64 b] #[.slice B m d, .int .i64 b2] wz13) := Lib.hid (TwoB.later hb (T12).out)
      have k7_13 : Hid (Bk wz13 (w3.heap.size) 45 #[.slice none 0 0, .int .i64 0]) := Lib.hid (k7_12.out.later hb)
      have Rh13 := Lib.hid hh
      have NH := Lib.hid hNh
      have NF := Lib.hid hFh
      clear hh hNh hFh
      clear hb
      go_wp2_with fail
      refine hK.out _ _ ?_ (fun hHeld => ?_)
      · clear hK K; exact T13.out.four
      clear hK K
      try simp only [List.getElem_toArray, List.getElem_cons_succ, List.getElem_cons_zero, Act.put, List.setIfInBounds_toArray, List.set_cons_zero, List.set_cons_succ]
      refine wpAnyH_take (i := 5) (v := ?_) rfl (by kernel_rfl) (by kernel_rfl) (by kernel_rfl) (fun _ _ _ h => h) (Or.inl ⟨by rfl, ?_⟩) (by assumption) ?_
      rotate_left
      · intro w hSw; (try dsimp only at hSw); go_simp; (try (with_reducible rfl))
      try simp only [List.getElem_toArray, List.getElem_cons_succ, List.getElem_cons_zero, Act.put, List.setIfInBounds_toArray, List.set_cons_zero, List.set_cons_succ]
      refine wpAnyH_take (i := 6) (v := ?_) rfl (by kernel_rfl) (by kernel_rfl) (by kernel_rfl) (fun _ _ _ h => h) (Or.inl ⟨by rfl, ?_⟩) (by assumption) ?_
      rotate_left
      · intro w hSw; (try dsimp only at hSw); go_simp; (try (with_reducible rfl))
      try simp only [List.getElem_toArray, List.getElem_cons_succ, List.getElem_cons_zero, Act.put, List.setIfInBounds_toArray, List.set_cons_zero, List.set_cons_succ]
      refine wpAnyH_take (i := 7) (v := ?_) rfl (by kernel_rfl) (by kernel_rfl) (by kernel_rfl) (fun _ _ _ h => h) (Or.inl ⟨by rfl, ?_⟩) (by assumption) ?_
      rotate_left
      · intro w hSw; (try dsimp only at hSw); go_simp; (try (with_reducible rfl))
      try simp only [List.getElem_toArray, List.getElem_cons_succ, List.getElem_cons_zero, Act.put, List.setIfInBounds_toArray, List.set_cons_zero, List.set_cons_succ]
      obtain ⟨c70, c71, f70, f71⟩ := cell2' k7_13.out
      refine wpAnyH_ready (rs := [9]) (by kernel_rfl) (by simp) ?_
      refine AllReadyH.cons rfl (fun K hK => ?_) AllReadyH.nil
      go_simp
      refine hK.out _ _ ?_ (fun hHeld => ?_)
      · clear hK K; first | exact (((T13).out.far ⟨w3.heap.size, 0, none⟩ g7_10 _).far ⟨w3.heap.size, 1, none⟩ g7_10 _).four | exact ((TD).out.alloc _).four
      clear hK K
      try simp only [List.getElem_toArray, List.getElem_cons_succ, List.getElem_cons_zero, Act.put, List.setIfInBounds_toArray, List.set_cons_zero, List.set_cons_succ]
      refine wpAnyH_take (i := 10) (v := ?_) rfl (by kernel_rfl) (by kernel_rfl) (by kernel_rfl) (fun _ _ _ h => h) (Or.inl ⟨by rfl, ?_⟩) (by assumption) ?_
      rotate_left
      · intro w hSw; (try dsimp only at hSw); go_simp; (try (with_reducible rfl))
      try simp only [List.getElem_toArray, List.getElem_cons_succ, List.getElem_cons_zero, Act.put, List.setIfInBounds_toArray, List.set_cons_zero, List.set_cons_succ]
      refine wpAnyH_done (by kernel_rfl) ?_ _
      go_wp2_with fail
      go_meet
      refine ⟨w3.heap.size, Ah, ch, rfl, rfl, g7_10, Lib.hid ?_, Lib.hid ?_, Lib.hid ?_, NH⟩
      · first | exact ((k7_13).out.set_ 0 _).set_ 1 _ | exact Bk.new _ _ _
      · first | exact ((T13).out.far ⟨w3.heap.size, 0, none⟩ g7_10 _).far ⟨w3.heap.size, 1, none⟩ g7_10 _ | exact (TD).out.alloc _
      · first | exact rd_farB (rd_farB (Rh13).out ⟨w3.heap.size, 0, none⟩ _ (fun a e _ => by have h1 := NF.out a e; have h2 := GZ; show a.block ≠ w3.heap.size; omega)) ⟨w3.heap.size, 1, none⟩ _ (fun a e _ => by have h1 := NF.out a e; have h2 := GZ; show a.block ≠ w3.heap.size; omega) | exact (rfl).out.allocX _
  case rest =>
  obtain ⟨h7, Ah, ch, rfl, rfl, hg7, hk7, ht, hrh, hnh⟩ := hcut
  clear T3 d0 d1 e0 e1
  obtain ⟨w4, hw⟩ : ∃ W, W = wc := ⟨_, rfl⟩
  subst hw
  have T4 := ht
  have H4 := hk7
  have Y4 := hrh
  have NH := hnh
  clear ht hk7 hrh hnh
  obtain ⟨⟨d0, d1⟩, e0, e1⟩ := T4.out.four
  go_wp2_with fail
  refine (CFe1.out _ (HR1.out _ T4.out)).mono ?_
  rintro e w5 ⟨rfl, hb⟩
  have T5 := Lib.hid (TwoB.later hb T4.out)
  have H5 := Lib.hid (H4.out.later hb)
  have Y5 := Lib.hid (Y4.out.below hb)
  clear T4 H4 Y4 hb
  clear d0 d1 e0 e1
  obtain ⟨⟨d0, d1⟩, e0, e1⟩ := T5.out.four
  go_wp2_with fail
  refine (CFe2.out _ (HR2.out _ T5.out)).mono ?_
  rintro e w6 ⟨rfl, hb⟩
  have T6 := Lib.hid (TwoB.later hb T5.out)
  have H6 := Lib.hid (H5.out.later hb)
  have Y6 := Lib.hid (Y5.out.below hb)
  clear T5 H5 Y5 hb
  clear d0 d1 e0 e1
  have hAV : ∀ a, Ah = some a → 0 < 0 → a.block ≠ w6.heap.size := fun a e h0 => by obtain ⟨a2, h2, h3, _⟩ := Y6.out.2 h0; rw [e] at h2; cases h2; omega
  have hlt7 : h7 < w6.heap.size := H6.out.lt
  have T7 := Lib.hid (T6.out.alloc (.cells #[.slice none 0 0, .int .i64 0] 45))
  have H7 := Lib.hid (H6.out.alloc (.cells #[.slice none 0 0, .int .i64 0] 45))
  have Y7 := Lib.hid (Y6.out.allocX (.cells #[.slice none 0 0, .int .i64 0] 45))
  clear T6 H6 Y6
  have V7 := Lib.hid (Bk.new w6 45 #[.slice none 0 0, .int .i64 0])
  have hgw : h7 < w6.heap.size := hlt7
  obtain ⟨⟨d0, d1⟩, e0, e1⟩ := T7.out.four
  go_wp2_with fail
  refine (CRC.out _ (HR1.out _ T7.out) (HR2.out _ T7.out)).mono ?_
  rintro e w8 ⟨⟨Aw, cw, rfl, hrw, _, hFw⟩, hb⟩
  have hlv := V7.out.lt
  have T8 := Lib.hid (TwoB.later hb T7.out)
  have H8 := Lib.hid (H7.out.later hb)
  have Y8 := Lib.hid (Y7.out.below hb)
  have V8 := Lib.hid (V7.out.later hb)
  clear T7 H7 Y7 V7 hb
  clear d0 d1 e0 e1
  obtain ⟨v0, v1, vf0, vf1⟩ := cell2' V8.out
  have T9 : Hid (TwoB w #[.slice A n c, .int .i64 b] #[.slice B m d, .int .i64 b2] ((w8.setCell ⟨w6.heap.size, 0, none⟩ (.slice Aw 0 cw)).setCell ⟨w6.heap.size, 1, none⟩ (.int .i64 0))) := Lib.hid ((T8.out.far ⟨w6.heap.size, 0, none⟩ (by show w.heap.size + 1 < w6.heap.size; omega) _).far ⟨w6.heap.size, 1, none⟩ (by show w.heap.size + 1 < w6.heap.size; omega) _)
  have H9 : Hid (Bk ((w8.setCell ⟨w6.heap.size, 0, none⟩ (.slice Aw 0 cw)).setCell ⟨w6.heap.size, 1, none⟩ (.int .i64 0)) h7 45 #[.slice Ah 0 ch, .int .i64 0]) := Lib.hid ((H8.out.far ⟨w6.heap.size, 0, none⟩ (by show h7 ≠ w6.heap.size; omega) _).far ⟨w6.heap.size, 1, none⟩ (by show h7 ≠ w6.heap.size; omega) _)
  have V9 : Hid (Bk ((w8.setCell ⟨w6.heap.size, 0, none⟩ (.slice Aw 0 cw)).setCell ⟨w6.heap.size, 1, none⟩ (.int .i64 0)) w6.heap.size 45 #[.slice Aw 0 cw, .int .i64 0]) := Lib.hid ((V8.out.set_ 0 _).set_ 1 _)
  have U9 : Hid (RdI ((w8.setCell ⟨w6.heap.size, 0, none⟩ (.slice Aw 0 cw)).setCell ⟨w6.heap.size, 1, none⟩ (.int .i64 0)) Aw 0 ([] : List Int)) := Lib.hid (rd_farB (rd_farB hrw ⟨w6.heap.size, 0, none⟩ _ (fun a e _ => by have := hFw a e; show a.block ≠ w6.heap.size; omega)) ⟨w6.heap.size, 1, none⟩ _ (fun a e _ => by have := hFw a e; show a.block ≠ w6.heap.size; omega))
  have Y9 : Hid (RdI ((w8.setCell ⟨w6.heap.size, 0, none⟩ (.slice Aw 0 cw)).setCell ⟨w6.heap.size, 1, none⟩ (.int .i64 0)) Ah 0 ([] : List Int)) := Lib.hid (rd_farB (rd_farB Y8.out ⟨w6.heap.size, 0, none⟩ _ hAV) ⟨w6.heap.size, 1, none⟩ _ hAV)
  clear T8 H8 Y8 hrw hFw hlv
  obtain ⟨h0, h1⟩ := bkf2 H9.out
  obtain ⟨q0, q1⟩ := bkf2 V9.out
  go_wp2_with fail
  refine (sameFilter_any _ _ _ _ _ _ _ _ Y9.out U9.out (by omega)).mono ?_
  rintro e w10 ⟨rfl, hb⟩
  clear V8 v0 v1 vf0 vf1
  have T10 := Lib.hid (TwoB.later hb T9.out)
  have H10 := Lib.hid (H9.out.later hb)
  have Y10 := Lib.hid (Y9.out.below hb)
  have V10 := Lib.hid (V9.out.later hb)
  have U10 := Lib.hid (U9.out.below hb)
  clear T9 H9 Y9 V9 U9 hb
  clear h0 h1 q0 q1
  obtain ⟨⟨d0, d1⟩, e0, e1⟩ := T10.out.four
  go_wp2
  go_ret
  exact ⟨by simp, T10.out.b⟩
set_option maxRecDepth 100000 in
set_option maxHeartbeats 4000000 in
theorem cpw_b (A : Option Addr) (n c : Nat) (b : Int) (b2 : Int) (cs : List Int) (B : Option Addr) (m d : Nat) (ds : List Int) (X : Option Addr) (k e : Nat) (xs : List Int) (w : World) (l : Nat) (hl : List Int) (hl2 : l ≤ 1000) (hb1 : ¬ b = 1) (hr : RdI w A n cs) (hr2 : RdI w B m ds) (hx : RdI w X k xs) (hn : n ≤ 10) (hm : m ≤ 10) (hk : k ≤ 20) (hA : A = none → n = 0 ∧ c = 0) (hB : B = none → m = 0 ∧ d = 0) (hX : X = none → k = 0 ∧ e = 0)
    (CCo : ∀ A' c' B' d' W, RdI W A' n cs → RdI W B' m ds → Calls Try.prog 43 #[.agg #[.slice A' n c', .int .i64 b], .agg #[.slice B' m d', .int .i64 b2]] W (CpR W (0) ((b * b2)) l hl))
    (CFe1 : ∀ W, RdI W A n cs → Calls Try.prog 30 #[.agg #[.slice A n c, .int .i64 b]] W fun e w' => e = .returned (.int .i64 0) ∧ Below W.heap.size W w')
    (CFe2 : ∀ W, RdI W B m ds → Calls Try.prog 30 #[.agg #[.slice B m d, .int .i64 b2]] W fun e w' => e = .returned (.int .i64 0) ∧ Below W.heap.size W w')
    (CRC : ∀ W, RdI W A n cs → RdI W B m ds → Calls Try.prog 44 #[.agg #[.slice A n c, .int .i64 b], .agg #[.slice B m d, .int .i64 b2]] W (CpR W (0) ((b * b2)) l hl))
    : Calls Try.prog 7 #[.agg #[.slice A n c, .int .i64 b], .agg #[.slice B m d, .int .i64 b2], .slice X k e] w fun e w' => e = .returned (.bool true) ∧ Below w.heap.size w w' := by
  have HR1 : Hid (∀ W, TwoB w #[.slice A n c, .int .i64 b] #[.slice B m d, .int .i64 b2] W → RdI W A n cs) := fun W h => hr.below h.b
  have HR2 : Hid (∀ W, TwoB w #[.slice A n c, .int .i64 b] #[.slice B m d, .int .i64 b2] W → RdI W B m ds) := fun W h => hr2.below h.b
  have HXU : Hid (∀ W, TwoB w #[.slice A n c, .int .i64 b] #[.slice B m d, .int .i64 b2] W → RdI W X k xs) := fun W h => hx.below h.b
  have CCF1 : Hid (∀ W, TwoB w #[.slice A n c, .int .i64 b] #[.slice B m d, .int .i64 b2] W → Calls Try.prog 29 #[.agg #[.slice A n c, .int .i64 b]] W (CpF W n b cs)) := fun W h => copyFilter_any A n c b cs W hA (hr.below h.b) (by omega)
  have CCF2 : Hid (∀ W, TwoB w #[.slice A n c, .int .i64 b] #[.slice B m d, .int .i64 b2] W → Calls Try.prog 29 #[.agg #[.slice B m d, .int .i64 b2]] W (CpF W m b2 ds)) := fun W h => copyFilter_any B m d b2 ds W hB (hr2.below h.b) (by omega)
  have CCX : Hid (∀ W, TwoB w #[.slice A n c, .int .i64 b] #[.slice B m d, .int .i64 b2] W → Calls Try.prog 18 #[.slice X k e] W (RdOne W k xs)) := fun W h => (copyInts_any X k e xs W hX (hx.below h.b) (by omega)).mono fun e w' ho => ho.rd hx.1
  have CT1 := Lib.hid (fun W => taps_any A n c b W)
  have CT2 := Lib.hid (fun W => taps_any B m d b2 W)
  rw [decide_eq_true hn] at CT1
  rw [decide_eq_true hm] at CT2
  have hk2 : ¬ (20 : Int) < (k : Int) := by omega
  have CCo := Lib.hid CCo
  have CFe1 := Lib.hid CFe1
  have CFe2 := Lib.hid CFe2
  have CRC := Lib.hid CRC
  have db0 : (b != 1) = true := by rw [bne_iff_ne]; exact hb1
  clear hb1
  have T0 : Hid (TwoB w #[.slice A n c, .int .i64 b] #[.slice B m d, .int .i64 b2] ((w.alloc (.cells #[.slice A n c, .int .i64 b] 45)).alloc (.cells #[.slice B m d, .int .i64 b2] 45))) := Lib.hid ⟨(Bk.new _ _ _).alloc _, by simpa using Bk.new (w.alloc (.cells #[.slice A n c, .int .i64 b] 45)) 45 #[.slice B m d, .int .i64 b2], below2 _ _ _⟩
  clear hr hr2 hx hA hB hX
  go_enter Try.func7, Try.ntmps7
  go_wp2_with fail
  refine (awake_any _).mono ?_
  rintro e w1 ⟨rfl, hb⟩
  have T1 := Lib.hid (TwoB.later hb T0.out)
  clear T0 hb
  obtain ⟨⟨d0, d1⟩, e0, e1⟩ := T1.out.four
  go_wp2_with fail
  refine (CT1.out _).mono ?_
  rintro e w2 ⟨rfl, hb⟩
  have T2 := Lib.hid (TwoB.later hb T1.out)
  clear T1 hb
  clear d0 d1 e0 e1
  obtain ⟨⟨d0, d1⟩, e0, e1⟩ := T2.out.four
  go_wp2_with fail
  refine (CT2.out _).mono ?_
  rintro e w3 ⟨rfl, hb⟩
  have T3 := Lib.hid (TwoB.later hb T2.out)
  clear T2 hb
  clear d0 d1 e0 e1
  obtain ⟨⟨d0, d1⟩, e0, e1⟩ := T3.out.four
  go_upto_region 5 with fail
  go_cut [7, 8] (fun s7 s8 wx => ∃ (h7 : Nat) (Ah : Option Addr) (ch : Nat), s7 = .pointer (some ⟨h7, 0, none⟩) ∧ s8 = .int .i64 0 ∧ w.heap.size + 1 < h7 ∧ Hid (Bk wx h7 45 #[.slice Ah l ch, .int .i64 (b * b2)]) ∧ Hid (TwoB w #[.slice A n c, .int .i64 b] #[.slice B m d, .int .i64 b2] wx) ∧ Hid (RdI wx Ah l hl) ∧ Hid (Ah = none → l = 0 ∧ ch = 0))
  case first =>
    refine wp_region_held_drew (S := (fun w' : World => (w'.cell? ⟨w.heap.size, 0, none⟩ = some (.slice A n c) ∧ w'.cell? ⟨w.heap.size, 1, none⟩ = some (.int .i64 b)) ∧ w'.cell? ⟨w.heap.size + 1, 0, none⟩ = some (.slice B m d) ∧ w'.cell? ⟨w.heap.size + 1, 1, none⟩ = some (.int .i64 b2))) (by kernel_rfl) ?_ ?_
    · exact (T3.out.drew).four
    intro hHeld
    have TD : Hid (TwoB w #[.slice A n c, .int .i64 b] #[.slice B m d, .int .i64 b2] w3.drew) := Lib.hid T3.out.drew
    refine wpAnyH_take (i := 0) (v := ?_) rfl (by kernel_rfl) (by kernel_rfl) (by kernel_rfl) (fun _ _ _ h => h) (Or.inl ⟨by rfl, ?_⟩) (by assumption) ?_
    rotate_left
    · intro w hSw; (try dsimp only at hSw); go_simp; (try (with_reducible rfl))
    try simp only [List.getElem_toArray, List.getElem_cons_succ, List.getElem_cons_zero, Act.put, List.setIfInBounds_toArray, List.set_cons_zero, List.set_cons_succ]
    refine wpAnyH_take (i := 2) (v := ?_) rfl (by kernel_rfl) (by kernel_rfl) (by kernel_rfl) (fun _ _ _ h => h) (Or.inl ⟨by rfl, ?_⟩) (by assumption) ?_
    rotate_left
    · intro w hSw; (try dsimp only at hSw); go_simp; (try (with_reducible rfl))
    try simp only [List.getElem_toArray, List.getElem_cons_succ, List.getElem_cons_zero, Act.put, List.setIfInBounds_toArray, List.set_cons_zero, List.set_cons_succ]
    refine wpAnyH_ready (rs := [1, 8]) (by kernel_rfl) (by simp) ?_
    refine AllReadyH.cons rfl (fun K hK => ?_) (AllReadyH.cons rfl (fun K hK => ?_) AllReadyH.nil)
    · go_simp
      go_at_call 29
      refine (CCF1.out _ (TD).out).mono ?_
      rintro e wz1 ⟨⟨Aq, cq, rfl, hq, hcq, hNq⟩, hb⟩
      have T1 : Hid (TwoB w #[.slice A n c, .int .i64 b] #[.slice B m d, .int .i64 b2] wz1) := Lib.hid (TwoB.later hb (TD).out)
      have Rq1 := Lib.hid hq
      clear hq hcq hNq
      clear hb
      go_wp2_with fail
      refine hK.out _ _ ?_ (fun hHeld => ?_)
      · clear hK K; exact T1.out.four
      clear hK K
      try simp only [List.getElem_toArray, List.getElem_cons_succ, List.getElem_cons_zero, Act.put, List.setIfInBounds_toArray, List.set_cons_zero, List.set_cons_succ]
      refine wpAnyH_ready (rs := [3, 8]) (by kernel_rfl) (by simp) ?_
      refine AllReadyH.cons rfl (fun K hK => ?_) (AllReadyH.cons rfl (fun K hK => ?_) AllReadyH.nil)
      · go_simp
        go_at_call 29
        refine (CCF2.out _ (T1).out).mono ?_
        rintro e wz2 ⟨⟨Ap, cp, rfl, hp, hcp, hNp⟩, hb⟩
        have T2 : Hid (TwoB w #[.slice A n c, .int .i64 b] #[.slice B m d, .int .i64 b2] wz2) := Lib.hid (TwoB.later hb (T1).out)
        have Rq2 : Hid (RdI wz2 Aq n cs) := Lib.hid (Rq1.out.below hb)
        have Rp2 := Lib.hid hp
        clear hp hcp hNp
        clear hb
        go_wp2_with fail
        refine hK.out _ _ ?_ (fun hHeld => ?_)
        · clear hK K; exact T2.out.four
        clear hK K
        try simp only [List.getElem_toArray, List.getElem_cons_succ, List.getElem_cons_zero, Act.put, List.setIfInBounds_toArray, List.set_cons_zero, List.set_cons_succ]
        refine wpAnyH_ready (rs := [4, 8]) (by kernel_rfl) (by simp) ?_
        refine AllReadyH.cons rfl (fun K hK => ?_) (AllReadyH.cons rfl (fun K hK => ?_) AllReadyH.nil)
        · go_simp
          go_at_call 43
          refine (CCo.out _ _ _ _ _ (Rq2).out (Rp2).out).mono ?_
          rintro e wz3 ⟨⟨Ah, ch, rfl, hh, hNh, hFh⟩, hb⟩
          have T3 : Hid (TwoB w #[.slice A n c, .int .i64 b] #[.slice B m d, .int .i64 b2] wz3) := Lib.hid (TwoB.later hb (T2).out)
          have Rh3 := Lib.hid hh
          have NH := Lib.hid hNh
          have NF := Lib.hid hFh
          clear hh hNh hFh
          clear hb
          go_wp2_with fail
          refine hK.out _ _ ?_ (fun hHeld => ?_)
          · clear hK K; exact T3.out.four
          clear hK K
          try simp only [List.getElem_toArray, List.getElem_cons_succ, List.getElem_cons_zero, Act.put, List.setIfInBounds_toArray, List.set_cons_zero, List.set_cons_succ]
          refine wpAnyH_take (i := 5) (v := ?_) rfl (by kernel_rfl) (by kernel_rfl) (by kernel_rfl) (fun _ _ _ h => h) (Or.inl ⟨by rfl, ?_⟩) (by assumption) ?_
          rotate_left
          · intro w hSw; (try dsimp only at hSw); go_simp; (try (with_reducible rfl))
          try simp only [List.getElem_toArray, List.getElem_cons_succ, List.getElem_cons_zero, Act.put, List.setIfInBounds_toArray, List.set_cons_zero, List.set_cons_succ]
          refine wpAnyH_take (i := 6) (v := ?_) rfl (by kernel_rfl) (by kernel_rfl) (by kernel_rfl) (fun _ _ _ h => h) (Or.inl ⟨by rfl, ?_⟩) (by assumption) ?_
          rotate_left
          · intro w hSw; (try dsimp only at hSw); go_simp; (try (with_reducible rfl))
          try simp only [List.getElem_toArray, List.getElem_cons_succ, List.getElem_cons_zero, Act.put, List.setIfInBounds_toArray, List.set_cons_zero, List.set_cons_succ]
          refine wpAnyH_take (i := 7) (v := ?_) rfl (by kernel_rfl) (by kernel_rfl) (by kernel_rfl) (fun _ _ _ h => h) (Or.inl ⟨by rfl, ?_⟩) (by assumption) ?_
          rotate_left
          · intro w hSw; (try dsimp only at hSw); go_simp; (try (with_reducible rfl))
          try simp only [List.getElem_toArray, List.getElem_cons_succ, List.getElem_cons_zero, Act.put, List.setIfInBounds_toArray, List.set_cons_zero, List.set_cons_succ]
          refine wpAnyH_ready (rs := [8]) (by kernel_rfl) (by simp) ?_
          refine AllReadyH.cons rfl (fun K hK => ?_) AllReadyH.nil
          go_simp
          have T4 : Hid (TwoB w #[.slice A n c, .int .i64 b] #[.slice B m d, .int .i64 b2] (wz3.alloc (.cells #[.slice none 0 0, .int .i64 0] 45))) := Lib.hid ((T3).out.alloc (.cells #[.slice none 0 0, .int .i64 0] 45))
          have k7_4 : Hid (Bk (wz3.alloc (.cells #[.slice none 0 0, .int .i64 0] 45)) (wz3.heap.size) 45 #[.slice none 0 0, .int .i64 0]) := Lib.hid (Bk.new wz3 45 #[.slice none 0 0, .int .i64 0])
          have g7_4 : w.heap.size + 1 < wz3.heap.size := (T3).out.k2.lt
          have Rh4 : Hid (RdI (wz3.alloc (.cells #[.slice none 0 0, .int .i64 0] 45)) Ah l hl) := Lib.hid (Rh3.out.allocX (.cells #[.slice none 0 0, .int .i64 0] 45))
          refine hK.out _ _ ?_ (fun hHeld => ?_)
          · clear hK K; exact T4.out.four
          clear hK K
          try simp only [List.getElem_toArray, List.getElem_cons_succ, List.getElem_cons_zero, Act.put, List.setIfInBounds_toArray, List.set_cons_zero, List.set_cons_succ]
          obtain ⟨c70, c71, f70, f71⟩ := cell2' k7_4.out
          refine wpAnyH_ready (rs := [9]) (by kernel_rfl) (by simp) ?_
          refine AllReadyH.cons rfl (fun K hK => ?_) AllReadyH.nil
          go_simp
          refine hK.out _ _ ?_ (fun hHeld => ?_)
          · clear hK K; first | exact (((T4).out.far ⟨wz3.heap.size, 0, none⟩ g7_4 _).far ⟨wz3.heap.size, 1, none⟩ g7_4 _).four | exact ((T3).out.alloc _).four
          clear hK K
          try simp only [List.getElem_toArray, List.getElem_cons_succ, List.getElem_cons_zero, Act.put, List.setIfInBounds_toArray, List.set_cons_zero, List.set_cons_succ]
          refine wpAnyH_take (i := 10) (v := ?_) rfl (by kernel_rfl) (by kernel_rfl) (by kernel_rfl) (fun _ _ _ h => h) (Or.inl ⟨by rfl, ?_⟩) (by assumption) ?_
          rotate_left
          · intro w hSw; (try dsimp only at hSw); go_simp; (try (with_reducible rfl))
          try simp only [List.getElem_toArray, List.getElem_cons_succ, List.getElem_cons_zero, Act.put, List.setIfInBounds_toArray, List.set_cons_zero, List.set_cons_succ]
          refine wpAnyH_done (by kernel_rfl) ?_ _
          go_wp2_with fail
          go_meet
          refine ⟨wz3.heap.size, Ah, ch, rfl, rfl, g7_4, Lib.hid ?_, Lib.hid ?_, Lib.hid ?_, NH⟩
          · first | exact ((k7_4).out.set_ 0 _).set_ 1 _ | exact Bk.new _ _ _
          · first | exact ((T4).out.far ⟨wz3.heap.size, 0, none⟩ g7_4 _).far ⟨wz3.heap.size, 1, none⟩ g7_4 _ | exact (T3).out.alloc _
          · first | exact rd_farB (rd_farB (Rh4).out ⟨wz3.heap.size, 0, none⟩ _ (fun a e _ => by have h1 := NF.out a e; have h2 := rfl; show a.block ≠ wz3.heap.size; omega)) ⟨wz3.heap.size, 1, none⟩ _ (fun a e _ => by have h1 := NF.out a e; have h2 := rfl; show a.block ≠ wz3.heap.size; omega) | exact (Rh3).out.allocX _
        · go_simp
          have T5 : Hid (TwoB w #[.slice A n c, .int .i64 b] #[.slice B m d, .int .i64 b2] (wz2.alloc (.cells #[.slice none 0 0, .int .i64 0] 45))) := Lib.hid ((T2).out.alloc (.cells #[.slice none 0 0, .int .i64 0] 45))
          have k7_5 : Hid (Bk (wz2.alloc (.cells #[.slice none 0 0, .int .i64 0] 45)) (wz2.heap.size) 45 #[.slice none 0 0, .int .i64 0]) := Lib.hid (Bk.new wz2 45 #[.slice none 0 0, .int .i64 0])
          have g7_5 : w.heap.size + 1 < wz2.heap.size := (T2).out.k2.lt
          have Rq5 : Hid (RdI (wz2.alloc (.cells #[.slice none 0 0, .int .i64 0] 45)) Aq n cs) := Lib.hid (Rq2.out.allocX (.cells #[.slice none 0 0, .int .i64 0] 45))
          have Rp5 : Hid (RdI (wz2.alloc (.cells #[.slice none 0 0, .int .i64 0] 45)) Ap m ds) := Lib.hid (Rp2.out.allocX (.cells #[.slice none 0 0, .int .i64 0] 45))
          refine hK.out _ _ ?_ (fun hHeld => ?_)
          · clear hK K; exact T5.out.four
          clear hK K
          try simp only [List.getElem_toArray, List.getElem_cons_succ, List.getElem_cons_zero, Act.put, List.setIfInBounds_toArray, List.set_cons_zero, List.set_cons_succ]
          refine wpAnyH_ready (rs := [4]) (by kernel_rfl) (by simp) ?_
          refine AllReadyH.cons rfl (fun K hK => ?_) AllReadyH.nil
          go_simp
          have GZ := k7_5.out.lt
          go_at_call 43
          refine (CCo.out _ _ _ _ _ (Rq5).out (Rp5).out).mono ?_
          rintro e wz6 ⟨⟨Ah, ch, rfl, hh, hNh, hFh⟩, hb⟩
          have T6 : Hid (TwoB w #[.slice A n c, .int .i64 b] #[.slice B m d, .int .i64 b2] wz6) := Lib.hid (TwoB.later hb (T5).out)
          have k7_6 : Hid (Bk wz6 (wz2.heap.size) 45 #[.slice none 0 0, .int .i64 0]) := Lib.hid (k7_5.out.later hb)
          have Rh6 := Lib.hid hh
          have NH := Lib.hid hNh
          have NF := Lib.hid hFh
          clear hh hNh hFh
          clear hb
          go_wp2_with fail
          refine hK.out _ _ ?_ (fun hHeld => ?_)
          · clear hK K; exact T6.out.four
          clear hK K
          try simp only [List.getElem_toArray, List.getElem_cons_succ, List.getElem_cons_zero, Act.put, List.setIfInBounds_toArray, List.set_cons_zero, List.set_cons_succ]
          refine wpAnyH_take (i := 5) (v := ?_) rfl (by kernel_rfl) (by kernel_rfl) (by kernel_rfl) (fun _ _ _ h => h) (Or.inl ⟨by rfl, ?_⟩) (by assumption) ?_
          rotate_left
          · intro w hSw; (try dsimp only at hSw); go_simp; (try (with_reducible rfl))
          try simp only [List.getElem_toArray, List.getElem_cons_succ, List.getElem_cons_zero, Act.put, List.setIfInBounds_toArray, List.set_cons_zero, List.set_cons_succ]
          refine wpAnyH_take (i := 6) (v := ?_) rfl (by kernel_rfl) (by kernel_rfl) (by kernel_rfl) (fun _ _ _ h => h) (Or.inl ⟨by rfl, ?_⟩) (by assumption) ?_
          rotate_left
          · intro w hSw; (try dsimp only at hSw); go_simp; (try (with_reducible rfl))
          try simp only [List.getElem_toArray, List.getElem_cons_succ, List.getElem_cons_zero, Act.put, List.setIfInBounds_toArray, List.set_cons_zero, List.set_cons_succ]
          refine wpAnyH_take (i := 7) (v := ?_) rfl (by kernel_rfl) (by kernel_rfl) (by kernel_rfl) (fun _ _ _ h => h) (Or.inl ⟨by rfl, ?_⟩) (by assumption) ?_
          rotate_left
          · intro w hSw; (try dsimp only at hSw); go_simp; (try (with_reducible rfl))
          try simp only [List.getElem_toArray, List.getElem_cons_succ, List.getElem_cons_zero, Act.put, List.setIfInBounds_toArray, List.set_cons_zero, List.set_cons_succ]
          obtain ⟨c70, c71, f70, f71⟩ := cell2' k7_6.out
          refine wpAnyH_ready (rs := [9]) (by kernel_rfl) (by simp) ?_
          refine AllReadyH.cons rfl (fun K hK => ?_) AllReadyH.nil
          go_simp
          refine hK.out _ _ ?_ (fun hHeld => ?_)
          · clear hK K; first | exact (((T6).out.far ⟨wz2.heap.size, 0, none⟩ g7_5 _).far ⟨wz2.heap.size, 1, none⟩ g7_5 _).four | exact ((T2).out.alloc _).four
          clear hK K
          try simp only [List.getElem_toArray, List.getElem_cons_succ, List.getElem_cons_zero, Act.put, List.setIfInBounds_toArray, List.set_cons_zero, List.set_cons_succ]
          refine wpAnyH_take (i := 10) (v := ?_) rfl (by kernel_rfl) (by kernel_rfl) (by kernel_rfl) (fun _ _ _ h => h) (Or.inl ⟨by rfl, ?_⟩) (by assumption) ?_
          rotate_left
          · intro w hSw; (try dsimp only at hSw); go_simp; (try (with_reducible rfl))
          try simp only [List.getElem_toArray, List.getElem_cons_succ, List.getElem_cons_zero, Act.put, List.setIfInBounds_toArray, List.set_cons_zero, List.set_cons_succ]
          refine wpAnyH_done (by kernel_rfl) ?_ _
          go_wp2_with fail
          go_meet
          refine ⟨wz2.heap.size, Ah, ch, rfl, rfl, g7_5, Lib.hid ?_, Lib.hid ?_, Lib.hid ?_, NH⟩
          · first | exact ((k7_6).out.set_ 0 _).set_ 1 _ | exact Bk.new _ _ _
          · first | exact ((T6).out.far ⟨wz2.heap.size, 0, none⟩ g7_5 _).far ⟨wz2.heap.size, 1, none⟩ g7_5 _ | exact (T2).out.alloc _
          · first | exact rd_farB (rd_farB (Rh6).out ⟨wz2.heap.size, 0, none⟩ _ (fun a e _ => by have h1 := NF.out a e; have h2 := GZ; show a.block ≠ wz2.heap.size; omega)) ⟨wz2.heap.size, 1, none⟩ _ (fun a e _ => by have h1 := NF.out a e; have h2 := GZ; show a.block ≠ wz2.heap.size; omega) | exact (rfl).out.allocX _
      · go_simp
        have T7 : Hid (TwoB w #[.slice A n c, .int .i64 b] #[.slice B m d, .int .i64 b2] (wz1.alloc (.cells #[.slice none 0 0, .int .i64 0] 45))) := Lib.hid ((T1).out.alloc (.cells #[.slice none 0 0, .int .i64 0] 45))
        have k7_7 : Hid (Bk (wz1.alloc (.cells #[.slice none 0 0, .int .i64 0] 45)) (wz1.heap.size) 45 #[.slice none 0 0, .int .i64 0]) := Lib.hid (Bk.new wz1 45 #[.slice none 0 0, .int .i64 0])
        have g7_7 : w.heap.size + 1 < wz1.heap.size := (T1).out.k2.lt
        have Rq7 : Hid (RdI (wz1.alloc (.cells #[.slice none 0 0, .int .i64 0] 45)) Aq n cs) := Lib.hid (Rq1.out.allocX (.cells #[.slice none 0 0, .int .i64 0] 45))
        refine hK.out _ _ ?_ (fun hHeld => ?_)
        · clear hK K; exact T7.out.four
        clear hK K
        try simp only [List.getElem_toArray, List.getElem_cons_succ, List.getElem_cons_zero, Act.put, List.setIfInBounds_toArray, List.set_cons_zero, List.set_cons_succ]
        refine wpAnyH_ready (rs := [3]) (by kernel_rfl) (by simp) ?_
        refine AllReadyH.cons rfl (fun K hK => ?_) AllReadyH.nil
        go_simp
        go_at_call 29
        refine (CCF2.out _ (T7).out).mono ?_
        rintro e wz8 ⟨⟨Ap, cp, rfl, hp, hcp, hNp⟩, hb⟩
        have T8 : Hid (TwoB w #[.slice A n c, .int .i64 b] #[.slice B m d, .int .i64 b2] wz8) := Lib.hid (TwoB.later hb (T7).out)
        have Rq8 : Hid (RdI wz8 Aq n cs) := Lib.hid (Rq7.out.below hb)
        have k7_8 : Hid (Bk wz8 (wz1.heap.size) 45 #[.slice none 0 0, .int .i64 0]) := Lib.hid (k7_7.out.later hb)
        have Rp8 := Lib.hid hp
        clear hp hcp hNp
        clear hb
        go_wp2_with fail
        refine hK.out _ _ ?_ (fun hHeld => ?_)
        · clear hK K; exact T8.out.four
        clear hK K
        try simp only [List.getElem_toArray, List.getElem_cons_succ, List.getElem_cons_zero, Act.put, List.setIfInBounds_toArray, List.set_cons_zero, List.set_cons_succ]
        refine wpAnyH_ready (rs := [4]) (by kernel_rfl) (by simp) ?_
        refine AllReadyH.cons rfl (fun K hK => ?_) AllReadyH.nil
        go_simp
        have GZ := k7_8.out.lt
        go_at_call 43
        refine (CCo.out _ _ _ _ _ (Rq8).out (Rp8).out).mono ?_
        rintro e wz9 ⟨⟨Ah, ch, rfl, hh, hNh, hFh⟩, hb⟩
        have T9 : Hid (TwoB w #[.slice A n c, .int .i64 b] #[.slice B m d, .int .i64 b2] wz9) := Lib.hid (TwoB.later hb (T8).out)
        have k7_9 : Hid (Bk wz9 (wz1.heap.size) 45 #[.slice none 0 0, .int .i64 0]) := Lib.hid (k7_8.out.later hb)
        have Rh9 := Lib.hid hh
        have NH := Lib.hid hNh
        have NF := Lib.hid hFh
        clear hh hNh hFh
        clear hb
        go_wp2_with fail
        refine hK.out _ _ ?_ (fun hHeld => ?_)
        · clear hK K; exact T9.out.four
        clear hK K
        try simp only [List.getElem_toArray, List.getElem_cons_succ, List.getElem_cons_zero, Act.put, List.setIfInBounds_toArray, List.set_cons_zero, List.set_cons_succ]
        refine wpAnyH_take (i := 5) (v := ?_) rfl (by kernel_rfl) (by kernel_rfl) (by kernel_rfl) (fun _ _ _ h => h) (Or.inl ⟨by rfl, ?_⟩) (by assumption) ?_
        rotate_left
        · intro w hSw; (try dsimp only at hSw); go_simp; (try (with_reducible rfl))
        try simp only [List.getElem_toArray, List.getElem_cons_succ, List.getElem_cons_zero, Act.put, List.setIfInBounds_toArray, List.set_cons_zero, List.set_cons_succ]
        refine wpAnyH_take (i := 6) (v := ?_) rfl (by kernel_rfl) (by kernel_rfl) (by kernel_rfl) (fun _ _ _ h => h) (Or.inl ⟨by rfl, ?_⟩) (by assumption) ?_
        rotate_left
        · intro w hSw; (try dsimp only at hSw); go_simp; (try (with_reducible rfl))
        try simp only [List.getElem_toArray, List.getElem_cons_succ, List.getElem_cons_zero, Act.put, List.setIfInBounds_toArray, List.set_cons_zero, List.set_cons_succ]
        refine wpAnyH_take (i := 7) (v := ?_) rfl (by kernel_rfl) (by kernel_rfl) (by kernel_rfl) (fun _ _ _ h => h) (Or.inl ⟨by rfl, ?_⟩) (by assumption) ?_
        rotate_left
        · intro w hSw; (try dsimp only at hSw); go_simp; (try (with_reducible rfl))
        try simp only [List.getElem_toArray, List.getElem_cons_succ, List.getElem_cons_zero, Act.put, List.setIfInBounds_toArray, List.set_cons_zero, List.set_cons_succ]
        obtain ⟨c70, c71, f70, f71⟩ := cell2' k7_9.out
        refine wpAnyH_ready (rs := [9]) (by kernel_rfl) (by simp) ?_
        refine AllReadyH.cons rfl (fun K hK => ?_) AllReadyH.nil
        go_simp
        refine hK.out _ _ ?_ (fun hHeld => ?_)
        · clear hK K; first | exact (((T9).out.far ⟨wz1.heap.size, 0, none⟩ g7_7 _).far ⟨wz1.heap.size, 1, none⟩ g7_7 _).four | exact ((T1).out.alloc _).four
        clear hK K
        try simp only [List.getElem_toArray, List.getElem_cons_succ, List.getElem_cons_zero, Act.put, List.setIfInBounds_toArray, List.set_cons_zero, List.set_cons_succ]
        refine wpAnyH_take (i := 10) (v := ?_) rfl (by kernel_rfl) (by kernel_rfl) (by kernel_rfl) (fun _ _ _ h => h) (Or.inl ⟨by rfl, ?_⟩) (by assumption) ?_
        rotate_left
        · intro w hSw; (try dsimp only at hSw); go_simp; (try (with_reducible rfl))
        try simp only [List.getElem_toArray, List.getElem_cons_succ, List.getElem_cons_zero, Act.put, List.setIfInBounds_toArray, List.set_cons_zero, List.set_cons_succ]
        refine wpAnyH_done (by kernel_rfl) ?_ _
        go_wp2_with fail
        go_meet
        refine ⟨wz1.heap.size, Ah, ch, rfl, rfl, g7_7, Lib.hid ?_, Lib.hid ?_, Lib.hid ?_, NH⟩
        · first | exact ((k7_9).out.set_ 0 _).set_ 1 _ | exact Bk.new _ _ _
        · first | exact ((T9).out.far ⟨wz1.heap.size, 0, none⟩ g7_7 _).far ⟨wz1.heap.size, 1, none⟩ g7_7 _ | exact (T1).out.alloc _
        · first | exact rd_farB (rd_farB (Rh9).out ⟨wz1.heap.size, 0, none⟩ _ (fun a e _ => by have h1 := NF.out a e; have h2 := GZ; show a.block ≠ wz1.heap.size; omega)) ⟨wz1.heap.size, 1, none⟩ _ (fun a e _ => by have h1 := NF.out a e; have h2 := GZ; show a.block ≠ wz1.heap.size; omega) | exact (rfl).out.allocX _
    · go_simp
      have T10 : Hid (TwoB w #[.slice A n c, .int .i64 b] #[.slice B m d, .int .i64 b2] (w3.alloc (.cells #[.slice none 0 0, .int .i64 0] 45)).drew) := Lib.hid ((TD).out.alloc (.cells #[.slice none 0 0, .int .i64 0] 45))
      have k7_10 : Hid (Bk (w3.alloc (.cells #[.slice none 0 0, .int .i64 0] 45)).drew (w3.heap.size) 45 #[.slice none 0 0, .int .i64 0]) := Lib.hid (Bk.new w3 45 #[.slice none 0 0, .int .i64 0])
      have g7_10 : w.heap.size + 1 < w3.heap.size := (TD).out.k2.lt
      refine hK.out _ _ ?_ (fun hHeld => ?_)
      · clear hK K; exact T10.out.four
      clear hK K
      try simp only [List.getElem_toArray, List.getElem_cons_succ, List.getElem_cons_zero, Act.put, List.setIfInBounds_toArray, List.set_cons_zero, List.set_cons_succ]
      refine wpAnyH_ready (rs := [1]) (by kernel_rfl) (by simp) ?_
      refine AllReadyH.cons rfl (fun K hK => ?_) AllReadyH.nil
      go_simp
      go_at_call 29
      refine (CCF1.out _ (T10).out).mono ?_
      rintro e wz11 ⟨⟨Aq, cq, rfl, hq, hcq, hNq⟩, hb⟩
      have T11 : Hid (TwoB w #[.slice A n c, .int .i64 b] #[.slice B m d, .int .i64 b2] wz11) := Lib.hid (TwoB.later hb (T10).out)
      have k7_11 : Hid (Bk wz11 (w3.heap.size) 45 #[.slice none 0 0, .int .i64 0]) := Lib.hid (k7_10.out.later hb)
      have Rq11 := Lib.hid hq
      clear hq hcq hNq
      clear hb
      go_wp2_with fail
      refine hK.out _ _ ?_ (fun hHeld => ?_)
      · clear hK K; exact T11.out.four
      clear hK K
      try simp only [List.getElem_toArray, List.getElem_cons_succ, List.getElem_cons_zero, Act.put, List.setIfInBounds_toArray, List.set_cons_zero, List.set_cons_succ]
      refine wpAnyH_ready (rs := [3]) (by kernel_rfl) (by simp) ?_
      refine AllReadyH.cons rfl (fun K hK => ?_) AllReadyH.nil
      go_simp
      go_at_call 29
      refine (CCF2.out _ (T11).out).mono ?_
      rintro e wz12 ⟨⟨Ap, cp, rfl, hp, hcp, hNp⟩, hb⟩
      have T12 : Hid (TwoB w #[.slice A n c, .int .i64 b] #[.slice B m d, .int .i64 b2] wz12) := Lib.hid (TwoB.later hb (T11).out)
      have k7_12 : Hid (Bk wz12 (w3.heap.size) 45 #[.slice none 0 0, .int .i64 0]) := Lib.hid (k7_11.out.later hb)
      have Rq12 : Hid (RdI wz12 Aq n cs) := Lib.hid (Rq11.out.below hb)
      have Rp12 := Lib.hid hp
      clear hp hcp hNp
      clear hb
      go_wp2_with fail
      refine hK.out _ _ ?_ (fun hHeld => ?_)
      · clear hK K; exact T12.out.four
      clear hK K
      try simp only [List.getElem_toArray, List.getElem_cons_succ, List.getElem_cons_zero, Act.put, List.setIfInBounds_toArray, List.set_cons_zero, List.set_cons_succ]
      refine wpAnyH_ready (rs := [4]) (by kernel_rfl) (by simp) ?_
      refine AllReadyH.cons rfl (fun K hK => ?_) AllReadyH.nil
      go_simp
      have GZ := k7_12.out.lt
      go_at_call 43
      refine (CCo.out _ _ _ _ _ (Rq12).out (Rp12).out).mono ?_
      rintro e wz13 ⟨⟨Ah, ch, rfl, hh, hNh, hFh⟩, hb⟩
      have T13 : Hid (TwoB w #[.slice A n c, .int .i64 b] #[.slice B m d, .int .i64 b2] wz13) := Lib.hid (TwoB.later hb (T12).out)
      have k7_13 : Hid (Bk wz13 (w3.heap.size) 45 #[.slice none 0 0, .int .i64 0]) := Lib.hid (k7_12.out.later hb)
      have Rh13 := Lib.hid hh
      have NH := Lib.hid hNh
      have NF := Lib.hid hFh
      clear hh hNh hFh
      clear hb
      go_wp2_with fail
      refine hK.out _ _ ?_ (fun hHeld => ?_)
      · clear hK K; exact T13.out.four
      clear hK K
      try simp only [List.getElem_toArray, List.getElem_cons_succ, List.getElem_cons_zero, Act.put, List.setIfInBounds_toArray, List.set_cons_zero, List.set_cons_succ]
      refine wpAnyH_take (i := 5) (v := ?_) rfl (by kernel_rfl) (by kernel_rfl) (by kernel_rfl) (fun _ _ _ h => h) (Or.inl ⟨by rfl, ?_⟩) (by assumption) ?_
      rotate_left
      · intro w hSw; (try dsimp only at hSw); go_simp; (try (with_reducible rfl))
      try simp only [List.getElem_toArray, List.getElem_cons_succ, List.getElem_cons_zero, Act.put, List.setIfInBounds_toArray, List.set_cons_zero, List.set_cons_succ]
      refine wpAnyH_take (i := 6) (v := ?_) rfl (by kernel_rfl) (by kernel_rfl) (by kernel_rfl) (fun _ _ _ h => h) (Or.inl ⟨by rfl, ?_⟩) (by assumption) ?_
      rotate_left
      · intro w hSw; (try dsimp only at hSw); go_simp; (try (with_reducible rfl))
      try simp only [List.getElem_toArray, List.getElem_cons_succ, List.getElem_cons_zero, Act.put, List.setIfInBounds_toArray, List.set_cons_zero, List.set_cons_succ]
      refine wpAnyH_take (i := 7) (v := ?_) rfl (by kernel_rfl) (by kernel_rfl) (by kernel_rfl) (fun _ _ _ h => h) (Or.inl ⟨by rfl, ?_⟩) (by assumption) ?_
      rotate_left
      · intro w hSw; (try dsimp only at hSw); go_simp; (try (with_reducible rfl))
      try simp only [List.getElem_toArray, List.getElem_cons_succ, List.getElem_cons_zero, Act.put, List.setIfInBounds_toArray, List.set_cons_zero, List.set_cons_succ]
      obtain ⟨c70, c71, f70, f71⟩ := cell2' k7_13.out
      refine wpAnyH_ready (rs := [9]) (by kernel_rfl) (by simp) ?_
      refine AllReadyH.cons rfl (fun K hK => ?_) AllReadyH.nil
      go_simp
      refine hK.out _ _ ?_ (fun hHeld => ?_)
      · clear hK K; first | exact (((T13).out.far ⟨w3.heap.size, 0, none⟩ g7_10 _).far ⟨w3.heap.size, 1, none⟩ g7_10 _).four | exact ((TD).out.alloc _).four
      clear hK K
      try simp only [List.getElem_toArray, List.getElem_cons_succ, List.getElem_cons_zero, Act.put, List.setIfInBounds_toArray, List.set_cons_zero, List.set_cons_succ]
      refine wpAnyH_take (i := 10) (v := ?_) rfl (by kernel_rfl) (by kernel_rfl) (by kernel_rfl) (fun _ _ _ h => h) (Or.inl ⟨by rfl, ?_⟩) (by assumption) ?_
      rotate_left
      · intro w hSw; (try dsimp only at hSw); go_simp; (try (with_reducible rfl))
      try simp only [List.getElem_toArray, List.getElem_cons_succ, List.getElem_cons_zero, Act.put, List.setIfInBounds_toArray, List.set_cons_zero, List.set_cons_succ]
      refine wpAnyH_done (by kernel_rfl) ?_ _
      go_wp2_with fail
      go_meet
      refine ⟨w3.heap.size, Ah, ch, rfl, rfl, g7_10, Lib.hid ?_, Lib.hid ?_, Lib.hid ?_, NH⟩
      · first | exact ((k7_13).out.set_ 0 _).set_ 1 _ | exact Bk.new _ _ _
      · first | exact ((T13).out.far ⟨w3.heap.size, 0, none⟩ g7_10 _).far ⟨w3.heap.size, 1, none⟩ g7_10 _ | exact (TD).out.alloc _
      · first | exact rd_farB (rd_farB (Rh13).out ⟨w3.heap.size, 0, none⟩ _ (fun a e _ => by have h1 := NF.out a e; have h2 := GZ; show a.block ≠ w3.heap.size; omega)) ⟨w3.heap.size, 1, none⟩ _ (fun a e _ => by have h1 := NF.out a e; have h2 := GZ; show a.block ≠ w3.heap.size; omega) | exact (rfl).out.allocX _
  case rest =>
  obtain ⟨h7, Ah, ch, rfl, rfl, hg7, hk7, ht, hrh, hnh⟩ := hcut
  clear T3 d0 d1 e0 e1
  obtain ⟨w4, hw⟩ : ∃ W, W = wc := ⟨_, rfl⟩
  subst hw
  have T4 := ht
  have H4 := hk7
  have Y4 := hrh
  have NH := hnh
  clear ht hk7 hrh hnh
  obtain ⟨⟨d0, d1⟩, e0, e1⟩ := T4.out.four
  go_wp2_with fail
  refine (CFe1.out _ (HR1.out _ T4.out)).mono ?_
  rintro e w5 ⟨rfl, hb⟩
  have T5 := Lib.hid (TwoB.later hb T4.out)
  have H5 := Lib.hid (H4.out.later hb)
  have Y5 := Lib.hid (Y4.out.below hb)
  clear T4 H4 Y4 hb
  clear d0 d1 e0 e1
  obtain ⟨⟨d0, d1⟩, e0, e1⟩ := T5.out.four
  go_wp2_with fail
  refine (CFe2.out _ (HR2.out _ T5.out)).mono ?_
  rintro e w6 ⟨rfl, hb⟩
  have T6 := Lib.hid (TwoB.later hb T5.out)
  have H6 := Lib.hid (H5.out.later hb)
  have Y6 := Lib.hid (Y5.out.below hb)
  clear T5 H5 Y5 hb
  clear d0 d1 e0 e1
  have hAV : ∀ a, Ah = some a → 0 < l → a.block ≠ w6.heap.size := fun a e h0 => by obtain ⟨a2, h2, h3, _⟩ := Y6.out.2 h0; rw [e] at h2; cases h2; omega
  have hlt7 : h7 < w6.heap.size := H6.out.lt
  have T7 := Lib.hid (T6.out.alloc (.cells #[.slice none 0 0, .int .i64 0] 45))
  have H7 := Lib.hid (H6.out.alloc (.cells #[.slice none 0 0, .int .i64 0] 45))
  have Y7 := Lib.hid (Y6.out.allocX (.cells #[.slice none 0 0, .int .i64 0] 45))
  clear T6 H6 Y6
  have V7 := Lib.hid (Bk.new w6 45 #[.slice none 0 0, .int .i64 0])
  have hgw : h7 < w6.heap.size := hlt7
  obtain ⟨⟨d0, d1⟩, e0, e1⟩ := T7.out.four
  go_wp2_with fail
  refine (CRC.out _ (HR1.out _ T7.out) (HR2.out _ T7.out)).mono ?_
  rintro e w8 ⟨⟨Aw, cw, rfl, hrw, _, hFw⟩, hb⟩
  have hlv := V7.out.lt
  have T8 := Lib.hid (TwoB.later hb T7.out)
  have H8 := Lib.hid (H7.out.later hb)
  have Y8 := Lib.hid (Y7.out.below hb)
  have V8 := Lib.hid (V7.out.later hb)
  clear T7 H7 Y7 V7 hb
  clear d0 d1 e0 e1
  obtain ⟨v0, v1, vf0, vf1⟩ := cell2' V8.out
  have T9 : Hid (TwoB w #[.slice A n c, .int .i64 b] #[.slice B m d, .int .i64 b2] ((w8.setCell ⟨w6.heap.size, 0, none⟩ (.slice Aw l cw)).setCell ⟨w6.heap.size, 1, none⟩ (.int .i64 (b * b2)))) := Lib.hid ((T8.out.far ⟨w6.heap.size, 0, none⟩ (by show w.heap.size + 1 < w6.heap.size; omega) _).far ⟨w6.heap.size, 1, none⟩ (by show w.heap.size + 1 < w6.heap.size; omega) _)
  have H9 : Hid (Bk ((w8.setCell ⟨w6.heap.size, 0, none⟩ (.slice Aw l cw)).setCell ⟨w6.heap.size, 1, none⟩ (.int .i64 (b * b2))) h7 45 #[.slice Ah l ch, .int .i64 (b * b2)]) := Lib.hid ((H8.out.far ⟨w6.heap.size, 0, none⟩ (by show h7 ≠ w6.heap.size; omega) _).far ⟨w6.heap.size, 1, none⟩ (by show h7 ≠ w6.heap.size; omega) _)
  have V9 : Hid (Bk ((w8.setCell ⟨w6.heap.size, 0, none⟩ (.slice Aw l cw)).setCell ⟨w6.heap.size, 1, none⟩ (.int .i64 (b * b2))) w6.heap.size 45 #[.slice Aw l cw, .int .i64 (b * b2)]) := Lib.hid ((V8.out.set_ 0 _).set_ 1 _)
  have U9 : Hid (RdI ((w8.setCell ⟨w6.heap.size, 0, none⟩ (.slice Aw l cw)).setCell ⟨w6.heap.size, 1, none⟩ (.int .i64 (b * b2))) Aw l hl) := Lib.hid (rd_farB (rd_farB hrw ⟨w6.heap.size, 0, none⟩ _ (fun a e _ => by have := hFw a e; show a.block ≠ w6.heap.size; omega)) ⟨w6.heap.size, 1, none⟩ _ (fun a e _ => by have := hFw a e; show a.block ≠ w6.heap.size; omega))
  have Y9 : Hid (RdI ((w8.setCell ⟨w6.heap.size, 0, none⟩ (.slice Aw l cw)).setCell ⟨w6.heap.size, 1, none⟩ (.int .i64 (b * b2))) Ah l hl) := Lib.hid (rd_farB (rd_farB Y8.out ⟨w6.heap.size, 0, none⟩ _ hAV) ⟨w6.heap.size, 1, none⟩ _ hAV)
  clear T8 H8 Y8 hrw hFw hlv
  obtain ⟨h0, h1⟩ := bkf2 H9.out
  obtain ⟨q0, q1⟩ := bkf2 V9.out
  go_wp2_with fail
  refine (sameFilter_any _ _ _ _ _ _ _ _ Y9.out U9.out (by omega)).mono ?_
  rintro e w10 ⟨rfl, hb⟩
  clear V8 v0 v1 vf0 vf1
  have T10 := Lib.hid (TwoB.later hb T9.out)
  have H10 := Lib.hid (H9.out.later hb)
  have Y10 := Lib.hid (Y9.out.below hb)
  have V10 := Lib.hid (V9.out.later hb)
  have U10 := Lib.hid (U9.out.below hb)
  clear T9 H9 Y9 V9 U9 hb
  clear h0 h1 q0 q1
  obtain ⟨⟨d0, d1⟩, e0, e1⟩ := T10.out.four
  go_wp2
  go_ret
  exact ⟨by simp, T10.out.b⟩

end Go.Proofs.Ytghpofhpkbgckaa
