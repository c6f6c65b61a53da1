import Derived.Deep.DeepCutAuto
import Derived.Test.YtepcciodhppbnaaE15
import Derived.Test.YtepcciodhppbnaaS1

namespace Go.Proofs.Ytepcciodhppbnaa
open Go.RowKit

def holdsQ (t : Int) (ns : List (Int × Int)) (i : Nat) : Bool := decide ((ns.getD i (0, 0)).1 ≤ t) && decide (t ≤ (ns.getD (i + 1) (0, 0)).1)
set_option maxHeartbeats 1000000 in
theorem timAt1_any (x1 x2 y1 y2 t : Int) (B : Nat) (w : World) (hb : w.cell? ⟨B, 0, none⟩ = some (.int .i64 t)) (hlt : B < w.heap.size) :
    Calls Try.prog 86 #[.agg #[.int .i64 x1, .int .i64 x2, .int .i64 y1, .int .i64 y2], .pointer (some ⟨B, 0, none⟩)] w fun e w' => e = .returned (.bool (decide (x1 ≤ t) && decide (t ≤ y1))) ∧ w' = w.alloc (.cells #[.int .i64 x1, .int .i64 x2, .int .i64 y1, .int .i64 y2] 129) := by
  have hne : ¬ B = w.heap.size := by omega
  by_cases h1 : x1 ≤ t
  · go_enter Try.func86, Try.ntmps86
    go_wp2
    go_ret
    exact ⟨retB (by simp [h1]), rfl⟩
  · go_enter Try.func86, Try.ntmps86
    go_wp2
    go_ret
    exact ⟨retB (by simp; omega), rfl⟩
def timP (x1 x2 y2 q : Int) : Int := (y2 - x2) * (q - x1)
def timLo (x1 x2 y1 y2 q : Int) : Int := timP x1 x2 y2 q / (y1 - x1) + x2
def timHi (x1 x2 y1 y2 q : Int) : Int := (timP x1 x2 y2 q + (y1 - x1) - 1) / (y1 - x1) + x2
theorem LInv.alloc {w W : World} {x1 x2 y1 y2 : Int} (h : LInv w x1 x2 y1 y2 W) (o : Obj) : LInv w x1 x2 y1 y2 (W.alloc o) := ⟨h.line.alloc o, by obtain ⟨a, b, k⟩ := h.res; exact ⟨a, b, k.alloc o⟩, h.bel.alloc h.bel.size o⟩
theorem LInv.far {w W : World} {x1 x2 y1 y2 : Int} (h : LInv w x1 x2 y1 y2 W) (a : Addr) (ha : w.heap.size + 1 < a.block) (u : Value) : LInv w x1 x2 y1 y2 (W.setCell a u) := ⟨h.line.far a (by omega) u, by obtain ⟨p, q, k⟩ := h.res; exact ⟨p, q, k.far a (by omega) u⟩, h.bel.setCell (by omega) u⟩
set_option maxRecDepth 100000 in
set_option maxHeartbeats 4000000 in
theorem timeAt_any (x1 x2 y1 y2 q : Int) (w : World) (hx : 0 ≤ x1 ∧ x1 < y1 ∧ y1 ≤ 1000000) (hy : 0 ≤ x2 ∧ x2 < y2 ∧ y2 ≤ 1000000000000) (hq : x1 ≤ q ∧ q ≤ y1) :
    Calls Try.prog 87 #[.agg #[.int .i64 x1, .int .i64 x2, .int .i64 y1, .int .i64 y2], .int .i64 q] w fun e w' => e = .returned (.agg #[.int .i64 (timLo x1 x2 y1 y2 q), .int .i64 (timHi x1 x2 y1 y2 q)]) ∧ Below w.heap.size w w' := by
  have CL := Lib.hid (fun w => length_any x1 x2 y1 y2 w (by omega))
  have CD := Lib.hid (fun w => duration_any x1 x2 y1 y2 w (by omega))
  have hp1 := mul_bd (a := y2 - x2) (b := q - x1) (A := 1000000000000) (B := 1000000) (by omega) (by omega) (by omega) (by omega)
  have hp0 : 0 ≤ (y2 - x2) * (q - x1) := Int.mul_nonneg (by omega) (by omega)
  have hps : (y2 - x2) * (q - x1) ≤ 1000000000000 * (y1 - x1) := Int.mul_le_mul (by omega) (by omega) (by omega) (by omega)
  have HLo : timLo x1 x2 y1 y2 q = timP x1 x2 y2 q / (y1 - x1) + x2 := rfl
  have HHi : timHi x1 x2 y1 y2 q = (timP x1 x2 y2 q + (y1 - x1) - 1) / (y1 - x1) + x2 := rfl
  have HP : timP x1 x2 y2 q = (y2 - x2) * (q - x1) := rfl
  have w1a : IntKind.i64.wrap (q - x1) = q - x1 := IntWalk.i64_in _ (by omega)
  have hDb : 0 < y1 - x1 ∧ y1 - x1 ≤ 1000000 := by omega
  obtain ⟨D, hD⟩ : ∃ D, y1 - x1 = D := ⟨_, rfl⟩
  obtain ⟨L, hL⟩ : ∃ L, y2 - x2 = L := ⟨_, rfl⟩
  obtain ⟨T, hT⟩ : ∃ T, q - x1 = T := ⟨_, rfl⟩
  rw [hL] at hp1 hp0 hps HP CD
  rw [hT] at hp1 hp0 hps HP w1a
  rw [hD] at hps HLo HHi hDb CL
  have w1 : IntKind.i64.wrap (q - x1) = T := by rw [hT]; exact w1a
  obtain ⟨p, hp⟩ : ∃ p, L * T = p := ⟨_, rfl⟩
  have w2 : IntKind.i64.wrap (L * T) = p := by rw [← hp]; exact IntWalk.i64_in _ (by omega)
  rw [hp] at hp1 hp0 hps HP
  rw [HP] at HLo HHi
  have CR := Lib.hid (fun w => rounded_any p D w (by omega) (by omega))
  have ha0 := Int.ediv_nonneg (a := p) (b := D) (by omega) (by omega)
  have ha1 : p / D ≤ 1000000000000 := Int.ediv_le_of_le_mul hDb.1 (by omega)
  have hb0 := Int.ediv_nonneg (a := p + D - 1) (b := D) (by omega) (by omega)
  have hb1 : (p + D - 1) / D ≤ 1000000000001 := Int.ediv_le_of_le_mul hDb.1 (by omega)
  obtain ⟨lo, hlo'⟩ : ∃ lo, p / D = lo := ⟨_, rfl⟩
  obtain ⟨hi, hhi'⟩ : ∃ hi, (p + D - 1) / D = hi := ⟨_, rfl⟩
  rw [hlo'] at CR ha0 ha1 HLo
  rw [hhi'] at CR hb0 hb1 HHi
  have CM := Lib.hid (fun w => moved_any lo hi x2 w (by omega))
  rw [HLo, HHi]
  clear HLo HHi hlo' hhi' hp hL hD hT hps hp1 HP w1a
  have T0 := Lib.hid (LInv.start w x1 x2 y1 y2)
  go_enter Try.func87, Try.ntmps87
  go_upto_region 1 with fail
  obtain ⟨W, hW⟩ : ∃ W, ((w.alloc (.cells #[.int .i64 x1, .int .i64 x2, .int .i64 y1, .int .i64 y2] 129)).alloc (.cells #[.int .i64 0, .int .i64 0] 72)) = W := ⟨_, rfl⟩
  rw [hW] at T0 ⊢
  clear hW
  go_cut [5] (fun s5 wx => ∃ g7 : Nat, s5 = .pointer (some ⟨g7, 0, none⟩) ∧ w.heap.size + 1 < g7 ∧ Hid (Bk wx g7 72 #[.int .i64 lo, .int .i64 hi]) ∧ Hid (LInv w x1 x2 y1 y2 wx))
  case first =>
    refine wp_region_held_drew (S := (fun w' : World => w'.cell? ⟨w.heap.size, 0, none⟩ = some (.int .i64 x1) ∧ w'.cell? ⟨w.heap.size, 1, none⟩ = some (.int .i64 x2) ∧ w'.cell? ⟨w.heap.size, 2, none⟩ = some (.int .i64 y1) ∧ w'.cell? ⟨w.heap.size, 3, none⟩ = some (.int .i64 y2))) (by kernel_rfl) ?_ ?_
    · exact (T0.out.drew).cells
    intro hHeld
    have TD : Hid (LInv w x1 x2 y1 y2 W.drew) := Lib.hid T0.out.drew
    refine wpAnyH_take (i := 0) (v := ?_) rfl (by kernel_rfl) (by kernel_rfl) (by kernel_rfl) (fun _ _ _ h => h) (Or.inl ⟨by rfl, ?_⟩) (by assumption) ?_
    rotate_left
    · intro w hSw; (try dsimp only at hSw); go_simp; (try (with_reducible rfl))
    try simp only [List.getElem_toArray, List.getElem_cons_succ, List.getElem_cons_zero, Act.put, List.setIfInBounds_toArray, List.set_cons_zero, List.set_cons_succ]
    refine wpAnyH_take (i := 2) (v := ?_) rfl (by kernel_rfl) (by kernel_rfl) (by kernel_rfl) (fun _ _ _ h => h) (Or.inl ⟨by rfl, ?_⟩) (by assumption) ?_
    rotate_left
    · intro w hSw; (try dsimp only at hSw); go_simp; (try (with_reducible rfl))
    try simp only [List.getElem_toArray, List.getElem_cons_succ, List.getElem_cons_zero, Act.put, List.setIfInBounds_toArray, List.set_cons_zero, List.set_cons_succ]
    refine wpAnyH_take (i := 3) (v := ?_) rfl (by kernel_rfl) (by kernel_rfl) (by kernel_rfl) (fun _ _ _ h => h) (Or.inl ⟨by rfl, ?_⟩) (by assumption) ?_
    rotate_left
    · intro w hSw; (try dsimp only at hSw); go_simp; (try (with_reducible rfl))
    try simp only [List.getElem_toArray, List.getElem_cons_succ, List.getElem_cons_zero, Act.put, List.setIfInBounds_toArray, List.set_cons_zero, List.set_cons_succ]
    refine wpAnyH_take (i := 4) (v := ?_) rfl (by kernel_rfl) (by kernel_rfl) (by kernel_rfl) (fun _ _ _ h => h) (Or.inl ⟨by rfl, ?_⟩) (by assumption) ?_
    rotate_left
    · intro w hSw; (try dsimp only at hSw); go_simp; (try (with_reducible rfl))
    try simp only [List.getElem_toArray, List.getElem_cons_succ, List.getElem_cons_zero, Act.put, List.setIfInBounds_toArray, List.set_cons_zero, List.set_cons_succ]
    refine wpAnyH_take (i := 5) (v := ?_) rfl (by kernel_rfl) (by kernel_rfl) (by kernel_rfl) (fun _ _ _ h => h) (Or.inl ⟨by rfl, ?_⟩) (by assumption) ?_
    rotate_left
    · intro w hSw; (try dsimp only at hSw); go_simp; (try (with_reducible rfl))
    try simp only [List.getElem_toArray, List.getElem_cons_succ, List.getElem_cons_zero, Act.put, List.setIfInBounds_toArray, List.set_cons_zero, List.set_cons_succ]
    refine wpAnyH_take (i := 6) (v := ?_) rfl (by kernel_rfl) (by kernel_rfl) (by kernel_rfl) (fun _ _ _ h => h) (Or.inl ⟨by rfl, ?_⟩) (by assumption) ?_
    rotate_left
    · intro w hSw; (try dsimp only at hSw); go_simp; (try (with_reducible rfl))
    try simp only [List.getElem_toArray, List.getElem_cons_succ, List.getElem_cons_zero, Act.put, List.setIfInBounds_toArray, List.set_cons_zero, List.set_cons_succ]
    refine wpAnyH_take (i := 8) (v := ?_) rfl (by kernel_rfl) (by kernel_rfl) (by kernel_rfl) (fun _ _ _ h => h) (Or.inl ⟨by rfl, ?_⟩) (by assumption) ?_
    rotate_left
    · intro w hSw; (try dsimp only at hSw); go_simp; (try (with_reducible rfl))
    try simp only [List.getElem_toArray, List.getElem_cons_succ, List.getElem_cons_zero, Act.put, List.setIfInBounds_toArray, List.set_cons_zero, List.set_cons_succ]
    refine wpAnyH_ready (rs := [1, 11]) (by kernel_rfl) (by simp) ?_
    refine AllReadyH.cons rfl (fun K hK => ?_) (AllReadyH.cons rfl (fun K hK => ?_) AllReadyH.nil)
    · go_simp
      go_at_call 106
      (with_reducible refine (CD.out _).mono ?_)
      rintro e wz1 ⟨rfl, hb⟩
      have T1 : Hid (LInv w x1 x2 y1 y2 wz1) := Lib.hid (LInv.later hb (TD).out)
      clear hb
      go_wp2_with fail
      refine hK.out _ _ ?_ (fun hHeld => ?_)
      · clear hK K; exact T1.out.cells
      clear hK K
      try simp only [List.getElem_toArray, List.getElem_cons_succ, List.getElem_cons_zero, Act.put, List.setIfInBounds_toArray, List.set_cons_zero, List.set_cons_succ]
      refine wpAnyH_take (i := 7) (v := ?_) rfl (by kernel_rfl) (by kernel_rfl) (by kernel_rfl) (fun _ _ _ h => h) (Or.inl ⟨by rfl, ?_⟩) (by assumption) ?_
      rotate_left
      · intro w hSw; (try dsimp only at hSw); go_simp; (try (with_reducible rfl))
      try simp only [List.getElem_toArray, List.getElem_cons_succ, List.getElem_cons_zero, Act.put, List.setIfInBounds_toArray, List.set_cons_zero, List.set_cons_succ]
      refine wpAnyH_ready (rs := [9, 11]) (by kernel_rfl) (by simp) ?_
      refine AllReadyH.cons rfl (fun K hK => ?_) (AllReadyH.cons rfl (fun K hK => ?_) AllReadyH.nil)
      · go_simp
        go_at_call 107
        (with_reducible refine (CL.out _).mono ?_)
        rintro e wz2 ⟨rfl, hb⟩
        have T2 : Hid (LInv w x1 x2 y1 y2 wz2) := Lib.hid (LInv.later hb (T1).out)
        clear hb
        go_wp2_with fail
        refine hK.out _ _ ?_ (fun hHeld => ?_)
        · clear hK K; exact T2.out.cells
        clear hK K
        try simp only [List.getElem_toArray, List.getElem_cons_succ, List.getElem_cons_zero, Act.put, List.setIfInBounds_toArray, List.set_cons_zero, List.set_cons_succ]
        refine wpAnyH_ready (rs := [10, 11]) (by kernel_rfl) (by simp) ?_
        refine AllReadyH.cons rfl (fun K hK => ?_) (AllReadyH.cons rfl (fun K hK => ?_) AllReadyH.nil)
        · go_simp
          go_at_call 128
          (with_reducible refine (CR.out _).mono ?_)
          rintro e wz3 ⟨rfl, hb⟩
          have T3 : Hid (LInv w x1 x2 y1 y2 wz3) := Lib.hid (LInv.later hb (T2).out)
          clear hb
          go_wp2_with fail
          refine hK.out _ _ ?_ (fun hHeld => ?_)
          · clear hK K; exact T3.out.cells
          clear hK K
          try simp only [List.getElem_toArray, List.getElem_cons_succ, List.getElem_cons_zero, Act.put, List.setIfInBounds_toArray, List.set_cons_zero, List.set_cons_succ]
          refine wpAnyH_ready (rs := [11]) (by kernel_rfl) (by simp) ?_
          refine AllReadyH.cons rfl (fun K hK => ?_) AllReadyH.nil
          go_simp
          have T4 : Hid (LInv w x1 x2 y1 y2 (wz3.alloc (.cells #[.int .i64 0, .int .i64 0] 72))) := Lib.hid ((T3).out.alloc (.cells #[.int .i64 0, .int .i64 0] 72))
          have k7_4 : Hid (Bk (wz3.alloc (.cells #[.int .i64 0, .int .i64 0] 72)) (wz3.heap.size) 72 #[.int .i64 0, .int .i64 0]) := Lib.hid (Bk.new wz3 72 #[.int .i64 0, .int .i64 0])
          have g7_4 : w.heap.size + 1 < wz3.heap.size := (by obtain ⟨_, _, kk⟩ := (T3).out.res; exact kk.lt)
          refine hK.out _ _ ?_ (fun hHeld => ?_)
          · clear hK K; exact T4.out.cells
          clear hK K
          try simp only [List.getElem_toArray, List.getElem_cons_succ, List.getElem_cons_zero, Act.put, List.setIfInBounds_toArray, List.set_cons_zero, List.set_cons_succ]
          obtain ⟨c70, c71, f70, f71⟩ := bk2 k7_4.out
          refine wpAnyH_ready (rs := [12]) (by kernel_rfl) (by simp) ?_
          refine AllReadyH.cons rfl (fun K hK => ?_) AllReadyH.nil
          go_simp
          refine hK.out _ _ ?_ (fun hHeld => ?_)
          · clear hK K; first | exact (((T4).out.far ⟨wz3.heap.size, 0, none⟩ g7_4 _).far ⟨wz3.heap.size, 1, none⟩ g7_4 _).cells | exact (T3.out.alloc _).cells | exact (T3.out.alloc _).drew.cells
          clear hK K
          try simp only [List.getElem_toArray, List.getElem_cons_succ, List.getElem_cons_zero, Act.put, List.setIfInBounds_toArray, List.set_cons_zero, List.set_cons_succ]
          refine wpAnyH_done (by kernel_rfl) ?_ _
          go_wp2_with fail
          go_meet
          refine ⟨wz3.heap.size, rfl, g7_4, Lib.hid ?_, Lib.hid ?_⟩
          · first | exact (((k7_4).out.set_ 0 _).set_ 1 _) | exact Bk.new _ _ _ | exact (Bk.new _ _ _).drew
          · first | exact ((T4).out.far ⟨wz3.heap.size, 0, none⟩ g7_4 _).far ⟨wz3.heap.size, 1, none⟩ g7_4 _ | exact T3.out.alloc _ | exact (T3.out.alloc _).drew
        · go_simp
          have T5 : Hid (LInv w x1 x2 y1 y2 (wz2.alloc (.cells #[.int .i64 0, .int .i64 0] 72))) := Lib.hid ((T2).out.alloc (.cells #[.int .i64 0, .int .i64 0] 72))
          have k7_5 : Hid (Bk (wz2.alloc (.cells #[.int .i64 0, .int .i64 0] 72)) (wz2.heap.size) 72 #[.int .i64 0, .int .i64 0]) := Lib.hid (Bk.new wz2 72 #[.int .i64 0, .int .i64 0])
          have g7_5 : w.heap.size + 1 < wz2.heap.size := (by obtain ⟨_, _, kk⟩ := (T2).out.res; exact kk.lt)
          refine hK.out _ _ ?_ (fun hHeld => ?_)
          · clear hK K; exact T5.out.cells
          clear hK K
          try simp only [List.getElem_toArray, List.getElem_cons_succ, List.getElem_cons_zero, Act.put, List.setIfInBounds_toArray, List.set_cons_zero, List.set_cons_succ]
          refine wpAnyH_ready (rs := [10]) (by kernel_rfl) (by simp) ?_
          refine AllReadyH.cons rfl (fun K hK => ?_) AllReadyH.nil
          go_simp
          go_at_call 128
          (with_reducible refine (CR.out _).mono ?_)
          rintro e wz6 ⟨rfl, hb⟩
          have T6 : Hid (LInv w x1 x2 y1 y2 wz6) := Lib.hid (LInv.later hb (T5).out)
          have k7_6 : Hid (Bk wz6 (wz2.heap.size) 72 #[.int .i64 0, .int .i64 0]) := Lib.hid (k7_5.out.later hb)
          clear hb
          go_wp2_with fail
          refine hK.out _ _ ?_ (fun hHeld => ?_)
          · clear hK K; exact T6.out.cells
          clear hK K
          try simp only [List.getElem_toArray, List.getElem_cons_succ, List.getElem_cons_zero, Act.put, List.setIfInBounds_toArray, List.set_cons_zero, List.set_cons_succ]
          obtain ⟨c70, c71, f70, f71⟩ := bk2 k7_6.out
          refine wpAnyH_ready (rs := [12]) (by kernel_rfl) (by simp) ?_
          refine AllReadyH.cons rfl (fun K hK => ?_) AllReadyH.nil
          go_simp
          refine hK.out _ _ ?_ (fun hHeld => ?_)
          · clear hK K; first | exact (((T6).out.far ⟨wz2.heap.size, 0, none⟩ g7_5 _).far ⟨wz2.heap.size, 1, none⟩ g7_5 _).cells | exact (T2.out.alloc _).cells | exact (T2.out.alloc _).drew.cells
          clear hK K
          try simp only [List.getElem_toArray, List.getElem_cons_succ, List.getElem_cons_zero, Act.put, List.setIfInBounds_toArray, List.set_cons_zero, List.set_cons_succ]
          refine wpAnyH_done (by kernel_rfl) ?_ _
          go_wp2_with fail
          go_meet
          refine ⟨wz2.heap.size, rfl, g7_5, Lib.hid ?_, Lib.hid ?_⟩
          · first | exact (((k7_6).out.set_ 0 _).set_ 1 _) | exact Bk.new _ _ _ | exact (Bk.new _ _ _).drew
          · first | exact ((T6).out.far ⟨wz2.heap.size, 0, none⟩ g7_5 _).far ⟨wz2.heap.size, 1, none⟩ g7_5 _ | exact T2.out.alloc _ | exact (T2.out.alloc _).drew
      · go_simp
        have T7 : Hid (LInv w x1 x2 y1 y2 (wz1.alloc (.cells #[.int .i64 0, .int .i64 0] 72))) := Lib.hid ((T1).out.alloc (.cells #[.int .i64 0, .int .i64 0] 72))
        have k7_7 : Hid (Bk (wz1.alloc (.cells #[.int .i64 0, .int .i64 0] 72)) (wz1.heap.size) 72 #[.int .i64 0, .int .i64 0]) := Lib.hid (Bk.new wz1 72 #[.int .i64 0, .int .i64 0])
        have g7_7 : w.heap.size + 1 < wz1.heap.size := (by obtain ⟨_, _, kk⟩ := (T1).out.res; exact kk.lt)
        refine hK.out _ _ ?_ (fun hHeld => ?_)
        · clear hK K; exact T7.out.cells
        clear hK K
        try simp only [List.getElem_toArray, List.getElem_cons_succ, List.getElem_cons_zero, Act.put, List.setIfInBounds_toArray, List.set_cons_zero, List.set_cons_succ]
        refine wpAnyH_ready (rs := [9]) (by kernel_rfl) (by simp) ?_
        refine AllReadyH.cons rfl (fun K hK => ?_) AllReadyH.nil
        go_simp
        go_at_call 107
        (with_reducible refine (CL.out _).mono ?_)
        rintro e wz8 ⟨rfl, hb⟩
        have T8 : Hid (LInv w x1 x2 y1 y2 wz8) := Lib.hid (LInv.later hb (T7).out)
        have k7_8 : Hid (Bk wz8 (wz1.heap.size) 72 #[.int .i64 0, .int .i64 0]) := Lib.hid (k7_7.out.later hb)
        clear hb
        go_wp2_with fail
        refine hK.out _ _ ?_ (fun hHeld => ?_)
        · clear hK K; exact T8.out.cells
        clear hK K
        try simp only [List.getElem_toArray, List.getElem_cons_succ, List.getElem_cons_zero, Act.put, List.setIfInBounds_toArray, List.set_cons_zero, List.set_cons_succ]
        refine wpAnyH_ready (rs := [10]) (by kernel_rfl) (by simp) ?_
        refine AllReadyH.cons rfl (fun K hK => ?_) AllReadyH.nil
        go_simp
        go_at_call 128
        (with_reducible refine (CR.out _).mono ?_)
        rintro e wz9 ⟨rfl, hb⟩
        have T9 : Hid (LInv w x1 x2 y1 y2 wz9) := Lib.hid (LInv.later hb (T8).out)
        have k7_9 : Hid (Bk wz9 (wz1.heap.size) 72 #[.int .i64 0, .int .i64 0]) := Lib.hid (k7_8.out.later hb)
        clear hb
        go_wp2_with fail
        refine hK.out _ _ ?_ (fun hHeld => ?_)
        · clear hK K; exact T9.out.cells
        clear hK K
        try simp only [List.getElem_toArray, List.getElem_cons_succ, List.getElem_cons_zero, Act.put, List.setIfInBounds_toArray, List.set_cons_zero, List.set_cons_succ]
        obtain ⟨c70, c71, f70, f71⟩ := bk2 k7_9.out
        refine wpAnyH_ready (rs := [12]) (by kernel_rfl) (by simp) ?_
        refine AllReadyH.cons rfl (fun K hK => ?_) AllReadyH.nil
        go_simp
        refine hK.out _ _ ?_ (fun hHeld => ?_)
        · clear hK K; first | exact (((T9).out.far ⟨wz1.heap.size, 0, none⟩ g7_7 _).far ⟨wz1.heap.size, 1, none⟩ g7_7 _).cells | exact (T1.out.alloc _).cells | exact (T1.out.alloc _).drew.cells
        clear hK K
        try simp only [List.getElem_toArray, List.getElem_cons_succ, List.getElem_cons_zero, Act.put, List.setIfInBounds_toArray, List.set_cons_zero, List.set_cons_succ]
        refine wpAnyH_done (by kernel_rfl) ?_ _
        go_wp2_with fail
        go_meet
        refine ⟨wz1.heap.size, rfl, g7_7, Lib.hid ?_, Lib.hid ?_⟩
        · first | exact (((k7_9).out.set_ 0 _).set_ 1 _) | exact Bk.new _ _ _ | exact (Bk.new _ _ _).drew
        · first | exact ((T9).out.far ⟨wz1.heap.size, 0, none⟩ g7_7 _).far ⟨wz1.heap.size, 1, none⟩ g7_7 _ | exact T1.out.alloc _ | exact (T1.out.alloc _).drew
    · go_simp
      have T10 : Hid (LInv w x1 x2 y1 y2 (W.alloc (.cells #[.int .i64 0, .int .i64 0] 72)).drew) := Lib.hid ((TD).out.alloc (.cells #[.int .i64 0, .int .i64 0] 72))
      have k7_10 : Hid (Bk (W.alloc (.cells #[.int .i64 0, .int .i64 0] 72)).drew (W.heap.size) 72 #[.int .i64 0, .int .i64 0]) := Lib.hid (Bk.new W 72 #[.int .i64 0, .int .i64 0])
      have g7_10 : w.heap.size + 1 < W.heap.size := (by obtain ⟨_, _, kk⟩ := (TD).out.res; exact kk.lt)
      refine hK.out _ _ ?_ (fun hHeld => ?_)
      · clear hK K; exact T10.out.cells
      clear hK K
      try simp only [List.getElem_toArray, List.getElem_cons_succ, List.getElem_cons_zero, Act.put, List.setIfInBounds_toArray, List.set_cons_zero, List.set_cons_succ]
      refine wpAnyH_ready (rs := [1]) (by kernel_rfl) (by simp) ?_
      refine AllReadyH.cons rfl (fun K hK => ?_) AllReadyH.nil
      go_simp
      go_at_call 106
      (with_reducible refine (CD.out _).mono ?_)
      rintro e wz11 ⟨rfl, hb⟩
      have T11 : Hid (LInv w x1 x2 y1 y2 wz11) := Lib.hid (LInv.later hb (T10).out)
      have k7_11 : Hid (Bk wz11 (W.heap.size) 72 #[.int .i64 0, .int .i64 0]) := Lib.hid (k7_10.out.later hb)
      clear hb
      go_wp2_with fail
      refine hK.out _ _ ?_ (fun hHeld => ?_)
      · clear hK K; exact T11.out.cells
      clear hK K
      try simp only [List.getElem_toArray, List.getElem_cons_succ, List.getElem_cons_zero, Act.put, List.setIfInBounds_toArray, List.set_cons_zero, List.set_cons_succ]
      refine wpAnyH_take (i := 7) (v := ?_) rfl (by kernel_rfl) (by kernel_rfl) (by kernel_rfl) (fun _ _ _ h => h) (Or.inl ⟨by rfl, ?_⟩) (by assumption) ?_
      rotate_left
      · intro w hSw; (try dsimp only at hSw); go_simp; (try (with_reducible rfl))
      try simp only [List.getElem_toArray, List.getElem_cons_succ, List.getElem_cons_zero, Act.put, List.setIfInBounds_toArray, List.set_cons_zero, List.set_cons_succ]
      refine wpAnyH_ready (rs := [9]) (by kernel_rfl) (by simp) ?_
      refine AllReadyH.cons rfl (fun K hK => ?_) AllReadyH.nil
      go_simp
      go_at_call 107
      (with_reducible refine (CL.out _).mono ?_)
      rintro e wz12 ⟨rfl, hb⟩
      have T12 : Hid (LInv w x1 x2 y1 y2 wz12) := Lib.hid (LInv.later hb (T11).out)
      have k7_12 : Hid (Bk wz12 (W.heap.size) 72 #[.int .i64 0, .int .i64 0]) := Lib.hid (k7_11.out.later hb)
      clear hb
      go_wp2_with fail
      refine hK.out _ _ ?_ (fun hHeld => ?_)
      · clear hK K; exact T12.out.cells
      clear hK K
      try simp only [List.getElem_toArray, List.getElem_cons_succ, List.getElem_cons_zero, Act.put, List.setIfInBounds_toArray, List.set_cons_zero, List.set_cons_succ]
      refine wpAnyH_ready (rs := [10]) (by kernel_rfl) (by simp) ?_
      refine AllReadyH.cons rfl (fun K hK => ?_) AllReadyH.nil
      go_simp
      go_at_call 128
      (with_reducible refine (CR.out _).mono ?_)
      rintro e wz13 ⟨rfl, hb⟩
      have T13 : Hid (LInv w x1 x2 y1 y2 wz13) := Lib.hid (LInv.later hb (T12).out)
      have k7_13 : Hid (Bk wz13 (W.heap.size) 72 #[.int .i64 0, .int .i64 0]) := Lib.hid (k7_12.out.later hb)
      clear hb
      go_wp2_with fail
      refine hK.out _ _ ?_ (fun hHeld => ?_)
      · clear hK K; exact T13.out.cells
      clear hK K
      try simp only [List.getElem_toArray, List.getElem_cons_succ, List.getElem_cons_zero, Act.put, List.setIfInBounds_toArray, List.set_cons_zero, List.set_cons_succ]
      obtain ⟨c70, c71, f70, f71⟩ := bk2 k7_13.out
      refine wpAnyH_ready (rs := [12]) (by kernel_rfl) (by simp) ?_
      refine AllReadyH.cons rfl (fun K hK => ?_) AllReadyH.nil
      go_simp
      refine hK.out _ _ ?_ (fun hHeld => ?_)
      · clear hK K; first | exact (((T13).out.far ⟨W.heap.size, 0, none⟩ g7_10 _).far ⟨W.heap.size, 1, none⟩ g7_10 _).cells | exact (TD.out.alloc _).cells | exact (TD.out.alloc _).drew.cells
      clear hK K
      try simp only [List.getElem_toArray, List.getElem_cons_succ, List.getElem_cons_zero, Act.put, List.setIfInBounds_toArray, List.set_cons_zero, List.set_cons_succ]
      refine wpAnyH_done (by kernel_rfl) ?_ _
      go_wp2_with fail
      go_meet
      refine ⟨W.heap.size, rfl, g7_10, Lib.hid ?_, Lib.hid ?_⟩
      · first | exact (((k7_13).out.set_ 0 _).set_ 1 _) | exact Bk.new _ _ _ | exact (Bk.new _ _ _).drew
      · first | exact ((T13).out.far ⟨W.heap.size, 0, none⟩ g7_10 _).far ⟨W.heap.size, 1, none⟩ g7_10 _ | exact TD.out.alloc _ | exact (TD.out.alloc _).drew
  case rest =>
    obtain ⟨g7, rfl, hg7, hk7, ht⟩ := hcut
    obtain ⟨w9, hw9⟩ : ∃ W, W = wc := ⟨_, rfl⟩
    subst hw9
    obtain ⟨e0, e1, _, _⟩ := bk2 hk7.out
    obtain ⟨x0c, x1c, x2c, x3c⟩ := ht.out.cells
    clear T0
    go_wp2_with fail
    refine (CM.out _).mono ?_
    rintro e w5 ⟨rfl, hb⟩
    obtain ⟨ra, rb, kr⟩ := (LInv.later hb ht.out).res
    have B5 := (LInv.later hb ht.out).bel
    obtain ⟨r0, r1, rf0, rf1⟩ := bk2 kr
    clear hb
    go_wp2
    refine bodyPost_ret (v := .agg #[.int .i64 (lo + x2), .int .i64 (hi + x2)]) (by simp [results, Try.results87, go_sem, r0, r1, rf0, rf1]) rfl ⟨rfl, ?_⟩
    go_grown

end Go.Proofs.Ytepcciodhppbnaa

namespace Go.Proofs.Ytepcciodhppbnaa
open Go.RowKit

open Go.Shelf
attribute [local go_sem] Oper.semAt_some

/-- The first piece that has a time. -/
def findQ (t : Int) (ns : List (Int × Int)) : Nat → Nat → Option Nat
  | _, 0 => none
  | i, k + 1 => if holdsQ t ns i = true then some i else findQ t ns (i + 1) k
theorem findQ_some {t : Int} {ns : List (Int × Int)} : ∀ {k i j : Nat}, (∀ x, i ≤ x → x < i + j → holdsQ t ns x = false) → j < k → holdsQ t ns (i + j) = true → findQ t ns i k = some (i + j)
  | 0, _, _, _, h, _ => by omega
  | k + 1, i, 0, _, _, h => by unfold findQ; rw [if_pos (by simpa using h)]; rfl
  | k + 1, i, j + 1, hp, hj, h => by
    unfold findQ
    rw [if_neg (by rw [hp i (by omega) (by omega)]; simp)]
    have := findQ_some (t := t) (ns := ns) (k := k) (i := i + 1) (j := j) (fun x h1 h2 => hp x (by omega) (by omega)) (by omega) (by rw [← h]; congr 1; omega)
    rw [this]; congr 1; omega
theorem findQ_none {t : Int} {ns : List (Int × Int)} : ∀ {k i : Nat}, (∀ x, i ≤ x → x < i + k → holdsQ t ns x = false) → findQ t ns i k = none
  | 0, _, _ => rfl
  | k + 1, i, hp => by
    unfold findQ
    rw [if_neg (by rw [hp i (by omega) (by omega)]; simp)]
    exact findQ_none fun x h1 h2 => hp x (by omega) (by omega)
/-- The piece with a time, as the function gives it. -/
def pieceResQ (t : Int) (ns : List (Int × Int)) : Value × Int :=
  if (mapR ns).2 = 0 then (match findQ t ns 0 (ns.length - 1) with | some i => (pieceV ns i, 0) | none => (.agg #[.int .i64 0, .int .i64 0, .int .i64 0, .int .i64 0], 2)) else (.agg #[.int .i64 0, .int .i64 0, .int .i64 0, .int .i64 0], (mapR ns).2)

/-- The boxes of pieceWith. -/
structure PInvQ (w : World) (A : Option Addr) (m c B : Nat) (r : Array Value) (ev : Int) (W : World) : Prop where
  bm : Bk W w.heap.size 24 #[.slice A m c]
  bf : Bk W (w.heap.size + 1) 132 #[.func (.func 86) #[] #[.pointer (some ⟨B, 0, none⟩)]]
  br : Bk W (w.heap.size + 2) 129 r
  be : Bk W (w.heap.size + 3) 30 #[.int .i64 ev]
  bel : Below w.heap.size w W
theorem PInvQ.later {w W w' : World} {A : Option Addr} {m c B : Nat} {r : Array Value} {ev : Int} (h : PInvQ w A m c B r ev W) (hb : Below W.heap.size W w') : PInvQ w A m c B r ev w' :=
  ⟨h.bm.later hb, h.bf.later hb, h.br.later hb, h.be.later hb, h.bel.trans (hb.mono h.bel.size)⟩
theorem PInvQ.own {w : World} {A : Option Addr} {m c B : Nat} {r : Array Value} {ev : Int} (n : Nat) (hn : w.heap.size ≤ n) : OwnFrom n (fun (_ : Unit) W => PInvQ w A m c B r ev W) := fun s X Y row hs hg hr => by
  have k : ∀ {g : Nat} {t : TypeId} {cs : Array Value}, Bk X g t cs → Bk Y g t cs := fun {g t cs} h => Bk.grown h hg (fun e' => by
    obtain ⟨_, o, ho, hc⟩ := hr g e'.symm
    rw [show X.heap[g]? = _ from h] at ho; cases ho; cases hc)
  exact ⟨k hs.bm, k hs.bf, k hs.br, k hs.be, hs.bel.grown hg hs.bel.size (fun k e => by have := (hr k e).1; omega)⟩

theorem PInvQ.set {w W : World} {A : Option Addr} {m c B : Nat} {a0 a1 a2 a3 : Value} {ev : Int} (h : PInvQ w A m c B #[a0, a1, a2, a3] ev W) (b0 b1 b2 b3 : Value) (e : Int) :
    PInvQ w A m c B #[b0, b1, b2, b3] e (((((W.setCell ⟨w.heap.size + 2, 0, none⟩ b0).setCell ⟨w.heap.size + 2, 1, none⟩ b1).setCell ⟨w.heap.size + 2, 2, none⟩ b2).setCell ⟨w.heap.size + 2, 3, none⟩ b3).setCell ⟨w.heap.size + 3, 0, none⟩ (.int .i64 e)) := by
  refine ⟨?_, ?_, ?_, ?_, ?_⟩
  · exact ((((h.bm.far _ (by simp) _).far _ (by simp) _).far _ (by simp) _).far _ (by simp) _).far _ (by simp) _
  · exact ((((h.bf.far _ (by simp) _).far _ (by simp) _).far _ (by simp) _).far _ (by simp) _).far _ (by simp) _
  · exact ((((h.br.set_ 0 b0).set_ 1 b1).set_ 2 b2).set_ 3 b3).far _ (by simp) _
  · exact (((((h.be.far _ (by simp) _).far _ (by simp) _).far _ (by simp) _).far _ (by simp) _).set_ 0 _)
  · exact ((((h.bel.setCell (p := ⟨w.heap.size + 2, 0, none⟩) (by simp) _).setCell (p := ⟨w.heap.size + 2, 1, none⟩) (by simp) _).setCell (p := ⟨w.heap.size + 2, 2, none⟩) (by simp) _).setCell (p := ⟨w.heap.size + 2, 3, none⟩) (by simp) _).setCell (p := ⟨w.heap.size + 3, 0, none⟩) (by simp) _

set_option maxRecDepth 100000 in
set_option maxHeartbeats 4000000 in
theorem pieceWithQ_any (A : Option Addr) (m c : Nat) (ns : List (Int × Int)) (t : Int) (B : Nat) (w : World) (hr : RdN w A m ns) (hm : m ≤ 1000000) (hB : w.cell? ⟨B, 0, none⟩ = some (.int .i64 t)) (hBl : B < w.heap.size) :
    Calls Try.prog 85 #[.agg #[.slice A m c], .func (.func 86) #[] #[.pointer (some ⟨B, 0, none⟩)]] w fun e w' => e = .returned (.tuple #[(pieceResQ t ns).1, .int .i64 (pieceResQ t ns).2]) ∧ Below w.heap.size w w' := by
  have HR := Lib.hid hr
  have HBt := Lib.hid hB
  have HL : Hid (ns.length = m) := hr.1
  have HP : Hid (pieceResQ t ns = if (mapR ns).2 = 0 then (match findQ t ns 0 (m - 1) with | some i => (pieceV ns i, 0) | none => (.agg #[.int .i64 0, .int .i64 0, .int .i64 0, .int .i64 0], 2)) else (.agg #[.int .i64 0, .int .i64 0, .int .i64 0, .int .i64 0], (mapR ns).2)) := by show _ = _; unfold pieceResQ; rw [hr.1]
  have CM : Hid (∀ w', Below w.heap.size w w' → Calls Try.prog 103 #[.agg #[.slice A m c]] w' fun e w'' => e = .returned (.int .i64 (mapR ns).2) ∧ Below w'.heap.size w' w'') := fun w' hb => checkMap_any A m c ns w' (hr.below hb) hm
  have HMok : Hid ((mapR ns).2 = 0 → nodesOk ns ∧ 2 ≤ ns.length ∧ ns.length ≤ 20) := fun h => mapR_ok h
  obtain ⟨E, hE⟩ : ∃ E, (mapR ns).2 = E := ⟨_, rfl⟩
  rw [hE] at HP CM HMok
  clear hr hB hE
  refine (callsIn_wide (n := 6)).1 ?_
  refine callsIn_of_wp_marks Try.func85 rfl trivial ?_ rfl
  simp only [Try.ntmps85, List.size_toArray, List.length_cons, List.length_nil, Nat.reduceAdd, Nat.reduceSub, Array.replicate_succ, Array.replicate_zero, List.push_toArray, List.append_toArray, List.nil_append, List.cons_append]
  gi_wp2_with fail
  have hP0 : PInvQ w A m c B #[.int .i64 0, .int .i64 0, .int .i64 0, .int .i64 0] 0 ((((w.alloc (.cells #[.slice A m c] 24)).alloc (.cells #[.func (.func 86) #[] #[.pointer (some ⟨B, 0, none⟩)]] 132)).alloc (.cells #[.int .i64 0, .int .i64 0, .int .i64 0, .int .i64 0] 129)).alloc (.cells #[.int .i64 0] 30)) := by
    refine ⟨?_, ?_, ?_, ?_, by go_grown⟩
    · exact (((Bk.new w _ _).alloc _).alloc _).alloc _
    · have h := ((Bk.new (w.alloc (.cells #[.slice A m c] 24)) 132 #[.func (.func 86) #[] #[.pointer (some ⟨B, 0, none⟩)]]).alloc (.cells #[.int .i64 0, .int .i64 0, .int .i64 0, .int .i64 0] 129)).alloc (.cells #[.int .i64 0] 30)
      simpa using h
    · have h := (Bk.new ((w.alloc (.cells #[.slice A m c] 24)).alloc (.cells #[.func (.func 86) #[] #[.pointer (some ⟨B, 0, none⟩)]] 132)) 129 #[.int .i64 0, .int .i64 0, .int .i64 0, .int .i64 0]).alloc (.cells #[.int .i64 0] 30)
      simpa using h
    · have h := Bk.new (((w.alloc (.cells #[.slice A m c] 24)).alloc (.cells #[.func (.func 86) #[] #[.pointer (some ⟨B, 0, none⟩)]] 132)).alloc (.cells #[.int .i64 0, .int .i64 0, .int .i64 0, .int .i64 0] 129)) 30 #[.int .i64 0]
      simpa using h
  have HP0 := Lib.hid hP0
  clear hP0
  refine ⟨trivial, ?_⟩
  refine (callsIn_wide.2 (CM.out _ HP0.out.bel)).mono ?_
  rintro e w1 ⟨rfl, hb1⟩
  have hP1 := HP0.out.later hb1
  have HP1 := Lib.hid hP1
  clear HP0 hb1 CM
  obtain ⟨m0, _⟩ := bk1 hP1.bm
  obtain ⟨f0, _⟩ := bk1 hP1.bf
  obtain ⟨r0, r1, r2, r3, z0, z1, z2, z3⟩ := bk4 hP1.br
  obtain ⟨e0, y0⟩ := bk1 hP1.be
  have hsz1 : w.heap.size + 4 ≤ w1.heap.size := by have := hP1.be.lt; omega
  clear hP1
  gi_wp2_with fail
  · have h0 := ne0_of (F := E) (by assumption)
    have HPV : Hid (pieceResQ t ns = (.agg #[.int .i64 0, .int .i64 0, .int .i64 0, .int .i64 0], E)) := by show _ = _; rw [HP.out, if_neg h0]
    refine ⟨.tuple #[.agg #[.int .i64 0, .int .i64 0, .int .i64 0, .int .i64 0], .int .i64 E], ?_, ?_, ?_⟩
    · simp [results, Try.f85, go_sem, r0, r1, r2, r3, z0, z1, z2, z3, e0, y0]
    · rw [HPV.out]
    · have := HP1.out.bel
      go_grown
  · have h0 := eq0_of (F := E) (by assumption)
    subst h0
    obtain ⟨hok, hl2, hl20⟩ := HMok.out rfl
    have HOK := Lib.hid hok
    have HPV : Hid (pieceResQ t ns = (match findQ t ns 0 (m - 1) with | some i => (pieceV ns i, 0) | none => (.agg #[.int .i64 0, .int .i64 0, .int .i64 0, .int .i64 0], 2))) := by show _ = _; rw [HP.out, if_pos rfl]
    clear hok HMok HP
    refine ⟨trivial, ?_⟩
    refine (callsIn_wide.2 (piecesOf_any A m c w1)).mono ?_
    rintro e w2 ⟨rfl, hw2⟩
    have HP2 := Lib.hid (HP1.out.later (w' := w2) (by rw [hw2]; exact below1 _ _))
    have HM2 : Hid (Bk w2 w1.heap.size 24 #[.slice A m c]) := by show Bk _ _ _ _; rw [hw2]; exact Bk.new _ _ _
    have hz2 : w2.heap.size = w1.heap.size + 1 := by rw [hw2]; simp
    have HR2 := Lib.hid (HR.out.below HP2.out.bel)
    clear hw2 HP1 m0 f0 r0 r1 r2 r3 z0 z1 z2 z3 e0 y0
    gi_wp2_with fail
    have hm2 : w2.cell? ⟨w1.heap.size, 0, none⟩ = some (.slice A m c) := (bk1 HM2.out).1
    refine wpIn_rangeFunc_ownH (α := Pc m) rfl (by omega) (gf := 136) (lb := #[.pointer (some ⟨w1.heap.size, 0, none⟩)]) rfl trivial (enters_of Try.func136 (by kernel_rfl) rfl)
      (pieces_stops Fence.wide _ trivial rfl (by omega) w1.heap.size w2.heap.size A m c ns w2 (by omega) (Nat.le_refl _) hm HR2.out hm2) belowK_t (belowK_b (Nat.le_refl _)) (Below.refl _ _) (fun _ => rfl)
      (fun pre W => (∀ x ∈ pre, holdsQ t ns x.1 = false) ∧ PInvQ w A m c B #[.int .i64 0, .int .i64 0, .int .i64 0, .int .i64 0] 0 W ∧ w2.heap.size ≤ W.heap.size)
      (fun cc pre W => cc = .ret ∧ (∃ q x, pre = q ++ [x] ∧ (∀ y ∈ q, holdsQ t ns y.1 = false) ∧ holdsQ t ns x.1 = true ∧ PInvQ w A m c B (pieceA ns x.1) 0 W))
      (fun s X Y row hs hg hr => ⟨hs.1, PInvQ.own w2.heap.size (by have := HP2.out.be.lt; omega) () X Y row hs.2.1 hg hr, Nat.le_trans hs.2.2 hg.size⟩)
      (fun cc s X Y row hs hg hr => ⟨hs.1, by obtain ⟨q, x, h1, h2, h3, h4⟩ := hs.2; exact ⟨q, x, h1, h2, h3, PInvQ.own w2.heap.size (by have := HP2.out.be.lt; omega) () X Y row h4 hg hr⟩⟩)
      ⟨by simp, HP2.out, Nat.le_refl _⟩
      (fun x a' W => ∃ Bx, w2.heap.size ≤ Bx ∧ Bk W Bx 129 (pieceA ns x.1) ∧ a' = { tmps := #[.agg #[.slice A m c], .func (.func 86) #[] #[.pointer (some ⟨B, 0, none⟩)], .pointer (some ⟨w.heap.size, 0, none⟩), .pointer (some ⟨w.heap.size + 1, 0, none⟩), .pointer (some ⟨w.heap.size + 1 + 1, 0, none⟩), .pointer (some ⟨w.heap.size + 1 + 1 + 1, 0, none⟩), .int .i64 0, undef, .pointer (some ⟨Bx, 0, none⟩), .agg #[.slice A m c], .int .i64 0, .int .i64 0, .bool false, undef, undef, .agg #[.slice A m c], .func (.func 136) #[] #[.pointer (some ⟨w1.heap.size, 0, none⟩)], .int .i64 (x.1 : Nat), pieceV ns x.1, undef, undef, undef, undef, undef], defers := [] })
      (fun x a' s X Y row hs hg hr => by
        obtain ⟨Bx, h1, h2, h3⟩ := hs
        exact ⟨Bx, h1, Bk.grown h2 hg (fun e' => by obtain ⟨_, o, ho, hc⟩ := hr Bx e'.symm; rw [show X.heap[Bx]? = _ from h2] at ho; cases ho; cases hc), h3⟩)
      ?assign ?body ?done ?stop
    case assign =>
      rintro l pre x W K hi hK
      obtain ⟨h1, h2, h3⟩ := hi
      rw [pieceV_eq] at hK ⊢
      unfold pieceA at hK ⊢
      gi_wp2
      exact hK _ _ ((KeepsOthers.alloc _ _).from _) ((Below.refl _ W).alloc h3 _) ⟨h1, h2.later (below1 _ _), by simp; omega⟩ ⟨W.heap.size, h3, Bk.new _ _ _, rfl⟩
    case body =>
      rintro l pre x a' W hl ⟨r, hr⟩ ⟨hp, hP, hs⟩ ⟨Bx, hBx, bX, rfl⟩ _
      have hBW : W.cell? ⟨B, 0, none⟩ = some (.int .i64 t) := (hP.bel.cell (p := ⟨B, 0, none⟩) hBl).trans HBt.out
      have hBW2 : B < W.heap.size := by have := hP.bel.size; omega
      have CH : Hid (Calls Try.prog 86 #[pieceV ns x.1, .pointer (some ⟨B, 0, none⟩)] W fun e w' => e = .returned (.bool (holdsQ t ns x.1)) ∧ w' = W.alloc (.cells (pieceA ns x.1) 129)) := timAt1_any _ _ _ _ t B W hBW hBW2
      obtain ⟨bb, hbb⟩ : ∃ bb, holdsQ t ns x.1 = bb := ⟨_, rfl⟩
      rw [hbb] at CH
      have HBB := Lib.hid hbb
      have HP0 := Lib.hid hP
      have HPre := Lib.hid hp
      have HX0 := Lib.hid bX
      obtain ⟨f0, _⟩ := bk1 hP.bf
      rw [pieceV_eq] at CH ⊢
      have HPA : Hid (pieceA ns x.1 = pieceA ns x.1) := rfl
      obtain ⟨⟨x1, x2⟩, hx⟩ : ∃ p, ns.getD x.1 (0, 0) = p := ⟨_, rfl⟩
      obtain ⟨⟨y1, y2⟩, hy⟩ : ∃ p, ns.getD (x.1 + 1) (0, 0) = p := ⟨_, rfl⟩
      have hpa : pieceA ns x.1 = #[.int .i64 x1, .int .i64 x2, .int .i64 y1, .int .i64 y2] := by unfold pieceA; rw [hx, hy]
      rw [hpa] at CH bX HX0 ⊢
      have HPE := Lib.hid hpa
      clear hpa hx hy hbb hp hBW
      obtain ⟨b0, b1, b2, b3, _, _, _, _⟩ := bk4 bX
      clear hP bX
      cases bb
      · gi_wp2_with (refine ⟨trivial, ?_⟩; gi_at_call 86; refine (CallsIn.inRound l (callsIn_wide.2 CH.out)).mono ?_; rintro e w' ⟨rfl, rfl⟩)
        exact ⟨(KeepsOthers.alloc _ _).from _, (Below.refl _ W).alloc hs _, ⟨fun y hy => (List.mem_append.1 hy).elim (HPre.out y) (fun e => by simp at e; subst e; exact HBB.out), HP0.out.later (below1 _ _), by simp; omega⟩⟩
      · have hP1 := HP0.out.later (below1 W (.cells #[.int .i64 x1, .int .i64 x2, .int .i64 y1, .int .i64 y2] 129))
        have hX1 := HX0.out.alloc (.cells #[.int .i64 x1, .int .i64 x2, .int .i64 y1, .int .i64 y2] 129)
        have HKO := Lib.hid ((KeepsOthers.alloc W (.cells #[.int .i64 x1, .int .i64 x2, .int .i64 y1, .int .i64 y2] 129)))
        gi_wp2_with fail
        refine ⟨trivial, ?_⟩
        refine (CallsIn.inRound l (callsIn_wide.2 CH.out)).mono ?_
        rintro e w' ⟨rfl, hw'⟩
        rw [← hw'] at hP1 hX1 HKO
        have HP1 := Lib.hid hP1
        clear hw' b0 b1 b2 b3 f0
        obtain ⟨b0, b1, b2, b3, _, _, _, _⟩ := bk4 hX1
        obtain ⟨r0, r1, r2, r3, z0, z1, z2, z3⟩ := bk4 hP1.br
        obtain ⟨e0, y0⟩ := bk1 hP1.be
        have hne : ¬ Bx = w.heap.size + 2 := by have := HP2.out.be.lt; omega
        clear hP1 hX1
        gi_wp2
        refine ⟨?_, rfl, pre, x, rfl, HPre.out, HBB.out, ?_⟩
        · exact (((((HKO.out.trans (KeepsOthers.setCell _ _ _)).trans (KeepsOthers.setCell _ _ _)).trans (KeepsOthers.setCell _ _ _)).trans (KeepsOthers.setCell _ _ _)).trans (KeepsOthers.setCell _ _ _)).from _
        · rw [HPE.out]
          exact HP1.out.set _ _ _ _ 0
    case done =>
      rintro D ys W hD hys ⟨hp, hP, hs⟩ hK
      obtain ⟨r0, r1, r2, r3, z0, z1, z2, z3⟩ := bk4 hP.br
      obtain ⟨e0, y0⟩ := bk1 hP.be
      have HP0 := Lib.hid hP
      have HF : Hid (findQ t ns 0 (m - 1) = none) := findQ_none fun x _ h => all_idx (P := fun i => holdsQ t ns i = false) hys hp x (by omega)
      clear hP hp hys
      have HK := Lib.hid hK
      clear hK
      gi_wp2
      have hPf := HP0.out.set (.int .i64 0) (.int .i64 0) (.int .i64 0) (.int .i64 0) 2
      have hK' := (((((KeepsOthers.setCell W ⟨w.heap.size + 2, 0, none⟩ (.int .i64 0)).trans (KeepsOthers.setCell _ ⟨w.heap.size + 2, 1, none⟩ (.int .i64 0))).trans (KeepsOthers.setCell _ ⟨w.heap.size + 2, 2, none⟩ (.int .i64 0))).trans (KeepsOthers.setCell _ ⟨w.heap.size + 2, 3, none⟩ (.int .i64 0))).trans (KeepsOthers.setCell _ ⟨w.heap.size + 3, 0, none⟩ (.int .i64 2))).same D _ HK.out rfl
      refine ⟨by simp, .inl ⟨_, _, rfl, run_takeDeferred hK', ?_⟩⟩
      have hPg := PInvQ.own w2.heap.size (by have := HP2.out.be.lt; omega) () _ _ (some D) hPf (grownBy_putObj' _ D (.deferred none)) (fun r e => by cases e; exact ⟨hD, _, hK', rfl⟩)
      clear r0 r1 r2 r3 z0 z1 z2 z3 e0 y0
      obtain ⟨r0, r1, r2, r3, _, _, _, _⟩ := bk4 hPg.br
      obtain ⟨e0, _⟩ := bk1 hPg.be
      refine ⟨.tuple #[.agg #[.int .i64 0, .int .i64 0, .int .i64 0, .int .i64 0], .int .i64 2], ?_, ?_, hPg.bel⟩
      · simp [results, Try.f85, go_sem, r0, r1, r2, r3, e0]
      · rw [HPV.out, HF.out]
    case stop =>
      rintro D cc pre W hD hpre ⟨rfl, q, x, rfl, hq, hx, hP⟩ hK
      obtain ⟨h1, h2, h3⟩ := pre_last (P := fun i => holdsQ t ns i = false) hpre hq
      have HF : Hid (findQ t ns 0 (m - 1) = some x.1) := by
        show _ = _
        rw [findQ_some (j := q.length) (fun y _ hy => h3 y (by omega)) h2 (by rw [Nat.zero_add, ← h1]; exact hx), h1, Nat.zero_add]
      have HP0 := Lib.hid hP
      have HK := Lib.hid hK
      clear hP hK hq h1 h2 h3 hpre
      gi_wp2
      refine ⟨by simp, .inl ⟨_, _, rfl, run_takeDeferred HK.out, ?_⟩⟩
      have hPg := PInvQ.own w2.heap.size (by have := HP2.out.be.lt; omega) () _ _ (some D) HP0.out (grownBy_putObj' _ D (.deferred none)) (fun r e => by cases e; exact ⟨hD, _, HK.out, rfl⟩)
      obtain ⟨r0, r1, r2, r3, _, _, _, _⟩ := bk4 hPg.br
      obtain ⟨e0, _⟩ := bk1 hPg.be
      refine ⟨.tuple #[pieceV ns x.1, .int .i64 0], ?_, ?_, hPg.bel⟩
      · unfold pieceV
        simp [results, Try.f85, go_sem, r0, r1, r2, r3, e0]
      · rw [HPV.out, HF.out]

end Go.Proofs.Ytepcciodhppbnaa


namespace Go.Proofs.Ytepcciodhppbnaa
open Go.RowKit

theorem holdsQ_iff {t : Int} {ns : List (Int × Int)} {i : Nat} (h : holdsQ t ns i = true) : (ns.getD i (0, 0)).1 ≤ t ∧ t ≤ (ns.getD (i + 1) (0, 0)).1 := by
  unfold holdsQ at h
  simpa using h
theorem findQ_spec {t : Int} {ns : List (Int × Int)} : ∀ {k i j : Nat}, findQ t ns i k = some j → i ≤ j ∧ j < i + k ∧ holdsQ t ns j = true
  | 0, _, _, h => by cases h
  | k + 1, i, j, h => by
    unfold findQ at h
    by_cases h0 : holdsQ t ns i = true
    · rw [if_pos h0] at h
      cases h
      exact ⟨Nat.le_refl _, by omega, h0⟩
    · rw [if_neg h0] at h
      obtain ⟨a, b, c⟩ := findQ_spec h
      exact ⟨by omega, by omega, c⟩
/-- The position at a time, as the function gives it: its ends, and the error. -/
def timR (t : Int) (ns : List (Int × Int)) : Int × Int × Int :=
  if (mapR ns).2 = 0 then (match findQ t ns 0 (ns.length - 1) with
    | some i => (timLo (ns.getD i (0, 0)).1 (ns.getD i (0, 0)).2 (ns.getD (i + 1) (0, 0)).1 (ns.getD (i + 1) (0, 0)).2 t, timHi (ns.getD i (0, 0)).1 (ns.getD i (0, 0)).2 (ns.getD (i + 1) (0, 0)).1 (ns.getD (i + 1) (0, 0)).2 t, 0)
    | none => (0, 0, 2)) else (0, 0, (mapR ns).2)

/-- What a call of PositionAt gives. -/
def TimRes (t : Int) (ns : List (Int × Int)) (w : World) (e : Ending) (w' : World) : Prop :=
  e = .returned (.tuple #[.agg #[.int .i64 (timR t ns).1, .int .i64 (timR t ns).2.1], .int .i64 (timR t ns).2.2]) ∧ Below w.heap.size w w'
set_option maxRecDepth 100000 in
set_option maxHeartbeats 2000000 in
theorem TimeAt_any (A : Option Addr) (m c : Nat) (ns : List (Int × Int)) (t : Int) (w : World) (hr : RdN w A m ns) (hm : m ≤ 1000000) :
    Calls Try.prog 40 #[.agg #[.slice A m c], .int .i64 t] w (TimRes t ns w) := by
  have CP : Hid (∀ w', Below w.heap.size w w' → ∀ B, w'.cell? ⟨B, 0, none⟩ = some (.int .i64 t) → B < w'.heap.size → Calls Try.prog 85 #[.agg #[.slice A m c], .func (.func 86) #[] #[.pointer (some ⟨B, 0, none⟩)]] w' fun e w'' => e = .returned (.tuple #[(pieceResQ t ns).1, .int .i64 (pieceResQ t ns).2]) ∧ Below w'.heap.size w' w'') := fun w' hb B h1 h2 => pieceWithQ_any A m c ns t B w' (hr.below hb) hm h1 h2
  have key : (∃ ev, ¬ ev = 0 ∧ pieceResQ t ns = (.agg #[.int .i64 0, .int .i64 0, .int .i64 0, .int .i64 0], ev) ∧ timR t ns = (0, 0, ev)) ∨
      (∃ x1 x2 y1 y2 : Int, pieceResQ t ns = (.agg #[.int .i64 x1, .int .i64 x2, .int .i64 y1, .int .i64 y2], 0) ∧ timR t ns = (timLo x1 x2 y1 y2 t, timHi x1 x2 y1 y2 t, 0) ∧ (0 ≤ x1 ∧ x1 < y1 ∧ y1 ≤ 1000000) ∧ (0 ≤ x2 ∧ x2 < y2 ∧ y2 ≤ 1000000000000) ∧ (x1 ≤ t ∧ t ≤ y1)) := by
    unfold pieceResQ timR
    by_cases hE : (mapR ns).2 = 0
    · rw [if_pos hE, if_pos hE]
      cases hf : findQ t ns 0 (ns.length - 1) with
      | none => exact .inl ⟨2, by omega, rfl, rfl⟩
      | some i =>
        obtain ⟨_, h2, h3⟩ := findQ_spec hf
        have h4 := holdsQ_iff h3
        obtain ⟨hok, _, _⟩ := mapR_ok hE
        have h5 := hok i (by omega)
        exact .inr ⟨_, _, _, _, rfl, rfl, h5.1, h5.2, h4⟩
    · rw [if_neg hE, if_neg hE]
      exact .inl ⟨_, hE, rfl, rfl⟩
  clear hr
  rcases key with ⟨ev, h0, hp, hq⟩ | ⟨x1, x2, y1, y2, hp, hq, hx, hy, ht⟩
  · have HQ : Hid (∀ w', Below w.heap.size w w' → TimRes t ns w (.returned (.tuple #[.agg #[.int .i64 0, .int .i64 0], .int .i64 ev])) w') := fun w' hb => ⟨by rw [hq], hb⟩
    rw [hp] at CP
    have hne : (ev != 0) = true := by rw [bne_iff_ne]; exact h0
    clear hp hq h0
    go_enter Try.func40, Try.ntmps40
    go_wp2_with fail
    refine (CP.out _ (by go_grown) _ ?_ ?_).mono ?_
    · simp [go_sem]
    · simp
    rintro e w1 ⟨rfl, hb1⟩
    have KR := Lib.hid ((show Bk (((w.alloc (.cells #[.slice A m c] 24)).alloc (.cells #[.int .i64 t] 3)).alloc (.cells #[.int .i64 0, .int .i64 0] 72)) (w.heap.size + 2) 72 #[.int .i64 0, .int .i64 0] by have h := Bk.new ((w.alloc (.cells #[.slice A m c] 24)).alloc (.cells #[.int .i64 t] 3)) 72 #[.int .i64 0, .int .i64 0]; simpa using h).later hb1)
    have BW := Lib.hid ((show Below w.heap.size w (((w.alloc (.cells #[.slice A m c] 24)).alloc (.cells #[.int .i64 t] 3)).alloc (.cells #[.int .i64 0, .int .i64 0] 72)) by go_grown).trans (hb1.mono (by simp; omega)))
    clear hb1
    obtain ⟨e0, e1, k0, k1⟩ := bk2 KR.out
    have hlt := KR.out.lt
    have hn2 : ¬ w.heap.size + 2 = w1.heap.size := by omega
    go_wp2
    refine bodyPost_ret (v := .tuple #[.agg #[.int .i64 0, .int .i64 0], .int .i64 ev]) (by simp [results, Try.results40, go_sem, e0, e1, k0, k1, hlt, hn2]) rfl (HQ.out _ ?_)
    have := BW.out
    have := this.size
    go_grown
  · have HQ : Hid (∀ w', Below w.heap.size w w' → TimRes t ns w (.returned (.tuple #[.agg #[.int .i64 (timLo x1 x2 y1 y2 t), .int .i64 (timHi x1 x2 y1 y2 t)], .int .i64 0])) w') := fun w' hb => ⟨by rw [hq], hb⟩
    have CA := Lib.hid (fun w => timeAt_any x1 x2 y1 y2 t w hx hy ht)
    rw [hp] at CP
    clear hp hq hx hy ht
    obtain ⟨lo, hlo⟩ : ∃ lo, timLo x1 x2 y1 y2 t = lo := ⟨_, rfl⟩
    obtain ⟨hi, hhi⟩ : ∃ hi, timHi x1 x2 y1 y2 t = hi := ⟨_, rfl⟩
    rw [hlo, hhi] at CA HQ
    clear hlo hhi
    go_enter Try.func40, Try.ntmps40
    go_wp2_with fail
    refine (CP.out _ (by go_grown) _ ?_ ?_).mono ?_
    · simp [go_sem]
    · simp
    rintro e w1 ⟨rfl, hb1⟩
    have KR := Lib.hid ((show Bk (((w.alloc (.cells #[.slice A m c] 24)).alloc (.cells #[.int .i64 t] 3)).alloc (.cells #[.int .i64 0, .int .i64 0] 72)) (w.heap.size + 2) 72 #[.int .i64 0, .int .i64 0] by have h := Bk.new ((w.alloc (.cells #[.slice A m c] 24)).alloc (.cells #[.int .i64 t] 3)) 72 #[.int .i64 0, .int .i64 0]; simpa using h).later hb1)
    have KT := Lib.hid ((show Bk (((w.alloc (.cells #[.slice A m c] 24)).alloc (.cells #[.int .i64 t] 3)).alloc (.cells #[.int .i64 0, .int .i64 0] 72)) (w.heap.size + 1) 3 #[.int .i64 t] by have h := (Bk.new (w.alloc (.cells #[.slice A m c] 24)) 3 #[.int .i64 t]).alloc (.cells #[.int .i64 0, .int .i64 0] 72); simpa using h).later hb1)
    have BW := Lib.hid ((show Below w.heap.size w (((w.alloc (.cells #[.slice A m c] 24)).alloc (.cells #[.int .i64 t] 3)).alloc (.cells #[.int .i64 0, .int .i64 0] 72)) by go_grown).trans (hb1.mono (by simp; omega)))
    clear hb1
    have hlt := KR.out.lt
    obtain ⟨t0, _⟩ := bk1 KT.out
    have hn1 : ¬ w.heap.size + 1 = w1.heap.size := by omega
    have hl1 : w.heap.size + 1 < w1.heap.size := by omega
    have t1 : (w1.alloc (.cells #[.int .i64 x1, .int .i64 x2, .int .i64 y1, .int .i64 y2] 129)).cell? ⟨w.heap.size + 1, 0, none⟩ = some (.int .i64 t) := (World.cell?_alloc_lt w1 _ _ hl1).trans t0
    have hn2 : ¬ w.heap.size + 2 = w1.heap.size := by omega
    go_wp2_with fail
    refine (CA.out _).mono ?_
    rintro e w2 ⟨rfl, hb2⟩
    have KR2 := Lib.hid ((KR.out.alloc (.cells #[.int .i64 x1, .int .i64 x2, .int .i64 y1, .int .i64 y2] 129)).later hb2)
    have BW2 := Lib.hid (((BW.out.alloc (by have := BW.out.size; omega) (.cells #[.int .i64 x1, .int .i64 x2, .int .i64 y1, .int .i64 y2] 129))).trans (hb2.mono (by have := BW.out.size; simp; omega)))
    clear hb2
    obtain ⟨e0, e1, k0, k1⟩ := bk2 KR2.out
    go_wp2
    refine bodyPost_ret (v := .tuple #[.agg #[.int .i64 lo, .int .i64 hi], .int .i64 0]) (by simp [results, Try.results40, go_sem, e0, e1, k0, k1]) rfl (HQ.out _ ?_)
    have := BW2.out
    go_grown

end Go.Proofs.Ytepcciodhppbnaa


namespace Go.Proofs.Ytepcciodhppbnaa
open Go.RowKit

/-- The boxes of a function that reads two nodes of a map: the map's, the result's. -/
structure NJ (w : World) (v : Value) (x1 x2 x3 x4 : Addr) (a1 a2 b1 b2 : Int) (W : World) : Prop where
  box : Bk W w.heap.size 24 #[v]
  c1 : W.cell? x1 = some (.int .i64 a1)
  c2 : W.cell? x2 = some (.int .i64 a2)
  c3 : W.cell? x3 = some (.int .i64 b1)
  c4 : W.cell? x4 = some (.int .i64 b2)
  bel : Below w.heap.size w W
  hg : x1.block < w.heap.size ∧ x2.block < w.heap.size ∧ x3.block < w.heap.size ∧ x4.block < w.heap.size
theorem NJ.drew {w W : World} {v : Value} {x1 x2 x3 x4 : Addr} {a1 a2 b1 b2 : Int} (h : NJ w v x1 x2 x3 x4 a1 a2 b1 b2 W) : NJ w v x1 x2 x3 x4 a1 a2 b1 b2 W.drew := ⟨h.box.drew, h.c1, h.c2, h.c3, h.c4, h.bel.drew, h.hg⟩
theorem NJ.drewN {w W : World} {v : Value} {x1 x2 x3 x4 : Addr} {a1 a2 b1 b2 : Int} (h : NJ w v x1 x2 x3 x4 a1 a2 b1 b2 W) (k : Nat) : NJ w v x1 x2 x3 x4 a1 a2 b1 b2 (W.drewN k) := ⟨h.box.drewN k, h.c1, h.c2, h.c3, h.c4, belowDrewN h.bel k, h.hg⟩
theorem NJ.alloc {w W : World} {v : Value} {x1 x2 x3 x4 : Addr} {a1 a2 b1 b2 : Int} (h : NJ w v x1 x2 x3 x4 a1 a2 b1 b2 W) (ob : Obj) : NJ w v x1 x2 x3 x4 a1 a2 b1 b2 (W.alloc ob) :=
  ⟨h.box.alloc ob, cellA _ h.c1, cellA _ h.c2, cellA _ h.c3, cellA _ h.c4, h.bel.alloc h.bel.size ob, h.hg⟩
theorem NJ.far {w W : World} {v : Value} {x1 x2 x3 x4 : Addr} {a1 a2 b1 b2 : Int} (h : NJ w v x1 x2 x3 x4 a1 a2 b1 b2 W) (a : Addr) (ha : w.heap.size < a.block) (u : Value) : NJ w v x1 x2 x3 x4 a1 a2 b1 b2 (W.setCell a u) := by
  have hg := h.hg
  refine ⟨h.box.far a (by omega) u, ?_, ?_, ?_, ?_, h.bel.setCell (by omega) u, hg⟩
  all_goals rw [World.cell?_setCell_far _ _ _ _ (fun e => by omega)]
  · exact h.c1
  · exact h.c2
  · exact h.c3
  · exact h.c4
theorem NJ.five {w W : World} {v : Value} {x1 x2 x3 x4 : Addr} {a1 a2 b1 b2 : Int} (h : NJ w v x1 x2 x3 x4 a1 a2 b1 b2 W) :
    W.cell? ⟨w.heap.size, 0, none⟩ = some v ∧ W.cell? x1 = some (.int .i64 a1) ∧ W.cell? x2 = some (.int .i64 a2) ∧ W.cell? x3 = some (.int .i64 b1) ∧ W.cell? x4 = some (.int .i64 b2) :=
  ⟨(bk1 h.box).1, h.c1, h.c2, h.c3, h.c4⟩
set_option maxRecDepth 100000 in
set_option maxHeartbeats 4000000 in
theorem refTimeNum_any (n c : Nat) (ns : List (Int × Int)) (t : Int) (ad : Addr) (p : Nat) (w : World) (hr : RdP w (some ad) n ns) (hn : n ≤ 1000000) (hp : p + 1 < n) (hbefore : ∀ j, j < p → (ns.getD (j + 1) (0, 0)).1 < t)
    (a1 a2 b1 b2 : Int) (ha : ns.getD p (0, 0) = (a1, a2)) (hb : ns.getD (p + 1) (0, 0) = (b1, b2)) (hx : 0 ≤ a1 ∧ a1 < b1 ∧ b1 ≤ 1000000) (hy : 0 ≤ a2 ∧ a2 < b2 ∧ b2 ≤ 1000000000000) (ht : a1 ≤ t ∧ t ≤ b1) :
    Calls Try.prog 88 #[.agg #[.slice (some ad) n c], .int .i64 t] w fun e w' => e = .returned (.tuple #[.int .i64 (a2 * (b1 - a1) + (b2 - a2) * (t - a1)), .int .i64 (b1 - a1)]) ∧ Below w.heap.size w w' := by
  have hp1 := mul_bd (a := b2 - a2) (b := t - a1) (A := 1000000000000) (B := 1000000) (by omega) (by omega) (by omega) (by omega)
  have hp2 := mul_bd (a := a2) (b := b1 - a1) (A := 1000000000000) (B := 1000000) (by omega) (by omega) (by omega) (by omega)
  have w1a : IntKind.i64.wrap (t - a1) = t - a1 := IntWalk.i64_in _ (by omega)
  have w1b : IntKind.i64.wrap (b1 - a1) = b1 - a1 := IntWalk.i64_in _ (by omega)
  have w1c : IntKind.i64.wrap (b2 - a2) = b2 - a2 := IntWalk.i64_in _ (by omega)
  obtain ⟨D, hD⟩ : ∃ D, b2 - a2 = D := ⟨_, rfl⟩
  obtain ⟨L, hL⟩ : ∃ L, b1 - a1 = L := ⟨_, rfl⟩
  obtain ⟨T, hT⟩ : ∃ T, t - a1 = T := ⟨_, rfl⟩
  rw [hD, hT] at hp1
  rw [hL] at hp2
  rw [hL, hD, hT]
  have v1 : IntKind.i64.wrap (t - a1) = T := by rw [w1a, hT]
  have v2 : IntKind.i64.wrap (b1 - a1) = L := by rw [w1b, hL]
  have v3 : IntKind.i64.wrap (b2 - a2) = D := by rw [w1c, hD]
  have v4 : IntKind.i64.wrap (a2 * L) = a2 * L := IntWalk.i64_in _ (by omega)
  have v5 : IntKind.i64.wrap (D * T) = D * T := IntWalk.i64_in _ (by omega)
  have v6 : IntKind.i64.wrap (a2 * L + D * T) = a2 * L + D * T := IntWalk.i64_in _ (by omega)
  clear w1a w1b w1c hp1 hp2 hD hL hT
  obtain ⟨q, hq⟩ : ∃ q, p + 1 = q := ⟨_, rfl⟩
  have hqn : q < n := by omega
  have hpn : p < n := by omega
  obtain ⟨ad', hg', hgl, hcs⟩ := hr.2 (by omega)
  cases hg'
  have hc1 := hcs p hpn
  have hc2 := hcs q hqn
  rw [ha] at hc1
  rw [← hq, hb] at hc2
  rw [hq] at hc2
  obtain ⟨x1, hx1⟩ : ∃ a, ad.add (p * 2) = a := ⟨_, rfl⟩
  obtain ⟨x3, hx3⟩ : ∃ a, ad.add (q * 2) = a := ⟨_, rfl⟩
  have hxb : x1.block < w.heap.size ∧ x3.block < w.heap.size := by rw [← hx1, ← hx3, addBlock, addBlock]; exact ⟨hgl, hgl⟩
  rw [hx1] at hc1
  rw [hx3] at hc2
  obtain ⟨x2, hx2⟩ : ∃ a, x1.add 1 = a := ⟨_, rfl⟩
  obtain ⟨x4, hx4⟩ : ∃ a, x3.add 1 = a := ⟨_, rfl⟩
  have hxb2 : x2.block < w.heap.size ∧ x4.block < w.heap.size := by rw [← hx2, ← hx4, addBlock, addBlock]; exact hxb
  rw [hx2] at hc1
  rw [hx4] at hc2
  have N0 : Hid (NJ w (.slice (some ad) n c) x1 x2 x3 x4 a1 a2 b1 b2 (w.alloc (.cells #[.slice (some ad) n c] 24))) := Lib.hid ⟨Bk.new _ _ _, cellA _ hc1.1, cellA _ hc1.2, cellA _ hc2.1, cellA _ hc2.2, below1 _ _, hxb.1, hxb2.1, hxb.2, hxb2.2⟩
  have HC : Hid (∀ j, j < n → (w.alloc (.cells #[.slice (some ad) n c] 24)).cell? (ad.add (j * 2)) = some (.int .i64 (ns.getD j (0, 0)).1)) := Lib.hid (fun j hj => cellA _ (hcs j hj).1)
  have HB := Lib.hid hbefore
  have HE : Hid ((ns.getD q (0, 0)).1 = b1) := Lib.hid (by rw [← hq, hb])
  clear hcs hc1 hc2 hr hbefore hb ha
  go_enter Try.func88, Try.ntmps88
  go_wp2
  obtain ⟨W, hW⟩ : ∃ W, (w.alloc (.cells #[.slice (some ad) n c] 24)) = W := ⟨_, rfl⟩
  rw [hW] at N0 HC ⊢
  clear hW
  go_loop [6] (fun i => ∃ k : Nat, k ≤ p ∧ i = .int .i64 k) (fun i => p - (intOf i).toNat)
  case atStart => exact ⟨0, Nat.zero_le _, rfl⟩
  case round =>
    obtain ⟨k, hk, rfl⟩ := hrel
    have c0 := (bk1 N0.out.box).1
    by_cases hlt : k < p
    · obtain ⟨j, hj⟩ : ∃ j, k + 1 = j := ⟨_, rfl⟩
      have hjn : j < n := by omega
      have hjI : (j : Int) < (n : Int) := by omega
      have h1 := HC.out j hjn
      have h2 := HB.out k hlt
      rw [hj] at h2
      obtain ⟨v, hv⟩ : ∃ v, (ns.getD j (0, 0)).1 = v := ⟨_, rfl⟩
      rw [hv] at h1 h2
      obtain ⟨aj, haj⟩ : ∃ a, ad.add (j * 2) = a := ⟨_, rfl⟩
      rw [haj] at h1
      have w5 : IntKind.i64.wrap ((k : Int) + 1) = (j : Int) := by rw [show (k : Int) + 1 = (j : Int) by omega]; exact IntWalk.i64_in _ (by omega)
      have w5b : (k : Int) + 1 = (j : Int) := by omega
      have hjp : j ≤ p := by omega
      clear hv hj
      go_wp2
      go_round
      case rel => exact ⟨j, hjp, by simp [w5b]⟩
      case measure => simp [intOf]; omega
    · obtain rfl : p = k := by omega
      have w5 : IntKind.i64.wrap ((p : Int) + 1) = (q : Int) := by rw [show (p : Int) + 1 = (q : Int) by omega]; exact IntWalk.i64_in _ (by omega)
      have h1 := HC.out q hqn
      rw [HE.out, hx3] at h1
      have h2 : ¬ b1 < t := by omega
      have hqI : (q : Int) < (n : Int) := by omega
      have hpI : (p : Int) < (n : Int) := by omega
      clear hlt
      go_upto_region 4 with fail
      go_cut [7, 8] (fun s6 s7 wx => ∃ ga gb : Nat, s6 = .pointer (some ⟨ga, 0, none⟩) ∧ s7 = .pointer (some ⟨gb, 0, none⟩) ∧ Hid (Bk wx ga 69 #[.int .i64 a1, .int .i64 a2]) ∧ Hid (Bk wx gb 69 #[.int .i64 b1, .int .i64 b2]) ∧ Hid (NJ w (.slice (some ad) n c) x1 x2 x3 x4 a1 a2 b1 b2 wx))
      case first =>
        refine wp_region_held_drew (S := (fun w' : World => w'.cell? ⟨w.heap.size, 0, none⟩ = some (.slice (some ad) n c) ∧ w'.cell? x1 = some (.int .i64 a1) ∧ w'.cell? x2 = some (.int .i64 a2) ∧ w'.cell? x3 = some (.int .i64 b1) ∧ w'.cell? x4 = some (.int .i64 b2))) (by kernel_rfl) ?_ ?_
        · exact N0.out.drew.five
        intro hHeld
        refine wpAnyH_take (i := 0) (v := ?_) rfl (by kernel_rfl) (by kernel_rfl) (by kernel_rfl) (fun _ _ _ h => h) (Or.inl ⟨by rfl, ?_⟩) (by assumption) ?_
        rotate_left
        · intro w hSw; (try dsimp only at hSw); go_simp; (try (with_reducible rfl))
        try simp only [List.getElem_toArray, List.getElem_cons_succ, List.getElem_cons_zero, Act.put, List.setIfInBounds_toArray, List.set_cons_zero, List.set_cons_succ]
        refine wpAnyH_take (i := 1) (v := ?_) rfl (by kernel_rfl) (by kernel_rfl) (by kernel_rfl) (fun _ _ _ h => h) (Or.inl ⟨by rfl, ?_⟩) (by assumption) ?_
        rotate_left
        · intro w hSw; (try dsimp only at hSw); go_simp; (try (with_reducible rfl))
        try simp only [List.getElem_toArray, List.getElem_cons_succ, List.getElem_cons_zero, Act.put, List.setIfInBounds_toArray, List.set_cons_zero, List.set_cons_succ]
        refine wpAnyH_take (i := 2) (v := ?_) rfl (by kernel_rfl) (by kernel_rfl) (by kernel_rfl) (fun _ _ _ h => h) (Or.inl ⟨by rfl, ?_⟩) (by assumption) ?_
        rotate_left
        · intro w hSw; (try dsimp only at hSw); go_simp; (try (with_reducible rfl))
        try simp only [List.getElem_toArray, List.getElem_cons_succ, List.getElem_cons_zero, Act.put, List.setIfInBounds_toArray, List.set_cons_zero, List.set_cons_succ]
        refine wpAnyH_take (i := 3) (v := ?_) rfl (by kernel_rfl) (by kernel_rfl) (by kernel_rfl) (fun _ _ _ h => h) (Or.inl ⟨by rfl, ?_⟩) (by assumption) ?_
        rotate_left
        · intro w hSw; (try dsimp only at hSw); go_simp; (try (with_reducible rfl))
        try simp only [List.getElem_toArray, List.getElem_cons_succ, List.getElem_cons_zero, Act.put, List.setIfInBounds_toArray, List.set_cons_zero, List.set_cons_succ]
        refine wpAnyH_take (i := 4) (v := ?_) rfl (by kernel_rfl) (by kernel_rfl) (by kernel_rfl) (fun _ _ _ h => h) (Or.inl ⟨by rfl, ?_⟩) (by assumption) ?_
        rotate_left
        · intro w hSw; (try dsimp only at hSw); go_simp; (try (with_reducible rfl))
        try simp only [List.getElem_toArray, List.getElem_cons_succ, List.getElem_cons_zero, Act.put, List.setIfInBounds_toArray, List.set_cons_zero, List.set_cons_succ]
        refine wpAnyH_take (i := 5) (v := ?_) rfl (by kernel_rfl) (by kernel_rfl) (by kernel_rfl) (fun _ _ _ h => h) (Or.inl ⟨by rfl, ?_⟩) (by assumption) ?_
        rotate_left
        · intro w hSw; (try dsimp only at hSw); go_simp; (try (with_reducible rfl))
        try simp only [List.getElem_toArray, List.getElem_cons_succ, List.getElem_cons_zero, Act.put, List.setIfInBounds_toArray, List.set_cons_zero, List.set_cons_succ]
        refine wpAnyH_take (i := 6) (v := ?_) rfl (by kernel_rfl) (by kernel_rfl) (by kernel_rfl) (fun _ _ _ h => h) (Or.inl ⟨by rfl, ?_⟩) (by assumption) ?_
        rotate_left
        · intro w hSw; (try dsimp only at hSw); go_simp; (try (with_reducible rfl))
        try simp only [List.getElem_toArray, List.getElem_cons_succ, List.getElem_cons_zero, Act.put, List.setIfInBounds_toArray, List.set_cons_zero, List.set_cons_succ]
        refine wpAnyH_take (i := 7) (v := ?_) rfl (by kernel_rfl) (by kernel_rfl) (by kernel_rfl) (fun _ _ _ h => h) (Or.inl ⟨by rfl, ?_⟩) (by assumption) ?_
        rotate_left
        · intro w hSw; (try dsimp only at hSw); go_simp; (try (with_reducible rfl))
        try simp only [List.getElem_toArray, List.getElem_cons_succ, List.getElem_cons_zero, Act.put, List.setIfInBounds_toArray, List.set_cons_zero, List.set_cons_succ]
        refine wpAnyH_take (i := 8) (v := ?_) rfl (by kernel_rfl) (by kernel_rfl) (by kernel_rfl) (fun _ _ _ h => h) (Or.inl ⟨by rfl, ?_⟩) (by assumption) ?_
        rotate_left
        · intro w hSw; (try dsimp only at hSw); go_simp; (try (with_reducible rfl))
        try simp only [List.getElem_toArray, List.getElem_cons_succ, List.getElem_cons_zero, Act.put, List.setIfInBounds_toArray, List.set_cons_zero, List.set_cons_succ]
        refine wpAnyH_take (i := 9) (v := ?_) rfl (by kernel_rfl) (by kernel_rfl) (by kernel_rfl) (fun _ _ _ h => h) (Or.inl ⟨by rfl, ?_⟩) (by assumption) ?_
        rotate_left
        · intro w hSw; (try dsimp only at hSw); go_simp; (try (with_reducible rfl))
        try simp only [List.getElem_toArray, List.getElem_cons_succ, List.getElem_cons_zero, Act.put, List.setIfInBounds_toArray, List.set_cons_zero, List.set_cons_succ]
        refine wpAnyH_take (i := 10) (v := ?_) rfl (by kernel_rfl) (by kernel_rfl) (by kernel_rfl) (fun _ _ _ h => h) (Or.inl ⟨by rfl, ?_⟩) (by assumption) ?_
        rotate_left
        · intro w hSw; (try dsimp only at hSw); go_simp; (try (with_reducible rfl))
        try simp only [List.getElem_toArray, List.getElem_cons_succ, List.getElem_cons_zero, Act.put, List.setIfInBounds_toArray, List.set_cons_zero, List.set_cons_succ]
        refine wpAnyH_ready (rs := [11, 12]) (by kernel_rfl) (by simp) ?_
        refine AllReadyH.cons rfl (fun K hK => ?_) (AllReadyH.cons rfl (fun K hK => ?_) AllReadyH.nil)
        · go_simp
          refine hK.out _ _ ?_ (fun hHeld => ?_)
          · clear hK K; exact (N0.out.alloc (.cells #[.int .i64 0, .int .i64 0] 69)).drew.five
          clear hK K
          try simp only [List.getElem_toArray, List.getElem_cons_succ, List.getElem_cons_zero, Act.put, List.setIfInBounds_toArray, List.set_cons_zero, List.set_cons_succ]
          refine wpAnyH_ready (rs := [12]) (by kernel_rfl) (by simp) ?_
          refine AllReadyH.cons rfl (fun K hK => ?_) AllReadyH.nil
          go_simp
          refine hK.out _ _ ?_ (fun hHeld => ?_)
          · clear hK K; exact ((N0.out.alloc (.cells #[.int .i64 0, .int .i64 0] 69)).alloc (.cells #[.int .i64 0, .int .i64 0] 69)).drew.five
          clear hK K
          try simp only [List.getElem_toArray, List.getElem_cons_succ, List.getElem_cons_zero, Act.put, List.setIfInBounds_toArray, List.set_cons_zero, List.set_cons_succ]
          obtain ⟨ka0, ka1, kaf0, kaf1⟩ := bk2 (show Bk (((W.alloc (.cells #[.int .i64 0, .int .i64 0] 69)).alloc (.cells #[.int .i64 0, .int .i64 0] 69)).drew) W.heap.size 69 #[.int .i64 0, .int .i64 0] from ((Bk.new W 69 #[.int .i64 0, .int .i64 0]).alloc (.cells #[.int .i64 0, .int .i64 0] 69)).drew)
          obtain ⟨kb0, kb1, kbf0, kbf1⟩ := bk2 (show Bk (((W.alloc (.cells #[.int .i64 0, .int .i64 0] 69)).alloc (.cells #[.int .i64 0, .int .i64 0] 69)).drew) (W.heap.size + 1) 69 #[.int .i64 0, .int .i64 0] from by simpa using (Bk.new (W.alloc (.cells #[.int .i64 0, .int .i64 0] 69)) 69 #[.int .i64 0, .int .i64 0]).drew)
          refine wpAnyH_ready (rs := [13]) (by kernel_rfl) (by simp) ?_
          refine AllReadyH.cons rfl (fun K hK => ?_) AllReadyH.nil
          go_simp
          refine hK.out _ _ ?_ (fun hHeld => ?_)
          · clear hK K; exact ((N0.out.alloc (.cells #[.int .i64 a1, .int .i64 a2] 69)).alloc (.cells #[.int .i64 0, .int .i64 0] 69)).drew.five
          clear hK K
          try simp only [List.getElem_toArray, List.getElem_cons_succ, List.getElem_cons_zero, Act.put, List.setIfInBounds_toArray, List.set_cons_zero, List.set_cons_succ]
          clear ka0 ka1 kaf0 kaf1 kb0 kb1 kbf0 kbf1
          obtain ⟨ka0, ka1, kaf0, kaf1⟩ := bk2 (show Bk (((W.alloc (.cells #[.int .i64 a1, .int .i64 a2] 69)).alloc (.cells #[.int .i64 0, .int .i64 0] 69)).drew) W.heap.size 69 #[.int .i64 a1, .int .i64 a2] from ((Bk.new W 69 #[.int .i64 a1, .int .i64 a2]).alloc (.cells #[.int .i64 0, .int .i64 0] 69)).drew)
          obtain ⟨kb0, kb1, kbf0, kbf1⟩ := bk2 (show Bk (((W.alloc (.cells #[.int .i64 a1, .int .i64 a2] 69)).alloc (.cells #[.int .i64 0, .int .i64 0] 69)).drew) (W.heap.size + 1) 69 #[.int .i64 0, .int .i64 0] from by simpa using (Bk.new (W.alloc (.cells #[.int .i64 a1, .int .i64 a2] 69)) 69 #[.int .i64 0, .int .i64 0]).drew)
          refine wpAnyH_ready (rs := [14]) (by kernel_rfl) (by simp) ?_
          refine AllReadyH.cons rfl (fun K hK => ?_) AllReadyH.nil
          go_simp
          refine hK.out _ _ ?_ (fun hHeld => ?_)
          · clear hK K; exact ((N0.out.alloc (.cells #[.int .i64 a1, .int .i64 a2] 69)).alloc (.cells #[.int .i64 b1, .int .i64 b2] 69)).drew.five
          clear hK K
          try simp only [List.getElem_toArray, List.getElem_cons_succ, List.getElem_cons_zero, Act.put, List.setIfInBounds_toArray, List.set_cons_zero, List.set_cons_succ]
          refine wpAnyH_done (by kernel_rfl) ?_ _
          go_wp2_with fail
          go_meet
          exact ⟨W.heap.size, (W.heap.size + 1), rfl, rfl, Lib.hid (((Bk.new W 69 #[.int .i64 a1, .int .i64 a2]).alloc (.cells #[.int .i64 b1, .int .i64 b2] 69)).drew), Lib.hid ((by simpa using (Bk.new (W.alloc (.cells #[.int .i64 a1, .int .i64 a2] 69)) 69 #[.int .i64 b1, .int .i64 b2]).drew)), Lib.hid ((N0.out.alloc (.cells #[.int .i64 a1, .int .i64 a2] 69)).alloc (.cells #[.int .i64 b1, .int .i64 b2] 69)).drew⟩
        · go_simp
          refine hK.out _ _ ?_ (fun hHeld => ?_)
          · clear hK K; exact (N0.out.alloc (.cells #[.int .i64 0, .int .i64 0] 69)).drew.five
          clear hK K
          try simp only [List.getElem_toArray, List.getElem_cons_succ, List.getElem_cons_zero, Act.put, List.setIfInBounds_toArray, List.set_cons_zero, List.set_cons_succ]
          refine wpAnyH_ready (rs := [11]) (by kernel_rfl) (by simp) ?_
          refine AllReadyH.cons rfl (fun K hK => ?_) AllReadyH.nil
          go_simp
          refine hK.out _ _ ?_ (fun hHeld => ?_)
          · clear hK K; exact ((N0.out.alloc (.cells #[.int .i64 0, .int .i64 0] 69)).alloc (.cells #[.int .i64 0, .int .i64 0] 69)).drew.five
          clear hK K
          try simp only [List.getElem_toArray, List.getElem_cons_succ, List.getElem_cons_zero, Act.put, List.setIfInBounds_toArray, List.set_cons_zero, List.set_cons_succ]
          obtain ⟨ka0, ka1, kaf0, kaf1⟩ := bk2 (show Bk (((W.alloc (.cells #[.int .i64 0, .int .i64 0] 69)).alloc (.cells #[.int .i64 0, .int .i64 0] 69)).drew) W.heap.size 69 #[.int .i64 0, .int .i64 0] from ((Bk.new W 69 #[.int .i64 0, .int .i64 0]).alloc (.cells #[.int .i64 0, .int .i64 0] 69)).drew)
          obtain ⟨kb0, kb1, kbf0, kbf1⟩ := bk2 (show Bk (((W.alloc (.cells #[.int .i64 0, .int .i64 0] 69)).alloc (.cells #[.int .i64 0, .int .i64 0] 69)).drew) (W.heap.size + 1) 69 #[.int .i64 0, .int .i64 0] from by simpa using (Bk.new (W.alloc (.cells #[.int .i64 0, .int .i64 0] 69)) 69 #[.int .i64 0, .int .i64 0]).drew)
          refine wpAnyH_ready (rs := [13]) (by kernel_rfl) (by simp) ?_
          refine AllReadyH.cons rfl (fun K hK => ?_) AllReadyH.nil
          go_simp
          refine hK.out _ _ ?_ (fun hHeld => ?_)
          · clear hK K; exact ((N0.out.alloc (.cells #[.int .i64 0, .int .i64 0] 69)).alloc (.cells #[.int .i64 a1, .int .i64 a2] 69)).drew.five
          clear hK K
          try simp only [List.getElem_toArray, List.getElem_cons_succ, List.getElem_cons_zero, Act.put, List.setIfInBounds_toArray, List.set_cons_zero, List.set_cons_succ]
          clear ka0 ka1 kaf0 kaf1 kb0 kb1 kbf0 kbf1
          obtain ⟨ka0, ka1, kaf0, kaf1⟩ := bk2 (show Bk (((W.alloc (.cells #[.int .i64 0, .int .i64 0] 69)).alloc (.cells #[.int .i64 a1, .int .i64 a2] 69)).drew) W.heap.size 69 #[.int .i64 0, .int .i64 0] from ((Bk.new W 69 #[.int .i64 0, .int .i64 0]).alloc (.cells #[.int .i64 a1, .int .i64 a2] 69)).drew)
          obtain ⟨kb0, kb1, kbf0, kbf1⟩ := bk2 (show Bk (((W.alloc (.cells #[.int .i64 0, .int .i64 0] 69)).alloc (.cells #[.int .i64 a1, .int .i64 a2] 69)).drew) (W.heap.size + 1) 69 #[.int .i64 a1, .int .i64 a2] from by simpa using (Bk.new (W.alloc (.cells #[.int .i64 0, .int .i64 0] 69)) 69 #[.int .i64 a1, .int .i64 a2]).drew)
          refine wpAnyH_ready (rs := [14]) (by kernel_rfl) (by simp) ?_
          refine AllReadyH.cons rfl (fun K hK => ?_) AllReadyH.nil
          go_simp
          refine hK.out _ _ ?_ (fun hHeld => ?_)
          · clear hK K; exact ((N0.out.alloc (.cells #[.int .i64 b1, .int .i64 b2] 69)).alloc (.cells #[.int .i64 a1, .int .i64 a2] 69)).drew.five
          clear hK K
          try simp only [List.getElem_toArray, List.getElem_cons_succ, List.getElem_cons_zero, Act.put, List.setIfInBounds_toArray, List.set_cons_zero, List.set_cons_succ]
          refine wpAnyH_done (by kernel_rfl) ?_ _
          go_wp2_with fail
          go_meet
          exact ⟨(W.heap.size + 1), W.heap.size, rfl, rfl, Lib.hid ((by simpa using (Bk.new (W.alloc (.cells #[.int .i64 b1, .int .i64 b2] 69)) 69 #[.int .i64 a1, .int .i64 a2]).drew)), Lib.hid (((Bk.new W 69 #[.int .i64 b1, .int .i64 b2]).alloc (.cells #[.int .i64 a1, .int .i64 a2] 69)).drew), Lib.hid ((N0.out.alloc (.cells #[.int .i64 b1, .int .i64 b2] 69)).alloc (.cells #[.int .i64 a1, .int .i64 a2] 69)).drew⟩
      case rest =>
        obtain ⟨ga, gb, rfl, rfl, KA, KB, NN⟩ := hcut
        obtain ⟨ka0, ka1, _, _⟩ := bk2 KA.out
        obtain ⟨kb0, kb1, _, _⟩ := bk2 KB.out
        have BW := NN.out.bel
        obtain ⟨w9, hw9⟩ : ∃ W, W = wc := ⟨_, rfl⟩
        subst hw9
        clear KA KB NN c0 h1 h2 HC HB HE N0
        go_wp2
        go_ret2
        exact ⟨rfl, BW⟩
set_option maxRecDepth 100000 in
set_option maxHeartbeats 4000000 in
theorem refTimeAt_any (A : Option Addr) (n c : Nat) (ns : List (Int × Int)) (t : Int) (w : World) (hr : RdP w A n ns) (hn : n ≤ 1000000) (p : Nat) (hp : p + 1 < n) (hbefore : ∀ j, j < p → (ns.getD (j + 1) (0, 0)).1 < t)
    (a1 a2 b1 b2 : Int) (ha : ns.getD p (0, 0) = (a1, a2)) (hb : ns.getD (p + 1) (0, 0) = (b1, b2)) (hx : 0 ≤ a1 ∧ a1 < b1 ∧ b1 ≤ 1000000) (hy : 0 ≤ a2 ∧ a2 < b2 ∧ b2 ≤ 1000000000000) (ht : a1 ≤ t ∧ t ≤ b1) :
    Calls Try.prog 42 #[.agg #[.slice A n c], .int .i64 t] w fun e w' => e = .returned (.agg #[.int .i64 (timLo a1 a2 b1 b2 t), .int .i64 (timHi a1 a2 b1 b2 t)]) ∧ Below w.heap.size w w' := by
  obtain ⟨ad, rfl, _, _⟩ := hr.2 (by omega)
  have B0 : Below w.heap.size w ((w.alloc (.cells #[.slice (some ad) n c] 24)).alloc (.cells #[.int .i64 0, .int .i64 0] 72)) := below2 _ _ _
  have CN := Lib.hid (refTimeNum_any n c ns t ad p _ (hr.below B0) hn hp hbefore a1 a2 b1 b2 ha hb hx hy ht)
  have hp1 := mul_bd (a := b2 - a2) (b := t - a1) (A := 1000000000000) (B := 1000000) (by omega) (by omega) (by omega) (by omega)
  have hp2 := mul_bd (a := a2) (b := b1 - a1) (A := 1000000000000) (B := 1000000) (by omega) (by omega) (by omega) (by omega)
  have hp0 : 0 ≤ (b2 - a2) * (t - a1) := Int.mul_nonneg (by omega) (by omega)
  have CF := Lib.hid (fun W => floor_any (a2 * (b1 - a1) + (b2 - a2) * (t - a1)) (b1 - a1) (by omega) (by omega) W)
  have CC := Lib.hid (fun W => ceil_any (a2 * (b1 - a1) + (b2 - a2) * (t - a1)) (b1 - a1) (by omega) (by omega) W)
  have e1 : (a2 * (b1 - a1) + (b2 - a2) * (t - a1)) / (b1 - a1) = timLo a1 a2 b1 b2 t := by
    rw [Int.add_comm, Int.add_mul_ediv_right _ _ (by omega)]; rfl
  have e2 : upF (a2 * (b1 - a1) + (b2 - a2) * (t - a1)) (b1 - a1) = timHi a1 a2 b1 b2 t := by
    rw [upF_eq _ _ (by omega)]
    have : a2 * (b1 - a1) + (b2 - a2) * (t - a1) + (b1 - a1) - 1 = ((b2 - a2) * (t - a1) + (b1 - a1) - 1) + a2 * (b1 - a1) := by omega
    rw [this, Int.add_mul_ediv_right _ _ (by omega)]; rfl
  rw [e1] at CF
  rw [e2] at CC
  obtain ⟨lo, hlo⟩ : ∃ z, timLo a1 a2 b1 b2 t = z := ⟨_, rfl⟩
  obtain ⟨hi, hhi⟩ : ∃ z, timHi a1 a2 b1 b2 t = z := ⟨_, rfl⟩
  rw [hlo] at CF ⊢
  rw [hhi] at CC ⊢
  obtain ⟨N, hN⟩ : ∃ N, a2 * (b1 - a1) + (b2 - a2) * (t - a1) = N := ⟨_, rfl⟩
  obtain ⟨D, hD⟩ : ∃ D, b1 - a1 = D := ⟨_, rfl⟩
  rw [hN, hD] at CN CF CC
  have c0 : ((w.alloc (.cells #[.slice (some ad) n c] 24)).alloc (.cells #[.int .i64 0, .int .i64 0] 72)).cell? ⟨w.heap.size, 0, none⟩ = some (.slice (some ad) n c) := (bk1 ((Bk.new w 24 #[.slice (some ad) n c]).alloc _)).1
  have KR : Hid (Bk ((w.alloc (.cells #[.slice (some ad) n c] 24)).alloc (.cells #[.int .i64 0, .int .i64 0] 72)) (w.heap.size + 1) 72 #[.int .i64 0, .int .i64 0]) := Lib.hid (by simpa using Bk.new (w.alloc (.cells #[.slice (some ad) n c] 24)) 72 #[.int .i64 0, .int .i64 0])
  have HB0 := Lib.hid B0
  clear hp1 hp2 hp0 e1 e2 hlo hhi hN hD hr ha hb hbefore hx hy ht B0
  go_enter Try.func42, Try.ntmps42
  go_wp2_with fail
  refine CN.out.mono ?_
  rintro e w1 ⟨rfl, hb1⟩
  have K1 := KR.out.later hb1
  have B1 := HB0.out.trans (hb1.mono HB0.out.size)
  obtain ⟨k0, k1, f0, f1⟩ := bk2 K1
  clear hb1 c0 K1
  go_wp2_with (first | (go_at_call 43; refine (CF.out _).mono ?_; rintro e w' ⟨rfl, rfl⟩) | (go_at_call 36; refine (CC.out _).mono ?_; rintro e w' ⟨rfl, rfl⟩))
  refine bodyPost_ret (v := .agg #[.int .i64 lo, .int .i64 hi]) (by simp [results, Try.results42, go_sem, k0, k1, f0, f1]) rfl ⟨rfl, ?_⟩
  go_grown

end Go.Proofs.Ytepcciodhppbnaa

