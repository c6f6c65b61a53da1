import Derived.Test.YtjjflbnopphciacGreatDoorRsab
namespace Go.Proofs.YtjjflbnopphciacGreatDoor
open Go.RowKit

open Go.Shelf
attribute [local go_sem] Oper.semAt_some

theorem checkMap_any (A : Option Addr) (n c : Nat) (ns : List (Int × Int)) (w : World) (hr : RdN w A n ns) (hn : n ≤ 1000000) :
    Calls Tryz.prog 107 #[.agg #[.slice A n c]] w fun e w' => e = .returned (.int .i64 (mapR ns).2) ∧ Below w.heap.size w w' := by
  have C : Hid (∀ w', Below w.heap.size w w' → Calls Tryz.prog 92 #[.agg #[.slice A n c]] w' fun e w'' => e = .returned (.tuple #[.int .i64 (mapR ns).1, .int .i64 (mapR ns).2]) ∧ Below w'.heap.size w' w'') := fun w' hb => CheckMap_any A n c ns w' (hr.below hb) hn
  clear hr
  go_enter Tryz.func107, Tryz.ntmps107
  go_wp2_with fail
  refine (C.out _ (below1 _ _)).mono ?_
  rintro e w1 ⟨rfl, hb1⟩
  have BW := Lib.hid ((below1 w (.cells #[.slice A n c] 24)).trans (hb1.mono (by simp)))
  clear hb1
  go_wp2
  go_ret
  exact ⟨rfl, BW.out⟩

/-- A piece of a map by its index. -/
abbrev Pc (n : Nat) := { i : Nat // i + 1 < n }
def pieceV (ns : List (Int × Int)) (i : Nat) : Value := .agg #[.int .i64 (ns.getD i (0, 0)).1, .int .i64 (ns.getD i (0, 0)).2, .int .i64 (ns.getD (i + 1) (0, 0)).1, .int .i64 (ns.getD (i + 1) (0, 0)).2]
theorem range_take {m k : Nat} (h : k < m) : (List.range m).take (k + 1) = (List.range m).take k ++ [k] := by
  rw [List.take_succ_eq_append_getElem (by simpa using h)]
  simp

set_option maxRecDepth 100000 in
set_option maxHeartbeats 4000000 in
theorem pieces1_in (F : Fence) (n : Nat) (hf : F.fn 162) (hro : F.round = none) (hn : 1 ≤ n) (l gm n0 : Nat) (A : Option Addr) (m c : Nat) (ns : List (Int × Int)) (w0 : World) (hgm : gm < w0.heap.size) (hA : w0.heap.size ≤ n0) (hm : m ≤ 1000000)
    (hRd : RdN w0 A m ns) (hbm : w0.cell? ⟨gm, 0, none⟩ = some (.slice A m c)) (J Jx : List Nat → World → Prop)
    (hY : ∀ pre i W, J pre W → pre ++ [i] <+: List.range (m - 1) → YieldAt F (n - 1) Tryz.prog l #[.int .i64 (i : Nat), pieceV ns i] W fun e W' =>
      (e = .returned (.bool true) ∧ J (pre ++ [i]) W' ∧ Below n0 W W') ∨ (e = .returned (.bool false) ∧ Jx (pre ++ [i]) W'))
    (hd : ∀ pre W, J pre W → J pre W.drew)
    (W : World) (hW : Below w0.heap.size w0 W) (h0 : J [] W) :
    CallsIn F n Tryz.prog 162 #[.func (.yield l) #[] #[], .pointer (some ⟨gm, 0, none⟩)] W fun e W' => (∃ v, e = .returned v) ∧
      ((∃ ys, ys = List.range (m - 1) ∧ J ys W') ∨ (∃ pre, pre <+: List.range (m - 1) ∧ Jx pre W')) := by
  have HY := Lib.hid hY
  have H0 := Lib.hid h0
  have HD := Lib.hid hd
  have HR := Lib.hid hRd
  have HBM := Lib.hid hbm
  have HW := Lib.hid hW
  clear hY h0 hRd hbm hW hd
  refine callsIn_of_wp Tryz.func162 rfl hf ?_ hro
  simp only [Tryz.ntmps162, List.size_toArray, List.length_cons, List.length_nil, Nat.reduceAdd, Nat.reduceSub, Array.replicate_succ, Array.replicate_zero, List.push_toArray, List.append_toArray, List.nil_append, List.cons_append]
  gi_wp2
  gi_loopw [3] (fun i wr => ∃ k j : Nat, k ≤ m - 1 ∧ Hid (j = k + 1) ∧ i = .int .i64 (j : Int) ∧ J ((List.range (m - 1)).take k) wr ∧ Hid (Below w0.heap.size w0 wr)) (fun i _ => (m - (intOf i).toNat))
  case atStart =>
    exact ⟨0, 1, Nat.zero_le _, rfl, rfl, by simpa using H0.out, HW⟩
  case round =>
    obtain ⟨k, j, hk, HKJ, rfl, hJ, HB⟩ := hrel
    have hBm : wr.cell? ⟨gm, 0, none⟩ = some (.slice A m c) := (HB.out.cell (p := ⟨gm, 0, none⟩) hgm).trans HBM.out
    by_cases hlt : k < m - 1
    · obtain ⟨g, rfl, hgl, hcs⟩ := (HR.out.below HB.out).2 (by omega)
      obtain ⟨a1, a2⟩ := hcs k (by omega)
      obtain ⟨b1, b2⟩ := hcs j (by have := HKJ.out; omega)
      clear hcs
      have hjm : j < m := by have := HKJ.out; omega
      have hltI : (j : Int) < (m : Int) := by omega
      have hj0 : (0 : Int) ≤ (j : Int) := by omega
      have hk0 : (0 : Int) ≤ (k : Int) := by omega
      have hk1 : (k : Int) < (m : Int) := by omega
      have w1 : IntKind.i64.wrap ((j : Int) - 1) = k := by have := HKJ.out; rw [show (j : Int) - 1 = k by omega]; exact IntWalk.i64_in _ (by omega)
      obtain ⟨fn, tmps, assign, body, hy, hR⟩ := HY.out ((List.range (m - 1)).take k) k wr.drew (HD.out _ _ hJ) ⟨(List.range (m - 1)).drop (k + 1), by rw [← range_take hlt, List.take_append_drop]⟩
      unfold pieceV at hy
      rw [← HKJ.out] at hy
      obtain ⟨⟨x1, x2⟩, hx⟩ : ∃ p, ns.getD k (0, 0) = p := ⟨_, rfl⟩
      obtain ⟨⟨y1, y2⟩, hyy⟩ : ∃ p, ns.getD j (0, 0) = p := ⟨_, rfl⟩
      rw [hx] at a1 a2 hy
      rw [hyy] at b1 b2 hy
      dsimp only at a1 a2 b1 b2 hy
      clear hx hyy
      have HRB := Lib.hid (hR.mono (R' := fun e W' => ∃ b : Bool, e = .returned (.bool b) ∧ ((b = true ∧ J ((List.range (m - 1)).take k ++ [k]) W' ∧ Below n0 wr.drew W') ∨ (b = false ∧ Jx ((List.range (m - 1)).take k ++ [k]) W'))) (by
        rintro e W' (⟨rfl, h1, h2⟩ | ⟨rfl, h1⟩)
        · exact ⟨true, rfl, .inl ⟨rfl, h1, h2⟩⟩
        · exact ⟨false, rfl, .inr ⟨rfl, h1⟩⟩))
      clear hR
      gi_wp2
      refine wpIn_region_any (by kernel_rfl) ?_
      try (change wpAnyIn _ _ _ _ _ _ _ _ _ (World.drew _))
      refine wpAnyIn_take (i := 0) (v := ?_) hro rfl (by kernel_rfl) (by kernel_rfl) (by kernel_rfl) (fun _ _ _ h => h) ⟨Or.inl ⟨by rfl, ?_⟩, fun _ => rfl⟩ ?_
      rotate_left
      · intro w; go_simp; (try (with_reducible rfl))
      try simp only [List.getElem_toArray, List.getElem_cons_succ, List.getElem_cons_zero, Act.put, List.setIfInBounds_toArray, List.set_cons_zero, List.set_cons_succ]
      refine wpAnyIn_take (i := 1) (v := ?_) hro rfl (by kernel_rfl) (by kernel_rfl) (by kernel_rfl) (fun _ _ _ h => h) ⟨Or.inl ⟨by rfl, ?_⟩, fun _ => rfl⟩ ?_
      rotate_left
      · intro w; go_simp; (try (with_reducible rfl))
      try simp only [List.getElem_toArray, List.getElem_cons_succ, List.getElem_cons_zero, Act.put, List.setIfInBounds_toArray, List.set_cons_zero, List.set_cons_succ]
      refine wpAnyIn_take (i := 2) (v := ?_) hro rfl (by kernel_rfl) (by kernel_rfl) (by kernel_rfl) (fun _ _ _ h => h) ⟨Or.inl ⟨by rfl, ?_⟩, fun _ => rfl⟩ ?_
      rotate_left
      · intro w; go_simp; (try (with_reducible rfl))
      try simp only [List.getElem_toArray, List.getElem_cons_succ, List.getElem_cons_zero, Act.put, List.setIfInBounds_toArray, List.set_cons_zero, List.set_cons_succ]
      refine wpAnyIn_take (i := 3) (v := ?_) hro rfl (by kernel_rfl) (by kernel_rfl) (by kernel_rfl) (fun _ _ _ h => h) ⟨Or.inl ⟨by rfl, ?_⟩, fun _ => rfl⟩ ?_
      rotate_left
      · intro w; go_simp; (try (with_reducible rfl))
      try simp only [List.getElem_toArray, List.getElem_cons_succ, List.getElem_cons_zero, Act.put, List.setIfInBounds_toArray, List.set_cons_zero, List.set_cons_succ]
      refine wpAnyIn_take (i := 5) (v := ?_) hro rfl (by kernel_rfl) (by kernel_rfl) (by kernel_rfl) (fun _ _ _ h => h) ⟨Or.inl ⟨by rfl, ?_⟩, fun _ => rfl⟩ ?_
      rotate_left
      · intro w; go_simp; (try (with_reducible rfl))
      try simp only [List.getElem_toArray, List.getElem_cons_succ, List.getElem_cons_zero, Act.put, List.setIfInBounds_toArray, List.set_cons_zero, List.set_cons_succ]
      refine wpAnyIn_take (i := 6) (v := ?_) hro rfl (by kernel_rfl) (by kernel_rfl) (by kernel_rfl) (fun _ _ _ h => h) ⟨Or.inl ⟨by rfl, ?_⟩, fun _ => rfl⟩ ?_
      rotate_left
      · intro w; go_simp; (try (with_reducible rfl))
      try simp only [List.getElem_toArray, List.getElem_cons_succ, List.getElem_cons_zero, Act.put, List.setIfInBounds_toArray, List.set_cons_zero, List.set_cons_succ]
      refine wpAnyIn_take (i := 9) (v := ?_) hro rfl (by kernel_rfl) (by kernel_rfl) (by kernel_rfl) (fun _ _ _ h => h) ⟨Or.inl ⟨by rfl, ?_⟩, fun _ => rfl⟩ ?_
      rotate_left
      · intro w; go_simp; (try (with_reducible rfl))
      try simp only [List.getElem_toArray, List.getElem_cons_succ, List.getElem_cons_zero, Act.put, List.setIfInBounds_toArray, List.set_cons_zero, List.set_cons_succ]
      refine wpAnyIn_take (i := 11) (v := ?_) hro rfl (by kernel_rfl) (by kernel_rfl) (by kernel_rfl) (fun _ _ _ h => h) ⟨Or.inl ⟨by rfl, ?_⟩, fun _ => rfl⟩ ?_
      rotate_left
      · intro w; go_simp; (try (with_reducible rfl))
      try simp only [List.getElem_toArray, List.getElem_cons_succ, List.getElem_cons_zero, Act.put, List.setIfInBounds_toArray, List.set_cons_zero, List.set_cons_succ]
      refine wpAnyIn_ready (rs := [4, 10]) (by kernel_rfl) (by simp) ?_
      refine AllReadyIn.cons rfl (fun K hK => ?_) ?_
      · go_simp
        try (refine hK _ _ ?_; clear hK K)
        try simp only [List.getElem_toArray, List.getElem_cons_succ, List.getElem_cons_zero, Act.put, List.setIfInBounds_toArray, List.set_cons_zero, List.set_cons_succ]
        refine wpAnyIn_take (i := 7) (v := ?_) hro rfl (by kernel_rfl) (by kernel_rfl) (by kernel_rfl) (fun _ _ _ h => h) ⟨Or.inl ⟨by rfl, ?_⟩, fun _ => rfl⟩ ?_
        rotate_left
        · intro w; go_simp; (try (with_reducible rfl))
        try simp only [List.getElem_toArray, List.getElem_cons_succ, List.getElem_cons_zero, Act.put, List.setIfInBounds_toArray, List.set_cons_zero, List.set_cons_succ]
        refine wpAnyIn_ready (rs := [8, 10]) (by kernel_rfl) (by simp) ?_
        refine AllReadyIn.cons rfl (fun K hK => ?_) ?_
        · go_simp
          try (refine hK _ _ ?_; clear hK K)
          try simp only [List.getElem_toArray, List.getElem_cons_succ, List.getElem_cons_zero, Act.put, List.setIfInBounds_toArray, List.set_cons_zero, List.set_cons_succ]
          refine wpAnyIn_ready (rs := [10]) (by kernel_rfl) (by simp) ?_
          refine AllReadyIn.cons rfl (fun K hK => ?_) AllReadyIn.nil
          go_simp
          try (refine hK _ _ ?_; clear hK K)
          try simp only [List.getElem_toArray, List.getElem_cons_succ, List.getElem_cons_zero, Act.put, List.setIfInBounds_toArray, List.set_cons_zero, List.set_cons_succ]
          refine wpAnyIn_take (i := 12) (v := ?_) hro rfl (by kernel_rfl) (by kernel_rfl) (by kernel_rfl) (fun _ _ _ h => h) ⟨Or.inl ⟨by rfl, ?_⟩, fun _ => rfl⟩ ?_
          rotate_left
          · intro w; go_simp; (try (with_reducible rfl))
          try simp only [List.getElem_toArray, List.getElem_cons_succ, List.getElem_cons_zero, Act.put, List.setIfInBounds_toArray, List.set_cons_zero, List.set_cons_succ]
          refine wpAnyIn_ready (rs := [13]) (by kernel_rfl) (by simp) ?_
          refine AllReadyIn.cons rfl (fun K hK => ?_) AllReadyIn.nil
          go_simp
          try (refine hK _ _ ?_; clear hK K)
          try simp only [List.getElem_toArray, List.getElem_cons_succ, List.getElem_cons_zero, Act.put, List.setIfInBounds_toArray, List.set_cons_zero, List.set_cons_succ]
          refine wpAnyIn_take (i := 14) (v := ?_) hro rfl (by kernel_rfl) (by kernel_rfl) (by kernel_rfl) (fun _ _ _ h => h) ⟨Or.inl ⟨by rfl, ?_⟩, fun _ => rfl⟩ ?_
          rotate_left
          · intro w; go_simp; (try (with_reducible rfl))
          try simp only [List.getElem_toArray, List.getElem_cons_succ, List.getElem_cons_zero, Act.put, List.setIfInBounds_toArray, List.set_cons_zero, List.set_cons_succ]
          refine wpAnyIn_ready (rs := [15]) (by kernel_rfl) (by simp) ?_
          refine AllReadyIn.cons rfl (fun K hK => ?_) AllReadyIn.nil
          go_simp
          refine HRB.out.mono ?_; rintro e W3 ⟨bb, rfl, hbb⟩
          gi_wp2_with fail
          try (refine hK _ _ ?_; clear hK K)
          try simp only [List.getElem_toArray, List.getElem_cons_succ, List.getElem_cons_zero, Act.put, List.setIfInBounds_toArray, List.set_cons_zero, List.set_cons_succ]
          refine wpAnyIn_take (i := 16) (v := ?_) hro rfl (by kernel_rfl) (by kernel_rfl) (by kernel_rfl) (fun _ _ _ h => h) ⟨Or.inl ⟨by rfl, ?_⟩, fun _ => rfl⟩ ?_
          rotate_left
          · intro w; go_simp; (try (with_reducible rfl))
          try simp only [List.getElem_toArray, List.getElem_cons_succ, List.getElem_cons_zero, Act.put, List.setIfInBounds_toArray, List.set_cons_zero, List.set_cons_succ]
          refine wpAnyIn_done (by kernel_rfl) ?_ _
          rcases hbb with ⟨rfl, hJ3, hk3⟩ | ⟨rfl, hJx3⟩
          · gi_wp2
            go_roundw
            case rel => exact ⟨k + 1, j + 1, by omega, by show _ = _; rw [HKJ.out], by go_num, by rw [range_take hlt]; exact hJ3, HB.out.trans ((Below.refl _ _).drew.trans (hk3.mono hA))⟩
            case measure => simp only [intOf]; first | omega | (simp [intOf]; omega)
          · gi_wp2
            refine bodyPost_ret (results_none rfl _ _ _) rfl ?_
            exact ⟨⟨_, rfl⟩, .inr ⟨_, ⟨(List.range (m - 1)).drop (k + 1), by rw [← range_take hlt, List.take_append_drop]⟩, hJx3⟩⟩
        refine AllReadyIn.cons rfl (fun K hK => ?_) ?_
        · go_simp
          try (refine hK _ _ ?_; clear hK K)
          try simp only [List.getElem_toArray, List.getElem_cons_succ, List.getElem_cons_zero, Act.put, List.setIfInBounds_toArray, List.set_cons_zero, List.set_cons_succ]
          refine wpAnyIn_take (i := 12) (v := ?_) hro rfl (by kernel_rfl) (by kernel_rfl) (by kernel_rfl) (fun _ _ _ h => h) ⟨Or.inl ⟨by rfl, ?_⟩, fun _ => rfl⟩ ?_
          rotate_left
          · intro w; go_simp; (try (with_reducible rfl))
          try simp only [List.getElem_toArray, List.getElem_cons_succ, List.getElem_cons_zero, Act.put, List.setIfInBounds_toArray, List.set_cons_zero, List.set_cons_succ]
          refine wpAnyIn_ready (rs := [8, 13]) (by kernel_rfl) (by simp) ?_
          refine AllReadyIn.cons rfl (fun K hK => ?_) ?_
          · go_simp
            try (refine hK _ _ ?_; clear hK K)
            try simp only [List.getElem_toArray, List.getElem_cons_succ, List.getElem_cons_zero, Act.put, List.setIfInBounds_toArray, List.set_cons_zero, List.set_cons_succ]
            refine wpAnyIn_ready (rs := [13]) (by kernel_rfl) (by simp) ?_
            refine AllReadyIn.cons rfl (fun K hK => ?_) AllReadyIn.nil
            go_simp
            try (refine hK _ _ ?_; clear hK K)
            try simp only [List.getElem_toArray, List.getElem_cons_succ, List.getElem_cons_zero, Act.put, List.setIfInBounds_toArray, List.set_cons_zero, List.set_cons_succ]
            refine wpAnyIn_take (i := 14) (v := ?_) hro rfl (by kernel_rfl) (by kernel_rfl) (by kernel_rfl) (fun _ _ _ h => h) ⟨Or.inl ⟨by rfl, ?_⟩, fun _ => rfl⟩ ?_
            rotate_left
            · intro w; go_simp; (try (with_reducible rfl))
            try simp only [List.getElem_toArray, List.getElem_cons_succ, List.getElem_cons_zero, Act.put, List.setIfInBounds_toArray, List.set_cons_zero, List.set_cons_succ]
            refine wpAnyIn_ready (rs := [15]) (by kernel_rfl) (by simp) ?_
            refine AllReadyIn.cons rfl (fun K hK => ?_) AllReadyIn.nil
            go_simp
            refine HRB.out.mono ?_; rintro e W3 ⟨bb, rfl, hbb⟩
            gi_wp2_with fail
            try (refine hK _ _ ?_; clear hK K)
            try simp only [List.getElem_toArray, List.getElem_cons_succ, List.getElem_cons_zero, Act.put, List.setIfInBounds_toArray, List.set_cons_zero, List.set_cons_succ]
            refine wpAnyIn_take (i := 16) (v := ?_) hro rfl (by kernel_rfl) (by kernel_rfl) (by kernel_rfl) (fun _ _ _ h => h) ⟨Or.inl ⟨by rfl, ?_⟩, fun _ => rfl⟩ ?_
            rotate_left
            · intro w; go_simp; (try (with_reducible rfl))
            try simp only [List.getElem_toArray, List.getElem_cons_succ, List.getElem_cons_zero, Act.put, List.setIfInBounds_toArray, List.set_cons_zero, List.set_cons_succ]
            refine wpAnyIn_done (by kernel_rfl) ?_ _
            rcases hbb with ⟨rfl, hJ3, hk3⟩ | ⟨rfl, hJx3⟩
            · gi_wp2
              go_roundw
              case rel => exact ⟨k + 1, j + 1, by omega, by show _ = _; rw [HKJ.out], by go_num, by rw [range_take hlt]; exact hJ3, HB.out.trans ((Below.refl _ _).drew.trans (hk3.mono hA))⟩
              case measure => simp only [intOf]; first | omega | (simp [intOf]; omega)
            · gi_wp2
              refine bodyPost_ret (results_none rfl _ _ _) rfl ?_
              exact ⟨⟨_, rfl⟩, .inr ⟨_, ⟨(List.range (m - 1)).drop (k + 1), by rw [← range_take hlt, List.take_append_drop]⟩, hJx3⟩⟩
          refine AllReadyIn.cons rfl (fun K hK => ?_) ?_
          · go_simp
            try (refine hK _ _ ?_; clear hK K)
            try simp only [List.getElem_toArray, List.getElem_cons_succ, List.getElem_cons_zero, Act.put, List.setIfInBounds_toArray, List.set_cons_zero, List.set_cons_succ]
            refine wpAnyIn_ready (rs := [8]) (by kernel_rfl) (by simp) ?_
            refine AllReadyIn.cons rfl (fun K hK => ?_) AllReadyIn.nil
            go_simp
            try (refine hK _ _ ?_; clear hK K)
            try simp only [List.getElem_toArray, List.getElem_cons_succ, List.getElem_cons_zero, Act.put, List.setIfInBounds_toArray, List.set_cons_zero, List.set_cons_succ]
            refine wpAnyIn_take (i := 14) (v := ?_) hro rfl (by kernel_rfl) (by kernel_rfl) (by kernel_rfl) (fun _ _ _ h => h) ⟨Or.inl ⟨by rfl, ?_⟩, fun _ => rfl⟩ ?_
            rotate_left
            · intro w; go_simp; (try (with_reducible rfl))
            try simp only [List.getElem_toArray, List.getElem_cons_succ, List.getElem_cons_zero, Act.put, List.setIfInBounds_toArray, List.set_cons_zero, List.set_cons_succ]
            refine wpAnyIn_ready (rs := [15]) (by kernel_rfl) (by simp) ?_
            refine AllReadyIn.cons rfl (fun K hK => ?_) AllReadyIn.nil
            go_simp
            refine HRB.out.mono ?_; rintro e W3 ⟨bb, rfl, hbb⟩
            gi_wp2_with fail
            try (refine hK _ _ ?_; clear hK K)
            try simp only [List.getElem_toArray, List.getElem_cons_succ, List.getElem_cons_zero, Act.put, List.setIfInBounds_toArray, List.set_cons_zero, List.set_cons_succ]
            refine wpAnyIn_take (i := 16) (v := ?_) hro rfl (by kernel_rfl) (by kernel_rfl) (by kernel_rfl) (fun _ _ _ h => h) ⟨Or.inl ⟨by rfl, ?_⟩, fun _ => rfl⟩ ?_
            rotate_left
            · intro w; go_simp; (try (with_reducible rfl))
            try simp only [List.getElem_toArray, List.getElem_cons_succ, List.getElem_cons_zero, Act.put, List.setIfInBounds_toArray, List.set_cons_zero, List.set_cons_succ]
            refine wpAnyIn_done (by kernel_rfl) ?_ _
            rcases hbb with ⟨rfl, hJ3, hk3⟩ | ⟨rfl, hJx3⟩
            · gi_wp2
              go_roundw
              case rel => exact ⟨k + 1, j + 1, by omega, by show _ = _; rw [HKJ.out], by go_num, by rw [range_take hlt]; exact hJ3, HB.out.trans ((Below.refl _ _).drew.trans (hk3.mono hA))⟩
              case measure => simp only [intOf]; first | omega | (simp [intOf]; omega)
            · gi_wp2
              refine bodyPost_ret (results_none rfl _ _ _) rfl ?_
              exact ⟨⟨_, rfl⟩, .inr ⟨_, ⟨(List.range (m - 1)).drop (k + 1), by rw [← range_take hlt, List.take_append_drop]⟩, hJx3⟩⟩
          exact AllReadyIn.nil
        exact AllReadyIn.nil
      refine AllReadyIn.cons rfl (fun K hK => ?_) ?_
      · go_simp
        try (refine hK _ _ ?_; clear hK K)
        try simp only [List.getElem_toArray, List.getElem_cons_succ, List.getElem_cons_zero, Act.put, List.setIfInBounds_toArray, List.set_cons_zero, List.set_cons_succ]
        refine wpAnyIn_take (i := 12) (v := ?_) hro rfl (by kernel_rfl) (by kernel_rfl) (by kernel_rfl) (fun _ _ _ h => h) ⟨Or.inl ⟨by rfl, ?_⟩, fun _ => rfl⟩ ?_
        rotate_left
        · intro w; go_simp; (try (with_reducible rfl))
        try simp only [List.getElem_toArray, List.getElem_cons_succ, List.getElem_cons_zero, Act.put, List.setIfInBounds_toArray, List.set_cons_zero, List.set_cons_succ]
        refine wpAnyIn_ready (rs := [4, 13]) (by kernel_rfl) (by simp) ?_
        refine AllReadyIn.cons rfl (fun K hK => ?_) ?_
        · go_simp
          try (refine hK _ _ ?_; clear hK K)
          try simp only [List.getElem_toArray, List.getElem_cons_succ, List.getElem_cons_zero, Act.put, List.setIfInBounds_toArray, List.set_cons_zero, List.set_cons_succ]
          refine wpAnyIn_take (i := 7) (v := ?_) hro rfl (by kernel_rfl) (by kernel_rfl) (by kernel_rfl) (fun _ _ _ h => h) ⟨Or.inl ⟨by rfl, ?_⟩, fun _ => rfl⟩ ?_
          rotate_left
          · intro w; go_simp; (try (with_reducible rfl))
          try simp only [List.getElem_toArray, List.getElem_cons_succ, List.getElem_cons_zero, Act.put, List.setIfInBounds_toArray, List.set_cons_zero, List.set_cons_succ]
          refine wpAnyIn_ready (rs := [8, 13]) (by kernel_rfl) (by simp) ?_
          refine AllReadyIn.cons rfl (fun K hK => ?_) ?_
          · go_simp
            try (refine hK _ _ ?_; clear hK K)
            try simp only [List.getElem_toArray, List.getElem_cons_succ, List.getElem_cons_zero, Act.put, List.setIfInBounds_toArray, List.set_cons_zero, List.set_cons_succ]
            refine wpAnyIn_ready (rs := [13]) (by kernel_rfl) (by simp) ?_
            refine AllReadyIn.cons rfl (fun K hK => ?_) AllReadyIn.nil
            go_simp
            try (refine hK _ _ ?_; clear hK K)
            try simp only [List.getElem_toArray, List.getElem_cons_succ, List.getElem_cons_zero, Act.put, List.setIfInBounds_toArray, List.set_cons_zero, List.set_cons_succ]
            refine wpAnyIn_take (i := 14) (v := ?_) hro rfl (by kernel_rfl) (by kernel_rfl) (by kernel_rfl) (fun _ _ _ h => h) ⟨Or.inl ⟨by rfl, ?_⟩, fun _ => rfl⟩ ?_
            rotate_left
            · intro w; go_simp; (try (with_reducible rfl))
            try simp only [List.getElem_toArray, List.getElem_cons_succ, List.getElem_cons_zero, Act.put, List.setIfInBounds_toArray, List.set_cons_zero, List.set_cons_succ]
            refine wpAnyIn_ready (rs := [15]) (by kernel_rfl) (by simp) ?_
            refine AllReadyIn.cons rfl (fun K hK => ?_) AllReadyIn.nil
            go_simp
            refine HRB.out.mono ?_; rintro e W3 ⟨bb, rfl, hbb⟩
            gi_wp2_with fail
            try (refine hK _ _ ?_; clear hK K)
            try simp only [List.getElem_toArray, List.getElem_cons_succ, List.getElem_cons_zero, Act.put, List.setIfInBounds_toArray, List.set_cons_zero, List.set_cons_succ]
            refine wpAnyIn_take (i := 16) (v := ?_) hro rfl (by kernel_rfl) (by kernel_rfl) (by kernel_rfl) (fun _ _ _ h => h) ⟨Or.inl ⟨by rfl, ?_⟩, fun _ => rfl⟩ ?_
            rotate_left
            · intro w; go_simp; (try (with_reducible rfl))
            try simp only [List.getElem_toArray, List.getElem_cons_succ, List.getElem_cons_zero, Act.put, List.setIfInBounds_toArray, List.set_cons_zero, List.set_cons_succ]
            refine wpAnyIn_done (by kernel_rfl) ?_ _
            rcases hbb with ⟨rfl, hJ3, hk3⟩ | ⟨rfl, hJx3⟩
            · gi_wp2
              go_roundw
              case rel => exact ⟨k + 1, j + 1, by omega, by show _ = _; rw [HKJ.out], by go_num, by rw [range_take hlt]; exact hJ3, HB.out.trans ((Below.refl _ _).drew.trans (hk3.mono hA))⟩
              case measure => simp only [intOf]; first | omega | (simp [intOf]; omega)
            · gi_wp2
              refine bodyPost_ret (results_none rfl _ _ _) rfl ?_
              exact ⟨⟨_, rfl⟩, .inr ⟨_, ⟨(List.range (m - 1)).drop (k + 1), by rw [← range_take hlt, List.take_append_drop]⟩, hJx3⟩⟩
          refine AllReadyIn.cons rfl (fun K hK => ?_) ?_
          · go_simp
            try (refine hK _ _ ?_; clear hK K)
            try simp only [List.getElem_toArray, List.getElem_cons_succ, List.getElem_cons_zero, Act.put, List.setIfInBounds_toArray, List.set_cons_zero, List.set_cons_succ]
            refine wpAnyIn_ready (rs := [8]) (by kernel_rfl) (by simp) ?_
            refine AllReadyIn.cons rfl (fun K hK => ?_) AllReadyIn.nil
            go_simp
            try (refine hK _ _ ?_; clear hK K)
            try simp only [List.getElem_toArray, List.getElem_cons_succ, List.getElem_cons_zero, Act.put, List.setIfInBounds_toArray, List.set_cons_zero, List.set_cons_succ]
            refine wpAnyIn_take (i := 14) (v := ?_) hro rfl (by kernel_rfl) (by kernel_rfl) (by kernel_rfl) (fun _ _ _ h => h) ⟨Or.inl ⟨by rfl, ?_⟩, fun _ => rfl⟩ ?_
            rotate_left
            · intro w; go_simp; (try (with_reducible rfl))
            try simp only [List.getElem_toArray, List.getElem_cons_succ, List.getElem_cons_zero, Act.put, List.setIfInBounds_toArray, List.set_cons_zero, List.set_cons_succ]
            refine wpAnyIn_ready (rs := [15]) (by kernel_rfl) (by simp) ?_
            refine AllReadyIn.cons rfl (fun K hK => ?_) AllReadyIn.nil
            go_simp
            refine HRB.out.mono ?_; rintro e W3 ⟨bb, rfl, hbb⟩
            gi_wp2_with fail
            try (refine hK _ _ ?_; clear hK K)
            try simp only [List.getElem_toArray, List.getElem_cons_succ, List.getElem_cons_zero, Act.put, List.setIfInBounds_toArray, List.set_cons_zero, List.set_cons_succ]
            refine wpAnyIn_take (i := 16) (v := ?_) hro rfl (by kernel_rfl) (by kernel_rfl) (by kernel_rfl) (fun _ _ _ h => h) ⟨Or.inl ⟨by rfl, ?_⟩, fun _ => rfl⟩ ?_
            rotate_left
            · intro w; go_simp; (try (with_reducible rfl))
            try simp only [List.getElem_toArray, List.getElem_cons_succ, List.getElem_cons_zero, Act.put, List.setIfInBounds_toArray, List.set_cons_zero, List.set_cons_succ]
            refine wpAnyIn_done (by kernel_rfl) ?_ _
            rcases hbb with ⟨rfl, hJ3, hk3⟩ | ⟨rfl, hJx3⟩
            · gi_wp2
              go_roundw
              case rel => exact ⟨k + 1, j + 1, by omega, by show _ = _; rw [HKJ.out], by go_num, by rw [range_take hlt]; exact hJ3, HB.out.trans ((Below.refl _ _).drew.trans (hk3.mono hA))⟩
              case measure => simp only [intOf]; first | omega | (simp [intOf]; omega)
            · gi_wp2
              refine bodyPost_ret (results_none rfl _ _ _) rfl ?_
              exact ⟨⟨_, rfl⟩, .inr ⟨_, ⟨(List.range (m - 1)).drop (k + 1), by rw [← range_take hlt, List.take_append_drop]⟩, hJx3⟩⟩
          exact AllReadyIn.nil
        refine AllReadyIn.cons rfl (fun K hK => ?_) ?_
        · go_simp
          try (refine hK _ _ ?_; clear hK K)
          try simp only [List.getElem_toArray, List.getElem_cons_succ, List.getElem_cons_zero, Act.put, List.setIfInBounds_toArray, List.set_cons_zero, List.set_cons_succ]
          refine wpAnyIn_ready (rs := [4]) (by kernel_rfl) (by simp) ?_
          refine AllReadyIn.cons rfl (fun K hK => ?_) AllReadyIn.nil
          go_simp
          try (refine hK _ _ ?_; clear hK K)
          try simp only [List.getElem_toArray, List.getElem_cons_succ, List.getElem_cons_zero, Act.put, List.setIfInBounds_toArray, List.set_cons_zero, List.set_cons_succ]
          refine wpAnyIn_take (i := 7) (v := ?_) hro rfl (by kernel_rfl) (by kernel_rfl) (by kernel_rfl) (fun _ _ _ h => h) ⟨Or.inl ⟨by rfl, ?_⟩, fun _ => rfl⟩ ?_
          rotate_left
          · intro w; go_simp; (try (with_reducible rfl))
          try simp only [List.getElem_toArray, List.getElem_cons_succ, List.getElem_cons_zero, Act.put, List.setIfInBounds_toArray, List.set_cons_zero, List.set_cons_succ]
          refine wpAnyIn_ready (rs := [8]) (by kernel_rfl) (by simp) ?_
          refine AllReadyIn.cons rfl (fun K hK => ?_) AllReadyIn.nil
          go_simp
          try (refine hK _ _ ?_; clear hK K)
          try simp only [List.getElem_toArray, List.getElem_cons_succ, List.getElem_cons_zero, Act.put, List.setIfInBounds_toArray, List.set_cons_zero, List.set_cons_succ]
          refine wpAnyIn_take (i := 14) (v := ?_) hro rfl (by kernel_rfl) (by kernel_rfl) (by kernel_rfl) (fun _ _ _ h => h) ⟨Or.inl ⟨by rfl, ?_⟩, fun _ => rfl⟩ ?_
          rotate_left
          · intro w; go_simp; (try (with_reducible rfl))
          try simp only [List.getElem_toArray, List.getElem_cons_succ, List.getElem_cons_zero, Act.put, List.setIfInBounds_toArray, List.set_cons_zero, List.set_cons_succ]
          refine wpAnyIn_ready (rs := [15]) (by kernel_rfl) (by simp) ?_
          refine AllReadyIn.cons rfl (fun K hK => ?_) AllReadyIn.nil
          go_simp
          refine HRB.out.mono ?_; rintro e W3 ⟨bb, rfl, hbb⟩
          gi_wp2_with fail
          try (refine hK _ _ ?_; clear hK K)
          try simp only [List.getElem_toArray, List.getElem_cons_succ, List.getElem_cons_zero, Act.put, List.setIfInBounds_toArray, List.set_cons_zero, List.set_cons_succ]
          refine wpAnyIn_take (i := 16) (v := ?_) hro rfl (by kernel_rfl) (by kernel_rfl) (by kernel_rfl) (fun _ _ _ h => h) ⟨Or.inl ⟨by rfl, ?_⟩, fun _ => rfl⟩ ?_
          rotate_left
          · intro w; go_simp; (try (with_reducible rfl))
          try simp only [List.getElem_toArray, List.getElem_cons_succ, List.getElem_cons_zero, Act.put, List.setIfInBounds_toArray, List.set_cons_zero, List.set_cons_succ]
          refine wpAnyIn_done (by kernel_rfl) ?_ _
          rcases hbb with ⟨rfl, hJ3, hk3⟩ | ⟨rfl, hJx3⟩
          · gi_wp2
            go_roundw
            case rel => exact ⟨k + 1, j + 1, by omega, by show _ = _; rw [HKJ.out], by go_num, by rw [range_take hlt]; exact hJ3, HB.out.trans ((Below.refl _ _).drew.trans (hk3.mono hA))⟩
            case measure => simp only [intOf]; first | omega | (simp [intOf]; omega)
          · gi_wp2
            refine bodyPost_ret (results_none rfl _ _ _) rfl ?_
            exact ⟨⟨_, rfl⟩, .inr ⟨_, ⟨(List.range (m - 1)).drop (k + 1), by rw [← range_take hlt, List.take_append_drop]⟩, hJx3⟩⟩
        exact AllReadyIn.nil
      exact AllReadyIn.nil
    · obtain rfl : k = m - 1 := by omega
      have hjm : ¬ (j : Int) < (m : Int) := by have := HKJ.out; omega
      gi_wp2
      go_end0
      exact ⟨⟨_, rfl⟩, .inl (by rw [List.take_of_length_le (by simp)] at hJ; first | exact hJ | exact ⟨_, rfl, hJ⟩)⟩

theorem pieces_stops (F : Fence) (n : Nat) (hf : F.fn 162) (hro : F.round = none) (hn : 1 ≤ n) (gm n0 : Nat) (A : Option Addr) (m c : Nat) (ns : List (Int × Int)) (w0 : World) (hgm : gm < w0.heap.size) (hA : w0.heap.size ≤ n0) (hm : m ≤ 1000000)
    (hRd : RdN w0 A m ns) (hbm : w0.cell? ⟨gm, 0, none⟩ = some (.slice A m c)) :
    SeqStopsK F n Tryz.prog 162 #[.pointer (some ⟨gm, 0, none⟩)] (fun x : Pc m => #[Value.int .i64 (x.1 : Nat), pieceV ns x.1]) (Below n0) (fun ys => ys.map (·.1) = List.range (m - 1)) (fun pre => pre.map (·.1) <+: List.range (m - 1)) (m - 1) w0 := fun l J Jx W hW hJ _ hY h0 => by
  refine (pieces1_in F n hf hro hn l gm n0 A m c ns w0 hgm hA hm hRd hbm (fun pre W => ∃ q : List (Pc m), q.map (·.1) = pre ∧ J q W) (fun pre W => ∃ q : List (Pc m), q.map (·.1) = pre ∧ Jx q W) ?_ ?_ W hW ⟨[], rfl, h0⟩).mono ?_
  · rintro pre x W1 ⟨q, rfl, hq⟩ hp
    have hx : x + 1 < m := by
      have := hp.subset (show x ∈ q.map (·.1) ++ [x] by simp)
      simp at this; omega
    refine (hY q ⟨x, hx⟩ W1 hq (by have := hp.length_le; simp at this; omega)).mono ?_
    rintro e W' (⟨he, hj, hk⟩ | ⟨he, hj⟩)
    · exact .inl ⟨he, ⟨_, by simp, hj⟩, hk⟩
    · exact .inr ⟨he, ⟨_, by simp, hj⟩⟩
  · rintro pre W1 ⟨q, rfl, hq⟩
    exact ⟨q, rfl, hJ _ _ _ none hq ⟨rfl, rfl, rfl, Nat.le_refl _, fun _ _ _ => rfl⟩ (fun r e => by cases e)⟩
  · rintro e W' ⟨hv, (⟨ys, rfl, q, hq, hj⟩ | ⟨pre, hp, q, rfl, hj⟩)⟩
    · exact ⟨hv, .inl ⟨q, hq, hj⟩⟩
    · exact ⟨hv, .inr ⟨q, hp, hj⟩⟩

end Go.Proofs.YtjjflbnopphciacGreatDoor

namespace Go.Proofs.YtjjflbnopphciacGreatDoor
open Go.RowKit

open Go.Shelf
attribute [local go_sem] Oper.semAt_some

theorem bk4 {W : World} {g : Nat} {t : TypeId} {a b c d : Value} (h : Bk W g t #[a, b, c, d]) : W.cell? ⟨g, 0, none⟩ = some a ∧ W.cell? ⟨g, 1, none⟩ = some b ∧ W.cell? ⟨g, 2, none⟩ = some c ∧ W.cell? ⟨g, 3, none⟩ = some d ∧ W.frozen? ⟨g, 0, none⟩ = false ∧ W.frozen? ⟨g, 1, none⟩ = false ∧ W.frozen? ⟨g, 2, none⟩ = false ∧ W.frozen? ⟨g, 3, none⟩ = false :=
  ⟨by rw [h.cell]; rfl, by rw [h.cell]; rfl, by rw [h.cell]; rfl, by rw [h.cell]; rfl, h.frozen 0, h.frozen 1, h.frozen 2, h.frozen 3⟩
theorem bk1 {W : World} {g : Nat} {t : TypeId} {a : Value} (h : Bk W g t #[a]) : W.cell? ⟨g, 0, none⟩ = some a ∧ W.frozen? ⟨g, 0, none⟩ = false := ⟨by rw [h.cell]; rfl, h.frozen 0⟩
theorem bk_own {β : Type} (g : Nat) (t : TypeId) (f : β → Array Value) : Own (fun s W => Bk W g t (f s)) := fun s X Y row hs hg hrow =>
  Bk.grown hs hg (fun e' => by obtain ⟨o, ho, hc⟩ := hrow g e'.symm; rw [show X.heap[g]? = _ from hs] at ho; cases ho; cases hc)

/-- Whether a piece has a time. -/
def holdsT (t : Int) (ns : List (Int × Int)) (i : Nat) : Bool := decide ((ns.getD i (0, 0)).2 ≤ t) && decide (t ≤ (ns.getD (i + 1) (0, 0)).2)
set_option maxHeartbeats 1000000 in
theorem posAt1_any (x1 x2 y1 y2 t : Int) (B : Nat) (w : World) (hb : w.cell? ⟨B, 0, none⟩ = some (.int .i64 t)) (hlt : B < w.heap.size) :
    Calls Tryz.prog 140 #[.agg #[.int .i64 x1, .int .i64 x2, .int .i64 y1, .int .i64 y2], .pointer (some ⟨B, 0, none⟩)] w fun e w' => e = .returned (.bool (decide (x2 ≤ t) && decide (t ≤ y2))) ∧ w' = w.alloc (.cells #[.int .i64 x1, .int .i64 x2, .int .i64 y1, .int .i64 y2] 176) := by
  have hne : ¬ B = w.heap.size := by omega
  by_cases h1 : x2 ≤ t
  · go_enter Tryz.func140, Tryz.ntmps140
    go_wp2
    go_ret
    exact ⟨retB (by simp [h1]), rfl⟩
  · go_enter Tryz.func140, Tryz.ntmps140
    go_wp2
    go_ret
    exact ⟨retB (by simp; omega), rfl⟩
theorem length_any (x1 x2 y1 y2 : Int) (w : World) (h : -1000000000000 ≤ x1 ∧ x1 ≤ 1000000000000 ∧ -1000000000000 ≤ y1 ∧ y1 ≤ 1000000000000) :
    Calls Tryz.prog 154 #[.agg #[.int .i64 x1, .int .i64 x2, .int .i64 y1, .int .i64 y2]] w fun e w' => e = .returned (.int .i64 (y1 - x1)) ∧ Below w.heap.size w w' := by
  have h1 : IntKind.i64.wrap (y1 - x1) = y1 - x1 := IntWalk.i64_in _ (by omega)
  go_enter Tryz.func154, Tryz.ntmps154
  go_wp2
  go_ret
  exact ⟨rfl, by go_grown⟩
theorem duration_any (x1 x2 y1 y2 : Int) (w : World) (h : -1000000000000 ≤ x2 ∧ x2 ≤ 1000000000000 ∧ -1000000000000 ≤ y2 ∧ y2 ≤ 1000000000000) :
    Calls Tryz.prog 155 #[.agg #[.int .i64 x1, .int .i64 x2, .int .i64 y1, .int .i64 y2]] w fun e w' => e = .returned (.int .i64 (y2 - x2)) ∧ Below w.heap.size w w' := by
  have h1 : IntKind.i64.wrap (y2 - x2) = y2 - x2 := IntWalk.i64_in _ (by omega)
  go_enter Tryz.func155, Tryz.ntmps155
  go_wp2
  go_ret
  exact ⟨rfl, by go_grown⟩
theorem moved_any (lo hi by' : Int) (w : World) (h : -1000000000000000000 ≤ lo ∧ lo ≤ 1000000000000000000 ∧ -1000000000000000000 ≤ hi ∧ hi ≤ 1000000000000000000 ∧ -1000000000000000000 ≤ by' ∧ by' ≤ 1000000000000000000) :
    Calls Tryz.prog 156 #[.agg #[.int .i64 lo, .int .i64 hi], .int .i64 by'] w fun e w' => e = .returned (.agg #[.int .i64 (lo + by'), .int .i64 (hi + by')]) ∧ Below w.heap.size w w' := by
  have h1 : IntKind.i64.wrap (lo + by') = lo + by' := IntWalk.i64_in _ (by omega)
  have h2 : IntKind.i64.wrap (hi + by') = hi + by' := IntWalk.i64_in _ (by omega)
  go_enter Tryz.func156, Tryz.ntmps156
  go_wp2
  exact bodyPost_ret (v := .agg #[.int .i64 (lo + by'), .int .i64 (hi + by')]) (by simp [results, Tryz.results156, go_sem]) rfl ⟨rfl, by go_grown⟩
set_option maxHeartbeats 1000000 in
theorem rounded_any (n d : Int) (w : World) (hn : 0 ≤ n ∧ n ≤ 1000000000000000000) (hd : 0 < d ∧ d ≤ 1000000000000000000) :
    Calls Tryz.prog 157 #[.int .i64 n, .int .i64 d] w fun e w' => e = .returned (.agg #[.int .i64 (n / d), .int .i64 ((n + d - 1) / d)]) ∧ Below w.heap.size w w' := by
  have h1 : IntKind.i64.wrap (n + d) = n + d := IntWalk.i64_in _ (by omega)
  have h2 : IntKind.i64.wrap (n + d - 1) = n + d - 1 := IntWalk.i64_in _ (by omega)
  have hd0 : ¬ d = 0 := by omega
  have hd1 : (d == 0) = false := by rw [beq_eq_false_iff_ne]; omega
  have h3 : 0 ≤ n + d - 1 := by omega
  go_enter Tryz.func157, Tryz.ntmps157
  go_wp2
  go_region
  all_goals
    go_wp2
    exact bodyPost_ret (v := .agg #[.int .i64 (n / d), .int .i64 ((n + d - 1) / d)]) (by simp [results, Tryz.results157, go_sem]) rfl ⟨rfl, by go_grown⟩

/-- The line's box and the result's of a function on a line. -/
structure LInv (w : World) (x1 x2 y1 y2 : Int) (W : World) : Prop where
  line : Bk W w.heap.size 176 #[.int .i64 x1, .int .i64 x2, .int .i64 y1, .int .i64 y2]
  res : ∃ a b : Int, Bk W (w.heap.size + 1) 151 #[.int .i64 a, .int .i64 b]
  bel : Below w.heap.size w W
theorem LInv.drew {w W : World} {x1 x2 y1 y2 : Int} (h : LInv w x1 x2 y1 y2 W) : LInv w x1 x2 y1 y2 W.drew := ⟨h.line.drew, h.res, h.bel.drew⟩
theorem LInv.later {w W w' : World} {x1 x2 y1 y2 : Int} (hb : Below W.heap.size W w') (h : LInv w x1 x2 y1 y2 W) : LInv w x1 x2 y1 y2 w' :=
  ⟨h.line.later hb, by obtain ⟨a, b, k⟩ := h.res; exact ⟨a, b, k.later hb⟩, h.bel.trans (hb.mono h.bel.size)⟩
theorem LInv.cells {w W : World} {x1 x2 y1 y2 : Int} (h : LInv w x1 x2 y1 y2 W) : W.cell? ⟨w.heap.size, 0, none⟩ = some (.int .i64 x1) ∧ W.cell? ⟨w.heap.size, 1, none⟩ = some (.int .i64 x2) ∧ W.cell? ⟨w.heap.size, 2, none⟩ = some (.int .i64 y1) ∧ W.cell? ⟨w.heap.size, 3, none⟩ = some (.int .i64 y2) := by
  obtain ⟨a, b, c, d, _⟩ := bk4 h.line
  exact ⟨a, b, c, d⟩
theorem LInv.set {w W : World} {x1 x2 y1 y2 : Int} (h : LInv w x1 x2 y1 y2 W) (u v : Int) : LInv w x1 x2 y1 y2 ((W.setCell ⟨w.heap.size + 1, 0, none⟩ (.int .i64 u)).setCell ⟨w.heap.size + 1, 1, none⟩ (.int .i64 v)) := by
  obtain ⟨a, b, k⟩ := h.res
  exact ⟨(h.line.far _ (by simp) _).far _ (by simp) _, ⟨u, v, (k.set_ 0 (.int .i64 u)).set_ 1 (.int .i64 v)⟩, (h.bel.setCell (p := ⟨w.heap.size + 1, 0, none⟩) (by simp) _).setCell (p := ⟨w.heap.size + 1, 1, none⟩) (by simp) _⟩
theorem LInv.start (w : World) (x1 x2 y1 y2 : Int) : LInv w x1 x2 y1 y2 ((w.alloc (.cells #[.int .i64 x1, .int .i64 x2, .int .i64 y1, .int .i64 y2] 176)).alloc (.cells #[.int .i64 0, .int .i64 0] 151)) :=
  ⟨(Bk.new w _ _).alloc _, ⟨0, 0, by have h := Bk.new (w.alloc (.cells #[.int .i64 x1, .int .i64 x2, .int .i64 y1, .int .i64 y2] 176)) 151 #[.int .i64 0, .int .i64 0]; simpa using h⟩, below2 _ _ _⟩

def posP (x1 x2 y1 t : Int) : Int := (y1 - x1) * (t - x2)
def posLo (x1 x2 y1 y2 t : Int) : Int := 64 * (posP x1 x2 y1 t % (y2 - x2)) / (y2 - x2) + 64 * (x1 + posP x1 x2 y1 t / (y2 - x2))
def posHi (x1 x2 y1 y2 t : Int) : Int := (64 * (posP x1 x2 y1 t % (y2 - x2)) + (y2 - x2) - 1) / (y2 - x2) + 64 * (x1 + posP x1 x2 y1 t / (y2 - x2))
set_option maxRecDepth 100000 in
set_option maxHeartbeats 2000000 in
theorem positionAt_any (x1 x2 y1 y2 t : Int) (w : World) (hx : 0 ≤ x1 ∧ x1 < y1 ∧ y1 ≤ 1000000) (hy : 0 ≤ x2 ∧ x2 < y2 ∧ y2 ≤ 1000000000000) (ht : x2 ≤ t ∧ t ≤ y2) :
    Calls Tryz.prog 141 #[.agg #[.int .i64 x1, .int .i64 x2, .int .i64 y1, .int .i64 y2], .int .i64 t] w fun e w' => e = .returned (.agg #[.int .i64 (posLo x1 x2 y1 y2 t), .int .i64 (posHi x1 x2 y1 y2 t)]) ∧ Below w.heap.size w w' := by
  have CL := Lib.hid (fun w => length_any x1 x2 y1 y2 w (by omega))
  have CD := Lib.hid (fun w => duration_any x1 x2 y1 y2 w (by omega))
  have HLo : Hid (posLo x1 x2 y1 y2 t = 64 * (posP x1 x2 y1 t % (y2 - x2)) / (y2 - x2) + 64 * (x1 + posP x1 x2 y1 t / (y2 - x2))) := rfl
  have HHi : Hid (posHi x1 x2 y1 y2 t = (64 * (posP x1 x2 y1 t % (y2 - x2)) + (y2 - x2) - 1) / (y2 - x2) + 64 * (x1 + posP x1 x2 y1 t / (y2 - x2))) := rfl
  have hp1 := mul_bd (a := y1 - x1) (b := t - x2) (A := 1000000) (B := 1000000000000) (by omega) (by omega) (by omega) (by omega)
  have hp0 : 0 ≤ (y1 - x1) * (t - x2) := Int.mul_nonneg (by omega) (by omega)
  have hps : (y1 - x1) * (t - x2) ≤ 1000000 * (y2 - x2) := Int.mul_le_mul (by omega) (by omega) (by omega) (by omega)
  have w1a : IntKind.i64.wrap (t - x2) = t - x2 := IntWalk.i64_in _ (by omega)
  obtain ⟨D, hD⟩ : ∃ D, y2 - x2 = D := ⟨_, rfl⟩
  have hDb : 0 < D ∧ D ≤ 1000000000000 := by omega
  have HP : Hid (posP x1 x2 y1 t = (y1 - x1) * (t - x2)) := rfl
  obtain ⟨L, hL⟩ : ∃ L, y1 - x1 = L := ⟨_, rfl⟩
  rw [hL] at CL hp1 hp0 hps HP
  rw [hD] at CD HLo HHi hps
  obtain ⟨T, hT⟩ : ∃ T, t - x2 = T := ⟨_, rfl⟩
  rw [hT] at hp1 hp0 hps HP
  have w1 : IntKind.i64.wrap (t - x2) = T := by rw [← hT]; exact w1a
  clear w1a
  obtain ⟨p, hp⟩ : ∃ p, L * T = p := ⟨_, rfl⟩
  have w2 : IntKind.i64.wrap (L * T) = p := by rw [← hp]; exact IntWalk.i64_in _ (by omega)
  rw [hp] at hp1 hp0 hps HP
  rw [HP.out] at HLo HHi
  have hD0 : ¬ D = 0 := by omega
  have hD1 : (D == 0) = false := by rw [beq_eq_false_iff_ne]; omega
  have hq := Int.ediv_nonneg hp0 (b := D) (by omega)
  have hq2 : p / D ≤ 1000000 := by
    have := Int.ediv_le_of_le_mul (a := p) (b := 1000000) hDb.1 (by omega)
    exact this
  have hr0 := Int.emod_nonneg p (b := D) (by omega)
  have hr1 := Int.emod_lt_of_pos p hDb.1
  obtain ⟨sm, hsm⟩ : ∃ sm, p / D = sm := ⟨_, rfl⟩
  obtain ⟨rs, hrs⟩ : ∃ rs, p % D = rs := ⟨_, rfl⟩
  have ht1 : p.tdiv D = sm := by rw [Int.tdiv_eq_ediv_of_nonneg hp0, hsm]
  have ht2 : p.tmod D = rs := by rw [Int.tmod_eq_emod_of_nonneg hp0, hrs]
  rw [hsm] at hq hq2 HLo HHi
  rw [hrs] at hr0 hr1 HLo HHi
  have w6 : IntKind.i64.wrap sm = sm := IntWalk.i64_in _ (by omega)
  have w3 : IntKind.i64.wrap (64 * rs) = 64 * rs := IntWalk.i64_in _ (by omega)
  have w4 : IntKind.i64.wrap (x1 + sm) = x1 + sm := IntWalk.i64_in _ (by omega)
  have w5 : IntKind.i64.wrap (64 * (x1 + sm)) = 64 * (x1 + sm) := IntWalk.i64_in _ (by omega)
  have hlo := ediv_bd (64 * rs) D (by omega) hDb.1
  have CR := Lib.hid (fun w => rounded_any (64 * rs) D w (by omega) (by omega))
  have ha0 := Int.ediv_nonneg (a := 64 * rs) (b := D) (by omega) (by omega)
  have ha1 : 64 * rs / D ≤ 64 := Int.ediv_le_of_le_mul hDb.1 (by omega)
  have hb0 := Int.ediv_nonneg (a := 64 * rs + D - 1) (b := D) (by omega) (by omega)
  have hb1 : (64 * rs + D - 1) / D ≤ 65 := Int.ediv_le_of_le_mul hDb.1 (by omega)
  obtain ⟨lo, hlo'⟩ : ∃ lo, 64 * rs / D = lo := ⟨_, rfl⟩
  obtain ⟨hi, hhi'⟩ : ∃ hi, (64 * rs + D - 1) / D = hi := ⟨_, rfl⟩
  rw [hlo'] at CR ha0 ha1 HLo
  rw [hhi'] at CR hb0 hb1 HHi
  have CM := Lib.hid (fun w => moved_any lo hi (64 * (x1 + sm)) w (by omega))
  have HMU := Lib.hid hp
  clear hlo hlo' hhi' hsm hrs HP hp hL hD hT hps hp1 HMU
  go_enter Tryz.func141, Tryz.ntmps141
  go_wp2
  have hI := LInv.start w x1 x2 y1 y2
  obtain ⟨W, hW⟩ : ∃ W, ((w.alloc (.cells #[.int .i64 x1, .int .i64 x2, .int .i64 y1, .int .i64 y2] 176)).alloc (.cells #[.int .i64 0, .int .i64 0] 151)) = W := ⟨_, rfl⟩
  rw [hW] at hI ⊢
  clear hW
  go_region_held3 (fun w' : World => (w'.cell? ⟨w.heap.size, 0, none⟩ = some (.int .i64 x1) ∧ w'.cell? ⟨w.heap.size, 1, none⟩ = some (.int .i64 x2) ∧ w'.cell? ⟨w.heap.size, 2, none⟩ = some (.int .i64 y1) ∧ w'.cell? ⟨w.heap.size, 3, none⟩ = some (.int .i64 y2)) ∧ LInv w x1 x2 y1 y2 w') ((refine (fun hI => ⟨LInv.cells hI, hI⟩) ?_; first | assumption | exact LInv.drew (by assumption) | exact LInv.set (by assumption) _ _))
    ((go_at_call 154; refine (CL.out _).mono ?_; rintro e w3 ⟨rfl, hb3⟩; have hI3 := LInv.later hb3 (by first | assumption | (go_split_ands; assumption)); clear hb3))
  all_goals
    clear hI
    obtain ⟨W2, rfl⟩ : ∃ W2, W2 = w3 := ⟨_, rfl⟩
    have hI := hI3
    clear hI3
    go_wp2
    go_region_held3 (fun w' : World => (w'.cell? ⟨w.heap.size, 0, none⟩ = some (.int .i64 x1) ∧ w'.cell? ⟨w.heap.size, 1, none⟩ = some (.int .i64 x2) ∧ w'.cell? ⟨w.heap.size, 2, none⟩ = some (.int .i64 y1) ∧ w'.cell? ⟨w.heap.size, 3, none⟩ = some (.int .i64 y2)) ∧ LInv w x1 x2 y1 y2 w') ((refine (fun hI => ⟨LInv.cells hI, hI⟩) ?_; first | assumption | exact LInv.drew (by assumption) | exact LInv.set (by assumption) _ _))
      ((go_at_call 155; ((with_reducible refine (CD.out _).mono ?_)); rintro e w3 ⟨rfl, hb3⟩; have hI3 := LInv.later hb3 (by first | assumption | (go_split_ands; assumption)); clear hb3))
    all_goals
      clear hI
      obtain ⟨W5, rfl⟩ : ∃ W5, W5 = w3 := ⟨_, rfl⟩
      have hI := hI3
      clear hI3
      go_wp2
      go_region_held3 (fun w' : World => (w'.cell? ⟨w.heap.size, 0, none⟩ = some (.int .i64 x1) ∧ w'.cell? ⟨w.heap.size, 1, none⟩ = some (.int .i64 x2) ∧ w'.cell? ⟨w.heap.size, 2, none⟩ = some (.int .i64 y1) ∧ w'.cell? ⟨w.heap.size, 3, none⟩ = some (.int .i64 y2)) ∧ LInv w x1 x2 y1 y2 w') ((refine (fun hI => ⟨LInv.cells hI, hI⟩) ?_; first | assumption | exact LInv.drew (by assumption) | exact LInv.set (by assumption) _ _)) (first
        | (go_at_call 155; ((with_reducible refine (CD.out _).mono ?_)); rintro e w3 ⟨rfl, hb3⟩; have hI3 := LInv.later hb3 (by first | assumption | (go_split_ands; assumption)); clear hb3)
        | (go_at_call 157; ((with_reducible refine (CR.out _).mono ?_)); rintro e w3 ⟨rfl, hb3⟩; have hI3 := LInv.later hb3 (by first | assumption | (go_split_ands; assumption)); clear hb3)
        | (go_at_call 156; ((with_reducible refine (CM.out _).mono ?_)); rintro e w3 ⟨rfl, hb3⟩; have hI3 := LInv.later hb3 (by first | assumption | (go_split_ands; assumption)); clear hb3; obtain ⟨ra, rb, kr⟩ := hI3.res; have kq := bk2 kr; obtain ⟨e0, e1, k0, k1⟩ := kq))
      all_goals
        go_wp2
        have hIF := LInv.drew (LInv.set hI3 (lo + 64 * (x1 + sm)) (hi + 64 * (x1 + sm)))
        refine bodyPost_ret (v := .agg #[.int .i64 (lo + 64 * (x1 + sm)), .int .i64 (hi + 64 * (x1 + sm))]) (by simp [results, Tryz.results141, go_sem, e0, e1, k0, k1]) rfl ⟨?_, ?_⟩
        · rw [HLo.out, HHi.out]
        · first | exact hIF.bel | exact (LInv.set hI3 _ _).bel

end Go.Proofs.YtjjflbnopphciacGreatDoor

namespace Go.Proofs.YtjjflbnopphciacGreatDoor
open Go.RowKit

open Go.Shelf
attribute [local go_sem] Oper.semAt_some

def nodesOk (ns : List (Int × Int)) : Prop := ∀ i, i + 1 < ns.length → (0 ≤ (ns.getD i (0, 0)).1 ∧ (ns.getD i (0, 0)).1 < (ns.getD (i + 1) (0, 0)).1 ∧ (ns.getD (i + 1) (0, 0)).1 ≤ 1000000) ∧ 0 ≤ (ns.getD i (0, 0)).2 ∧ (ns.getD i (0, 0)).2 < (ns.getD (i + 1) (0, 0)).2 ∧ (ns.getD (i + 1) (0, 0)).2 ≤ 1000000000000
theorem nodeE_zero {b x : Int × Int} (h : nodeE b x = 0) : 0 ≤ x.1 ∧ x.1 ≤ 1000000 ∧ 0 ≤ x.2 ∧ x.2 ≤ 1000000000000 ∧ b.1 < x.1 ∧ b.2 < x.2 := by
  have h1 := rngE_zero (firstNZ_zero h (rngE 0 1000000 [x.1]) (by simp))
  have h2 := rngE_zero (firstNZ_zero h (rngE 0 1000000000000 [x.2]) (by simp))
  have h3 := firstNZ_zero h (if x.1 ≤ b.1 ∨ x.2 ≤ b.2 then 9 else 0) (by simp)
  by_cases h4 : x.1 ≤ b.1 ∨ x.2 ≤ b.2
  · rw [if_pos h4] at h3; cases h3
  · omega
theorem mapGo_ok : ∀ (l : List (Int × Int)) (b : Int × Int) (k : Nat), (mapGo b k l).2 = 0 → ∀ i, i < l.length → nodeE (if i = 0 then b else l.getD (i - 1) (0, 0)) (l.getD i (0, 0)) = 0
  | [], _, _, _, i, hi => by simp at hi
  | x :: l, b, k, h, i, hi => by
    unfold mapGo at h
    by_cases h0 : nodeE b x = 0
    · rw [if_pos h0] at h
      cases i with
      | zero => simpa using h0
      | succ i =>
        have := mapGo_ok l x (k + 1) h i (by simpa using hi)
        cases i with
        | zero => simpa using this
        | succ i => simpa using this
    · rw [if_neg h0] at h; exact absurd h h0
theorem mapR_ok {ns : List (Int × Int)} (h : (mapR ns).2 = 0) : nodesOk ns ∧ 2 ≤ ns.length ∧ ns.length ≤ 20 := by
  unfold mapR at h
  by_cases h1 : ns.length < 2
  · rw [if_pos h1] at h; cases h
  · rw [if_neg h1] at h
    by_cases h2 : 20 < ns.length
    · rw [if_pos h2] at h; cases h
    · rw [if_neg h2] at h
      refine ⟨fun i hi => ?_, by omega, by omega⟩
      have a := nodeE_zero (mapGo_ok ns _ _ h i (by omega))
      have b := nodeE_zero (mapGo_ok ns _ _ h (i + 1) hi)
      rw [if_neg (Nat.succ_ne_zero i), Nat.add_sub_cancel] at b
      omega

/-- The first piece that has a time. -/
def findP (t : Int) (ns : List (Int × Int)) : Nat → Nat → Option Nat
  | _, 0 => none
  | i, k + 1 => if holdsT t ns i = true then some i else findP t ns (i + 1) k
theorem findP_some {t : Int} {ns : List (Int × Int)} : ∀ {k i j : Nat}, (∀ x, i ≤ x → x < i + j → holdsT t ns x = false) → j < k → holdsT t ns (i + j) = true → findP t ns i k = some (i + j)
  | 0, _, _, _, h, _ => by omega
  | k + 1, i, 0, _, _, h => by unfold findP; rw [if_pos (by simpa using h)]; rfl
  | k + 1, i, j + 1, hp, hj, h => by
    unfold findP
    rw [if_neg (by rw [hp i (by omega) (by omega)]; simp)]
    have := findP_some (t := t) (ns := ns) (k := k) (i := i + 1) (j := j) (fun x h1 h2 => hp x (by omega) (by omega)) (by omega) (by rw [← h]; congr 1; omega)
    rw [this]; congr 1; omega
theorem findP_none {t : Int} {ns : List (Int × Int)} : ∀ {k i : Nat}, (∀ x, i ≤ x → x < i + k → holdsT t ns x = false) → findP t ns i k = none
  | 0, _, _ => rfl
  | k + 1, i, hp => by
    unfold findP
    rw [if_neg (by rw [hp i (by omega) (by omega)]; simp)]
    exact findP_none fun x h1 h2 => hp x (by omega) (by omega)
/-- The piece with a time, as the function gives it. -/
def pieceRes (t : Int) (ns : List (Int × Int)) : Value × Int :=
  if (mapR ns).2 = 0 then (match findP t ns 0 (ns.length - 1) with | some i => (pieceV ns i, 0) | none => (.agg #[.int .i64 0, .int .i64 0, .int .i64 0, .int .i64 0], 2)) else (.agg #[.int .i64 0, .int .i64 0, .int .i64 0, .int .i64 0], (mapR ns).2)

theorem piecesOf_any (A : Option Addr) (m c : Nat) (w : World) :
    Calls Tryz.prog 153 #[.agg #[.slice A m c]] w fun e w' => e = .returned (.func (.func 162) #[] #[.pointer (some ⟨w.heap.size, 0, none⟩)]) ∧ w' = w.alloc (.cells #[.slice A m c] 24) := by
  go_enter Tryz.func153, Tryz.ntmps153
  go_wp2
  go_ret
  exact ⟨rfl, rfl⟩
def pieceA (ns : List (Int × Int)) (i : Nat) : Array Value := #[.int .i64 (ns.getD i (0, 0)).1, .int .i64 (ns.getD i (0, 0)).2, .int .i64 (ns.getD (i + 1) (0, 0)).1, .int .i64 (ns.getD (i + 1) (0, 0)).2]
theorem pieceV_eq (ns : List (Int × Int)) (i : Nat) : pieceV ns i = .agg (pieceA ns i) := rfl
/-- The boxes of pieceWith. -/
structure PInv (w : World) (A : Option Addr) (m c B : Nat) (r : Array Value) (ev : Int) (W : World) : Prop where
  bm : Bk W w.heap.size 24 #[.slice A m c]
  bf : Bk W (w.heap.size + 1) 179 #[.func (.func 140) #[] #[.pointer (some ⟨B, 0, none⟩)]]
  br : Bk W (w.heap.size + 2) 176 r
  be : Bk W (w.heap.size + 3) 37 #[.int .i64 ev]
  bel : Below w.heap.size w W
theorem PInv.later {w W w' : World} {A : Option Addr} {m c B : Nat} {r : Array Value} {ev : Int} (h : PInv w A m c B r ev W) (hb : Below W.heap.size W w') : PInv w A m c B r ev w' :=
  ⟨h.bm.later hb, h.bf.later hb, h.br.later hb, h.be.later hb, h.bel.trans (hb.mono h.bel.size)⟩
theorem PInv.own {w : World} {A : Option Addr} {m c B : Nat} {r : Array Value} {ev : Int} (n : Nat) (hn : w.heap.size ≤ n) : OwnFrom n (fun (_ : Unit) W => PInv w A m c B r ev W) := fun s X Y row hs hg hr => by
  have k : ∀ {g : Nat} {t : TypeId} {cs : Array Value}, Bk X g t cs → Bk Y g t cs := fun {g t cs} h => Bk.grown h hg (fun e' => by
    obtain ⟨_, o, ho, hc⟩ := hr g e'.symm
    rw [show X.heap[g]? = _ from h] at ho; cases ho; cases hc)
  exact ⟨k hs.bm, k hs.bf, k hs.br, k hs.be, hs.bel.grown hg hs.bel.size (fun k e => by have := (hr k e).1; omega)⟩

theorem PInv.set {w W : World} {A : Option Addr} {m c B : Nat} {a0 a1 a2 a3 : Value} {ev : Int} (h : PInv w A m c B #[a0, a1, a2, a3] ev W) (b0 b1 b2 b3 : Value) (e : Int) :
    PInv w A m c B #[b0, b1, b2, b3] e (((((W.setCell ⟨w.heap.size + 2, 0, none⟩ b0).setCell ⟨w.heap.size + 2, 1, none⟩ b1).setCell ⟨w.heap.size + 2, 2, none⟩ b2).setCell ⟨w.heap.size + 2, 3, none⟩ b3).setCell ⟨w.heap.size + 3, 0, none⟩ (.int .i64 e)) := by
  refine ⟨?_, ?_, ?_, ?_, ?_⟩
  · exact ((((h.bm.far _ (by simp) _).far _ (by simp) _).far _ (by simp) _).far _ (by simp) _).far _ (by simp) _
  · exact ((((h.bf.far _ (by simp) _).far _ (by simp) _).far _ (by simp) _).far _ (by simp) _).far _ (by simp) _
  · exact ((((h.br.set_ 0 b0).set_ 1 b1).set_ 2 b2).set_ 3 b3).far _ (by simp) _
  · exact (((((h.be.far _ (by simp) _).far _ (by simp) _).far _ (by simp) _).far _ (by simp) _).set_ 0 _)
  · exact ((((h.bel.setCell (p := ⟨w.heap.size + 2, 0, none⟩) (by simp) _).setCell (p := ⟨w.heap.size + 2, 1, none⟩) (by simp) _).setCell (p := ⟨w.heap.size + 2, 2, none⟩) (by simp) _).setCell (p := ⟨w.heap.size + 2, 3, none⟩) (by simp) _).setCell (p := ⟨w.heap.size + 3, 0, none⟩) (by simp) _

theorem pre_idx {N : Nat} {l : List Nat} (h : l <+: List.range N) (i : Nat) (hi : i < l.length) : l[i] = i := by
  rw [h.getElem hi]; simp
theorem pre_last {m : Nat} {P : Nat → Prop} {q : List (Pc m)} {x : Pc m} (h : (q ++ [x]).map (·.1) <+: List.range (m - 1)) (hq : ∀ y ∈ q, P y.1) : x.1 = q.length ∧ q.length < m - 1 ∧ ∀ i, i < q.length → P i := by
  have h1 := pre_idx h q.length (by simp)
  have h2 := h.length_le
  simp at h1 h2
  refine ⟨h1, by omega, fun i hi => ?_⟩
  have h3 := pre_idx h i (by simp; omega)
  rw [List.getElem_map, List.getElem_append_left hi] at h3
  have h4 := hq _ (List.getElem_mem hi)
  rw [h3] at h4
  exact h4
theorem all_idx {m : Nat} {P : Nat → Prop} {q : List (Pc m)} (h : q.map (·.1) = List.range (m - 1)) (hq : ∀ y ∈ q, P y.1) : ∀ i, i < m - 1 → P i := by
  intro i hi
  have : i ∈ q.map (·.1) := by rw [h]; simpa using hi
  obtain ⟨y, hy, rfl⟩ := List.mem_map.1 this
  exact hq y hy

set_option maxRecDepth 100000 in
set_option maxHeartbeats 4000000 in
theorem pieceWith_any (A : Option Addr) (m c : Nat) (ns : List (Int × Int)) (t : Int) (B : Nat) (w : World) (hr : RdN w A m ns) (hm : m ≤ 1000000) (hB : w.cell? ⟨B, 0, none⟩ = some (.int .i64 t)) (hBl : B < w.heap.size) :
    Calls Tryz.prog 139 #[.agg #[.slice A m c], .func (.func 140) #[] #[.pointer (some ⟨B, 0, none⟩)]] w fun e w' => e = .returned (.tuple #[(pieceRes t ns).1, .int .i64 (pieceRes t ns).2]) ∧ Below w.heap.size w w' := by
  have HR := Lib.hid hr
  have HBt := Lib.hid hB
  have HL : Hid (ns.length = m) := hr.1
  have HP : Hid (pieceRes t ns = if (mapR ns).2 = 0 then (match findP t ns 0 (m - 1) with | some i => (pieceV ns i, 0) | none => (.agg #[.int .i64 0, .int .i64 0, .int .i64 0, .int .i64 0], 2)) else (.agg #[.int .i64 0, .int .i64 0, .int .i64 0, .int .i64 0], (mapR ns).2)) := by show _ = _; unfold pieceRes; rw [hr.1]
  have CM : Hid (∀ w', Below w.heap.size w w' → Calls Tryz.prog 107 #[.agg #[.slice A m c]] w' fun e w'' => e = .returned (.int .i64 (mapR ns).2) ∧ Below w'.heap.size w' w'') := fun w' hb => checkMap_any A m c ns w' (hr.below hb) hm
  have HMok : Hid ((mapR ns).2 = 0 → nodesOk ns ∧ 2 ≤ ns.length ∧ ns.length ≤ 20) := fun h => mapR_ok h
  obtain ⟨E, hE⟩ : ∃ E, (mapR ns).2 = E := ⟨_, rfl⟩
  rw [hE] at HP CM HMok
  clear hr hB hE
  refine (callsIn_wide (n := 6)).1 ?_
  refine callsIn_of_wp_marks Tryz.func139 rfl trivial ?_ rfl
  simp only [Tryz.ntmps139, List.size_toArray, List.length_cons, List.length_nil, Nat.reduceAdd, Nat.reduceSub, Array.replicate_succ, Array.replicate_zero, List.push_toArray, List.append_toArray, List.nil_append, List.cons_append]
  gi_wp2_with fail
  have hP0 : PInv w A m c B #[.int .i64 0, .int .i64 0, .int .i64 0, .int .i64 0] 0 ((((w.alloc (.cells #[.slice A m c] 24)).alloc (.cells #[.func (.func 140) #[] #[.pointer (some ⟨B, 0, none⟩)]] 179)).alloc (.cells #[.int .i64 0, .int .i64 0, .int .i64 0, .int .i64 0] 176)).alloc (.cells #[.int .i64 0] 37)) := by
    refine ⟨?_, ?_, ?_, ?_, by go_grown⟩
    · exact (((Bk.new w _ _).alloc _).alloc _).alloc _
    · have h := ((Bk.new (w.alloc (.cells #[.slice A m c] 24)) 179 #[.func (.func 140) #[] #[.pointer (some ⟨B, 0, none⟩)]]).alloc (.cells #[.int .i64 0, .int .i64 0, .int .i64 0, .int .i64 0] 176)).alloc (.cells #[.int .i64 0] 37)
      simpa using h
    · have h := (Bk.new ((w.alloc (.cells #[.slice A m c] 24)).alloc (.cells #[.func (.func 140) #[] #[.pointer (some ⟨B, 0, none⟩)]] 179)) 176 #[.int .i64 0, .int .i64 0, .int .i64 0, .int .i64 0]).alloc (.cells #[.int .i64 0] 37)
      simpa using h
    · have h := Bk.new (((w.alloc (.cells #[.slice A m c] 24)).alloc (.cells #[.func (.func 140) #[] #[.pointer (some ⟨B, 0, none⟩)]] 179)).alloc (.cells #[.int .i64 0, .int .i64 0, .int .i64 0, .int .i64 0] 176)) 37 #[.int .i64 0]
      simpa using h
  have HP0 := Lib.hid hP0
  clear hP0
  refine ⟨trivial, ?_⟩
  refine (callsIn_wide.2 (CM.out _ HP0.out.bel)).mono ?_
  rintro e w1 ⟨rfl, hb1⟩
  have hP1 := HP0.out.later hb1
  have HP1 := Lib.hid hP1
  clear HP0 hb1 CM
  obtain ⟨m0, _⟩ := bk1 hP1.bm
  obtain ⟨f0, _⟩ := bk1 hP1.bf
  obtain ⟨r0, r1, r2, r3, z0, z1, z2, z3⟩ := bk4 hP1.br
  obtain ⟨e0, y0⟩ := bk1 hP1.be
  have hsz1 : w.heap.size + 4 ≤ w1.heap.size := by have := hP1.be.lt; omega
  clear hP1
  gi_wp2_with fail
  · have h0 := ne0_of (F := E) (by assumption)
    have HPV : Hid (pieceRes t ns = (.agg #[.int .i64 0, .int .i64 0, .int .i64 0, .int .i64 0], E)) := by show _ = _; rw [HP.out, if_neg h0]
    refine ⟨.tuple #[.agg #[.int .i64 0, .int .i64 0, .int .i64 0, .int .i64 0], .int .i64 E], ?_, ?_, ?_⟩
    · simp [results, Tryz.f139, go_sem, r0, r1, r2, r3, z0, z1, z2, z3, e0, y0]
    · rw [HPV.out]
    · have := HP1.out.bel
      go_grown
  · have h0 := eq0_of (F := E) (by assumption)
    subst h0
    obtain ⟨hok, hl2, hl20⟩ := HMok.out rfl
    have HOK := Lib.hid hok
    have HPV : Hid (pieceRes t ns = (match findP t ns 0 (m - 1) with | some i => (pieceV ns i, 0) | none => (.agg #[.int .i64 0, .int .i64 0, .int .i64 0, .int .i64 0], 2))) := by show _ = _; rw [HP.out, if_pos rfl]
    clear hok HMok HP
    refine ⟨trivial, ?_⟩
    refine (callsIn_wide.2 (piecesOf_any A m c w1)).mono ?_
    rintro e w2 ⟨rfl, hw2⟩
    have HP2 := Lib.hid (HP1.out.later (w' := w2) (by rw [hw2]; exact below1 _ _))
    have HM2 : Hid (Bk w2 w1.heap.size 24 #[.slice A m c]) := by show Bk _ _ _ _; rw [hw2]; exact Bk.new _ _ _
    have hz2 : w2.heap.size = w1.heap.size + 1 := by rw [hw2]; simp
    have HR2 := Lib.hid (HR.out.below HP2.out.bel)
    clear hw2 HP1 m0 f0 r0 r1 r2 r3 z0 z1 z2 z3 e0 y0
    gi_wp2_with fail
    have hm2 : w2.cell? ⟨w1.heap.size, 0, none⟩ = some (.slice A m c) := (bk1 HM2.out).1
    refine wpIn_rangeFunc_ownH (α := Pc m) rfl (by omega) (gf := 162) (lb := #[.pointer (some ⟨w1.heap.size, 0, none⟩)]) rfl trivial (enters_of Tryz.func162 (by kernel_rfl) rfl)
      (pieces_stops Fence.wide _ trivial rfl (by omega) w1.heap.size w2.heap.size A m c ns w2 (by omega) (Nat.le_refl _) hm HR2.out hm2) belowK_t (belowK_b (Nat.le_refl _)) (Below.refl _ _) (fun _ => rfl)
      (fun pre W => (∀ x ∈ pre, holdsT t ns x.1 = false) ∧ PInv w A m c B #[.int .i64 0, .int .i64 0, .int .i64 0, .int .i64 0] 0 W ∧ w2.heap.size ≤ W.heap.size)
      (fun cc pre W => cc = .ret ∧ (∃ q x, pre = q ++ [x] ∧ (∀ y ∈ q, holdsT t ns y.1 = false) ∧ holdsT t ns x.1 = true ∧ PInv w A m c B (pieceA ns x.1) 0 W))
      (fun s X Y row hs hg hr => ⟨hs.1, PInv.own w2.heap.size (by have := HP2.out.be.lt; omega) () X Y row hs.2.1 hg hr, Nat.le_trans hs.2.2 hg.size⟩)
      (fun cc s X Y row hs hg hr => ⟨hs.1, by obtain ⟨q, x, h1, h2, h3, h4⟩ := hs.2; exact ⟨q, x, h1, h2, h3, PInv.own w2.heap.size (by have := HP2.out.be.lt; omega) () X Y row h4 hg hr⟩⟩)
      ⟨by simp, HP2.out, Nat.le_refl _⟩
      (fun x a' W => ∃ Bx, w2.heap.size ≤ Bx ∧ Bk W Bx 176 (pieceA ns x.1) ∧ a' = { tmps := #[.agg #[.slice A m c], .func (.func 140) #[] #[.pointer (some ⟨B, 0, none⟩)], .pointer (some ⟨w.heap.size, 0, none⟩), .pointer (some ⟨w.heap.size + 1, 0, none⟩), .pointer (some ⟨w.heap.size + 1 + 1, 0, none⟩), .pointer (some ⟨w.heap.size + 1 + 1 + 1, 0, none⟩), .int .i64 0, undef, .pointer (some ⟨Bx, 0, none⟩), .agg #[.slice A m c], .int .i64 0, .int .i64 0, .bool false, undef, undef, .agg #[.slice A m c], .func (.func 162) #[] #[.pointer (some ⟨w1.heap.size, 0, none⟩)], .int .i64 (x.1 : Nat), pieceV ns x.1, undef, undef, undef, undef, undef], defers := [] })
      (fun x a' s X Y row hs hg hr => by
        obtain ⟨Bx, h1, h2, h3⟩ := hs
        exact ⟨Bx, h1, Bk.grown h2 hg (fun e' => by obtain ⟨_, o, ho, hc⟩ := hr Bx e'.symm; rw [show X.heap[Bx]? = _ from h2] at ho; cases ho; cases hc), h3⟩)
      ?assign ?body ?done ?stop
    case assign =>
      rintro l pre x W K hi hK
      obtain ⟨h1, h2, h3⟩ := hi
      rw [pieceV_eq] at hK ⊢
      unfold pieceA at hK ⊢
      gi_wp2
      exact hK _ _ ((KeepsOthers.alloc _ _).from _) ((Below.refl _ W).alloc h3 _) ⟨h1, h2.later (below1 _ _), by simp; omega⟩ ⟨W.heap.size, h3, Bk.new _ _ _, rfl⟩
    case body =>
      rintro l pre x a' W hl ⟨r, hr⟩ ⟨hp, hP, hs⟩ ⟨Bx, hBx, bX, rfl⟩ _
      have hBW : W.cell? ⟨B, 0, none⟩ = some (.int .i64 t) := (hP.bel.cell (p := ⟨B, 0, none⟩) hBl).trans HBt.out
      have hBW2 : B < W.heap.size := by have := hP.bel.size; omega
      have CH : Hid (Calls Tryz.prog 140 #[pieceV ns x.1, .pointer (some ⟨B, 0, none⟩)] W fun e w' => e = .returned (.bool (holdsT t ns x.1)) ∧ w' = W.alloc (.cells (pieceA ns x.1) 176)) := posAt1_any _ _ _ _ t B W hBW hBW2
      obtain ⟨bb, hbb⟩ : ∃ bb, holdsT t ns x.1 = bb := ⟨_, rfl⟩
      rw [hbb] at CH
      have HBB := Lib.hid hbb
      have HP0 := Lib.hid hP
      have HPre := Lib.hid hp
      have HX0 := Lib.hid bX
      obtain ⟨f0, _⟩ := bk1 hP.bf
      rw [pieceV_eq] at CH ⊢
      have HPA : Hid (pieceA ns x.1 = pieceA ns x.1) := rfl
      obtain ⟨⟨x1, x2⟩, hx⟩ : ∃ p, ns.getD x.1 (0, 0) = p := ⟨_, rfl⟩
      obtain ⟨⟨y1, y2⟩, hy⟩ : ∃ p, ns.getD (x.1 + 1) (0, 0) = p := ⟨_, rfl⟩
      have hpa : pieceA ns x.1 = #[.int .i64 x1, .int .i64 x2, .int .i64 y1, .int .i64 y2] := by unfold pieceA; rw [hx, hy]
      rw [hpa] at CH bX HX0 ⊢
      have HPE := Lib.hid hpa
      clear hpa hx hy hbb hp hBW
      obtain ⟨b0, b1, b2, b3, _, _, _, _⟩ := bk4 bX
      clear hP bX
      cases bb
      · gi_wp2_with (refine ⟨trivial, ?_⟩; gi_at_call 140; refine (CallsIn.inRound l (callsIn_wide.2 CH.out)).mono ?_; rintro e w' ⟨rfl, rfl⟩)
        exact ⟨(KeepsOthers.alloc _ _).from _, (Below.refl _ W).alloc hs _, ⟨fun y hy => (List.mem_append.1 hy).elim (HPre.out y) (fun e => by simp at e; subst e; exact HBB.out), HP0.out.later (below1 _ _), by simp; omega⟩⟩
      · have hP1 := HP0.out.later (below1 W (.cells #[.int .i64 x1, .int .i64 x2, .int .i64 y1, .int .i64 y2] 176))
        have hX1 := HX0.out.alloc (.cells #[.int .i64 x1, .int .i64 x2, .int .i64 y1, .int .i64 y2] 176)
        have HKO := Lib.hid ((KeepsOthers.alloc W (.cells #[.int .i64 x1, .int .i64 x2, .int .i64 y1, .int .i64 y2] 176)))
        gi_wp2_with fail
        refine ⟨trivial, ?_⟩
        refine (CallsIn.inRound l (callsIn_wide.2 CH.out)).mono ?_
        rintro e w' ⟨rfl, hw'⟩
        rw [← hw'] at hP1 hX1 HKO
        have HP1 := Lib.hid hP1
        clear hw' b0 b1 b2 b3 f0
        obtain ⟨b0, b1, b2, b3, _, _, _, _⟩ := bk4 hX1
        obtain ⟨r0, r1, r2, r3, z0, z1, z2, z3⟩ := bk4 hP1.br
        obtain ⟨e0, y0⟩ := bk1 hP1.be
        have hne : ¬ Bx = w.heap.size + 2 := by have := HP2.out.be.lt; omega
        clear hP1 hX1
        gi_wp2
        refine ⟨?_, rfl, pre, x, rfl, HPre.out, HBB.out, ?_⟩
        · exact (((((HKO.out.trans (KeepsOthers.setCell _ _ _)).trans (KeepsOthers.setCell _ _ _)).trans (KeepsOthers.setCell _ _ _)).trans (KeepsOthers.setCell _ _ _)).trans (KeepsOthers.setCell _ _ _)).from _
        · rw [HPE.out]
          exact HP1.out.set _ _ _ _ 0
    case done =>
      rintro D ys W hD hys ⟨hp, hP, hs⟩ hK
      obtain ⟨r0, r1, r2, r3, z0, z1, z2, z3⟩ := bk4 hP.br
      obtain ⟨e0, y0⟩ := bk1 hP.be
      have HP0 := Lib.hid hP
      have HF : Hid (findP t ns 0 (m - 1) = none) := findP_none fun x _ h => all_idx (P := fun i => holdsT t ns i = false) hys hp x (by omega)
      clear hP hp hys
      have HK := Lib.hid hK
      clear hK
      gi_wp2
      have hPf := HP0.out.set (.int .i64 0) (.int .i64 0) (.int .i64 0) (.int .i64 0) 2
      have hK' := (((((KeepsOthers.setCell W ⟨w.heap.size + 2, 0, none⟩ (.int .i64 0)).trans (KeepsOthers.setCell _ ⟨w.heap.size + 2, 1, none⟩ (.int .i64 0))).trans (KeepsOthers.setCell _ ⟨w.heap.size + 2, 2, none⟩ (.int .i64 0))).trans (KeepsOthers.setCell _ ⟨w.heap.size + 2, 3, none⟩ (.int .i64 0))).trans (KeepsOthers.setCell _ ⟨w.heap.size + 3, 0, none⟩ (.int .i64 2))).same D _ HK.out rfl
      refine ⟨by simp, .inl ⟨_, _, rfl, run_takeDeferred hK', ?_⟩⟩
      have hPg := PInv.own w2.heap.size (by have := HP2.out.be.lt; omega) () _ _ (some D) hPf (grownBy_putObj' _ D (.deferred none)) (fun r e => by cases e; exact ⟨hD, _, hK', rfl⟩)
      clear r0 r1 r2 r3 z0 z1 z2 z3 e0 y0
      obtain ⟨r0, r1, r2, r3, _, _, _, _⟩ := bk4 hPg.br
      obtain ⟨e0, _⟩ := bk1 hPg.be
      refine ⟨.tuple #[.agg #[.int .i64 0, .int .i64 0, .int .i64 0, .int .i64 0], .int .i64 2], ?_, ?_, hPg.bel⟩
      · simp [results, Tryz.f139, go_sem, r0, r1, r2, r3, e0]
      · rw [HPV.out, HF.out]
    case stop =>
      rintro D cc pre W hD hpre ⟨rfl, q, x, rfl, hq, hx, hP⟩ hK
      obtain ⟨h1, h2, h3⟩ := pre_last (P := fun i => holdsT t ns i = false) hpre hq
      have HF : Hid (findP t ns 0 (m - 1) = some x.1) := by
        show _ = _
        rw [findP_some (j := q.length) (fun y _ hy => h3 y (by omega)) h2 (by rw [Nat.zero_add, ← h1]; exact hx), h1, Nat.zero_add]
      have HP0 := Lib.hid hP
      have HK := Lib.hid hK
      clear hP hK hq h1 h2 h3 hpre
      gi_wp2
      refine ⟨by simp, .inl ⟨_, _, rfl, run_takeDeferred HK.out, ?_⟩⟩
      have hPg := PInv.own w2.heap.size (by have := HP2.out.be.lt; omega) () _ _ (some D) HP0.out (grownBy_putObj' _ D (.deferred none)) (fun r e => by cases e; exact ⟨hD, _, HK.out, rfl⟩)
      obtain ⟨r0, r1, r2, r3, _, _, _, _⟩ := bk4 hPg.br
      obtain ⟨e0, _⟩ := bk1 hPg.be
      refine ⟨.tuple #[pieceV ns x.1, .int .i64 0], ?_, ?_, hPg.bel⟩
      · unfold pieceV
        simp [results, Tryz.f139, go_sem, r0, r1, r2, r3, e0]
      · rw [HPV.out, HF.out]

end Go.Proofs.YtjjflbnopphciacGreatDoor


namespace Go.Proofs.YtjjflbnopphciacGreatDoor
open Go.RowKit

theorem holdsT_iff {t : Int} {ns : List (Int × Int)} {i : Nat} (h : holdsT t ns i = true) : (ns.getD i (0, 0)).2 ≤ t ∧ t ≤ (ns.getD (i + 1) (0, 0)).2 := by
  unfold holdsT at h
  simpa using h
theorem findP_spec {t : Int} {ns : List (Int × Int)} : ∀ {k i j : Nat}, findP t ns i k = some j → i ≤ j ∧ j < i + k ∧ holdsT t ns j = true
  | 0, _, _, h => by cases h
  | k + 1, i, j, h => by
    unfold findP at h
    by_cases h0 : holdsT t ns i = true
    · rw [if_pos h0] at h
      cases h
      exact ⟨Nat.le_refl _, by omega, h0⟩
    · rw [if_neg h0] at h
      obtain ⟨a, b, c⟩ := findP_spec h
      exact ⟨by omega, by omega, c⟩
/-- The position at a time, as the function gives it: its ends, and the error. -/
def posR (t : Int) (ns : List (Int × Int)) : Int × Int × Int :=
  if (mapR ns).2 = 0 then (match findP t ns 0 (ns.length - 1) with
    | some i => (posLo (ns.getD i (0, 0)).1 (ns.getD i (0, 0)).2 (ns.getD (i + 1) (0, 0)).1 (ns.getD (i + 1) (0, 0)).2 t, posHi (ns.getD i (0, 0)).1 (ns.getD i (0, 0)).2 (ns.getD (i + 1) (0, 0)).1 (ns.getD (i + 1) (0, 0)).2 t, 0)
    | none => (0, 0, 2)) else (0, 0, (mapR ns).2)

/-- What a call of PositionAt gives. -/
def PosRes (t : Int) (ns : List (Int × Int)) (w : World) (e : Ending) (w' : World) : Prop :=
  e = .returned (.tuple #[.agg #[.int .i64 (posR t ns).1, .int .i64 (posR t ns).2.1], .int .i64 (posR t ns).2.2]) ∧ Below w.heap.size w w'
set_option maxRecDepth 100000 in
set_option maxHeartbeats 2000000 in
theorem PositionAt_any (A : Option Addr) (m c : Nat) (ns : List (Int × Int)) (t : Int) (w : World) (hr : RdN w A m ns) (hm : m ≤ 1000000) :
    Calls Tryz.prog 118 #[.agg #[.slice A m c], .int .i64 t] w (PosRes t ns w) := by
  have CP : Hid (∀ w', Below w.heap.size w w' → ∀ B, w'.cell? ⟨B, 0, none⟩ = some (.int .i64 t) → B < w'.heap.size → Calls Tryz.prog 139 #[.agg #[.slice A m c], .func (.func 140) #[] #[.pointer (some ⟨B, 0, none⟩)]] w' fun e w'' => e = .returned (.tuple #[(pieceRes t ns).1, .int .i64 (pieceRes t ns).2]) ∧ Below w'.heap.size w' w'') := fun w' hb B h1 h2 => pieceWith_any A m c ns t B w' (hr.below hb) hm h1 h2
  have key : (∃ ev, ¬ ev = 0 ∧ pieceRes t ns = (.agg #[.int .i64 0, .int .i64 0, .int .i64 0, .int .i64 0], ev) ∧ posR t ns = (0, 0, ev)) ∨
      (∃ x1 x2 y1 y2 : Int, pieceRes t ns = (.agg #[.int .i64 x1, .int .i64 x2, .int .i64 y1, .int .i64 y2], 0) ∧ posR t ns = (posLo x1 x2 y1 y2 t, posHi x1 x2 y1 y2 t, 0) ∧ (0 ≤ x1 ∧ x1 < y1 ∧ y1 ≤ 1000000) ∧ (0 ≤ x2 ∧ x2 < y2 ∧ y2 ≤ 1000000000000) ∧ (x2 ≤ t ∧ t ≤ y2)) := by
    unfold pieceRes posR
    by_cases hE : (mapR ns).2 = 0
    · rw [if_pos hE, if_pos hE]
      cases hf : findP t ns 0 (ns.length - 1) with
      | none => exact .inl ⟨2, by omega, rfl, rfl⟩
      | some i =>
        obtain ⟨_, h2, h3⟩ := findP_spec hf
        have h4 := holdsT_iff h3
        obtain ⟨hok, _, _⟩ := mapR_ok hE
        have h5 := hok i (by omega)
        exact .inr ⟨_, _, _, _, rfl, rfl, h5.1, h5.2, h4⟩
    · rw [if_neg hE, if_neg hE]
      exact .inl ⟨_, hE, rfl, rfl⟩
  clear hr
  rcases key with ⟨ev, h0, hp, hq⟩ | ⟨x1, x2, y1, y2, hp, hq, hx, hy, ht⟩
  · have HQ : Hid (∀ w', Below w.heap.size w w' → PosRes t ns w (.returned (.tuple #[.agg #[.int .i64 0, .int .i64 0], .int .i64 ev])) w') := fun w' hb => ⟨by rw [hq], hb⟩
    rw [hp] at CP
    have hne : (ev != 0) = true := by rw [bne_iff_ne]; exact h0
    clear hp hq h0
    go_enter Tryz.func118, Tryz.ntmps118
    go_wp2_with fail
    refine (CP.out _ (by go_grown) _ ?_ ?_).mono ?_
    · simp [go_sem]
    · simp
    rintro e w1 ⟨rfl, hb1⟩
    have KR := Lib.hid ((show Bk (((w.alloc (.cells #[.slice A m c] 24)).alloc (.cells #[.int .i64 t] 3)).alloc (.cells #[.int .i64 0, .int .i64 0] 151)) (w.heap.size + 2) 151 #[.int .i64 0, .int .i64 0] by have h := Bk.new ((w.alloc (.cells #[.slice A m c] 24)).alloc (.cells #[.int .i64 t] 3)) 151 #[.int .i64 0, .int .i64 0]; simpa using h).later hb1)
    have BW := Lib.hid ((show Below w.heap.size w (((w.alloc (.cells #[.slice A m c] 24)).alloc (.cells #[.int .i64 t] 3)).alloc (.cells #[.int .i64 0, .int .i64 0] 151)) by go_grown).trans (hb1.mono (by simp; omega)))
    clear hb1
    obtain ⟨e0, e1, k0, k1⟩ := bk2 KR.out
    have hlt := KR.out.lt
    have hn2 : ¬ w.heap.size + 2 = w1.heap.size := by omega
    go_wp2
    refine bodyPost_ret (v := .tuple #[.agg #[.int .i64 0, .int .i64 0], .int .i64 ev]) (by simp [results, Tryz.results118, go_sem, e0, e1, k0, k1, hlt, hn2]) rfl (HQ.out _ ?_)
    have := BW.out
    have := this.size
    go_grown
  · have HQ : Hid (∀ w', Below w.heap.size w w' → PosRes t ns w (.returned (.tuple #[.agg #[.int .i64 (posLo x1 x2 y1 y2 t), .int .i64 (posHi x1 x2 y1 y2 t)], .int .i64 0])) w') := fun w' hb => ⟨by rw [hq], hb⟩
    have CA := Lib.hid (fun w => positionAt_any x1 x2 y1 y2 t w hx hy ht)
    rw [hp] at CP
    clear hp hq hx hy ht
    obtain ⟨lo, hlo⟩ : ∃ lo, posLo x1 x2 y1 y2 t = lo := ⟨_, rfl⟩
    obtain ⟨hi, hhi⟩ : ∃ hi, posHi x1 x2 y1 y2 t = hi := ⟨_, rfl⟩
    rw [hlo, hhi] at CA HQ
    clear hlo hhi
    go_enter Tryz.func118, Tryz.ntmps118
    go_wp2_with fail
    refine (CP.out _ (by go_grown) _ ?_ ?_).mono ?_
    · simp [go_sem]
    · simp
    rintro e w1 ⟨rfl, hb1⟩
    have KR := Lib.hid ((show Bk (((w.alloc (.cells #[.slice A m c] 24)).alloc (.cells #[.int .i64 t] 3)).alloc (.cells #[.int .i64 0, .int .i64 0] 151)) (w.heap.size + 2) 151 #[.int .i64 0, .int .i64 0] by have h := Bk.new ((w.alloc (.cells #[.slice A m c] 24)).alloc (.cells #[.int .i64 t] 3)) 151 #[.int .i64 0, .int .i64 0]; simpa using h).later hb1)
    have KT := Lib.hid ((show Bk (((w.alloc (.cells #[.slice A m c] 24)).alloc (.cells #[.int .i64 t] 3)).alloc (.cells #[.int .i64 0, .int .i64 0] 151)) (w.heap.size + 1) 3 #[.int .i64 t] by have h := (Bk.new (w.alloc (.cells #[.slice A m c] 24)) 3 #[.int .i64 t]).alloc (.cells #[.int .i64 0, .int .i64 0] 151); simpa using h).later hb1)
    have BW := Lib.hid ((show Below w.heap.size w (((w.alloc (.cells #[.slice A m c] 24)).alloc (.cells #[.int .i64 t] 3)).alloc (.cells #[.int .i64 0, .int .i64 0] 151)) by go_grown).trans (hb1.mono (by simp; omega)))
    clear hb1
    have hlt := KR.out.lt
    obtain ⟨t0, _⟩ := bk1 KT.out
    have hn1 : ¬ w.heap.size + 1 = w1.heap.size := by omega
    have hl1 : w.heap.size + 1 < w1.heap.size := by omega
    have t1 : (w1.alloc (.cells #[.int .i64 x1, .int .i64 x2, .int .i64 y1, .int .i64 y2] 176)).cell? ⟨w.heap.size + 1, 0, none⟩ = some (.int .i64 t) := (World.cell?_alloc_lt w1 _ _ hl1).trans t0
    have hn2 : ¬ w.heap.size + 2 = w1.heap.size := by omega
    go_wp2_with fail
    refine (CA.out _).mono ?_
    rintro e w2 ⟨rfl, hb2⟩
    have KR2 := Lib.hid ((KR.out.alloc (.cells #[.int .i64 x1, .int .i64 x2, .int .i64 y1, .int .i64 y2] 176)).later hb2)
    have BW2 := Lib.hid (((BW.out.alloc (by have := BW.out.size; omega) (.cells #[.int .i64 x1, .int .i64 x2, .int .i64 y1, .int .i64 y2] 176))).trans (hb2.mono (by have := BW.out.size; simp; omega)))
    clear hb2
    obtain ⟨e0, e1, k0, k1⟩ := bk2 KR2.out
    go_wp2
    refine bodyPost_ret (v := .tuple #[.agg #[.int .i64 lo, .int .i64 hi], .int .i64 0]) (by simp [results, Tryz.results118, go_sem, e0, e1, k0, k1]) rfl (HQ.out _ ?_)
    have := BW2.out
    go_grown

end Go.Proofs.YtjjflbnopphciacGreatDoor


namespace Go.Proofs.YtjjflbnopphciacGreatDoor
open Go.RowKit

def kindE (k : Int) : Int := if k < 0 ∨ 2 ≤ k then 15 else 0
def rmE (step : Int) (ns : List (Int × Int)) : Int := firstNZ [(mapR ns).2, rngE 1 1000000000000 [step], 0]
/-- One block that is known whole, and what lay. -/
structure OneB (w : World) (g : Nat) (t : TypeId) (cs : Array Value) (W : World) : Prop where
  k : Bk W g t cs
  b : Below w.heap.size w W
theorem OneB.alloc {w W : World} {g : Nat} {t : TypeId} {cs : Array Value} (h : OneB w g t cs W) (o : Obj) : OneB w g t cs (W.alloc o) := ⟨h.k.alloc o, h.b.alloc h.b.size o⟩
theorem OneB.drew {w W : World} {g : Nat} {t : TypeId} {cs : Array Value} (h : OneB w g t cs W) : OneB w g t cs W.drew := ⟨h.k.drew, h.b.drew⟩
theorem OneB.later {w W w' : World} {g : Nat} {t : TypeId} {cs : Array Value} (hb : Below W.heap.size W w') (h : OneB w g t cs W) : OneB w g t cs w' := ⟨h.k.later hb, h.b.trans (hb.mono h.b.size)⟩
theorem OneB.start (w : World) (t : TypeId) (cs : Array Value) : OneB w w.heap.size t cs (w.alloc (.cells cs t)) := ⟨Bk.new _ _ _, below1 _ _⟩
theorem OneB.six {w W : World} {g : Nat} {t : TypeId} {a b c d e f : Value} (h : OneB w g t #[a, b, c, d, e, f] W) : W.cell? ⟨g, 0, none⟩ = some a ∧ W.cell? ⟨g, 1, none⟩ = some b ∧ W.cell? ⟨g, 2, none⟩ = some c ∧ W.cell? ⟨g, 3, none⟩ = some d ∧ W.cell? ⟨g, 4, none⟩ = some e ∧ W.cell? ⟨g, 5, none⟩ = some f := bk6 h.k
theorem OneB.one {w W : World} {g : Nat} {t : TypeId} {a : Value} (h : OneB w g t #[a] W) : W.cell? ⟨g, 0, none⟩ = some a := (bk1 h.k).1
theorem OneB.three {w W : World} {g : Nat} {t : TypeId} {x y z : Int} (h : OneB w g t #[.int .i64 x, .int .i64 y, .int .i64 z] W) : W.cell? ⟨g, 0, none⟩ = some (.int .i64 x) ∧ W.cell? ⟨g, 1, none⟩ = some (.int .i64 y) ∧ W.cell? ⟨g, 2, none⟩ = some (.int .i64 z) := bk3 h.k
theorem rul_bk {w W : World} {k d n q s : Int} {v : Value} (h : Bk W w.heap.size 26 #[.int .i64 k, .int .i64 d, .int .i64 n, .int .i64 q, .int .i64 s, v]) :
    W.cell? ⟨w.heap.size, 0, none⟩ = some (.int .i64 k) ∧ W.cell? ⟨w.heap.size, 1, none⟩ = some (.int .i64 d) ∧ W.cell? ⟨w.heap.size, 2, none⟩ = some (.int .i64 n) ∧ W.cell? ⟨w.heap.size, 3, none⟩ = some (.int .i64 q) ∧ W.cell? ⟨w.heap.size, 4, none⟩ = some (.int .i64 s) ∧ W.cell? ⟨w.heap.size, 5, none⟩ = some v := bk6 h

set_option maxRecDepth 100000 in
set_option maxHeartbeats 2000000 in
theorem rcheckMap_any (k d s : Int) (A : Option Addr) (m c : Nat) (ns : List (Int × Int)) (w : World) (hr : RdN w A m ns) (hm : m ≤ 1000000) :
    Calls Tryz.prog 67 #[.agg #[.int .i64 k, .int .i64 d, .int .i64 0, .int .i64 0, .int .i64 s, .slice A m c]] w fun e w' => e = .returned (.int .i64 (rmE s ns)) ∧ Below w.heap.size w w' := by
  have CM : Hid (∀ w', Below w.heap.size w w' → Calls Tryz.prog 92 #[.agg #[.slice A m c]] w' fun e w'' => e = .returned (.tuple #[.int .i64 (mapR ns).1, .int .i64 (mapR ns).2]) ∧ Below w'.heap.size w' w'') := fun w' hb => CheckMap_any A m c ns w' (hr.below hb) hm
  have HE : Hid (rmE s ns = firstNZ [(mapR ns).2, rngE 1 1000000000000 [s], 0]) := rfl
  obtain ⟨⟨i, E⟩, hE⟩ : ∃ p, mapR ns = p := ⟨_, rfl⟩
  rw [hE] at CM HE
  dsimp only at CM HE
  clear hE hr
  have C3 := Lib.hid (fun x y w h1 h2 => from1_any s 1 1000000000000 x y w h1 h2)
  obtain ⟨E2, hE2⟩ : ∃ E, rngE 1 1000000000000 [s] = E := ⟨_, rfl⟩
  rw [hE2] at HE C3
  obtain ⟨F, hF⟩ : ∃ F, firstNZ [E, E2, 0] = F := ⟨_, rfl⟩
  rw [hF] at HE
  have HF := Lib.hid hF
  clear hF hE2
  go_enter Tryz.func67, Tryz.ntmps67
  go_wp2_with fail
  refine (CM.out _ (below1 _ _)).mono ?_
  rintro e w1 ⟨rfl, hb1⟩
  have hI := OneB.later hb1 (OneB.start w 26 #[.int .i64 k, .int .i64 d, .int .i64 0, .int .i64 0, .int .i64 s, .slice A m c])
  clear hb1
  obtain ⟨c0, c1, c2, c3, c4, c5⟩ := hI.six
  go_wp2
  go_region_held3 (fun w' : World => (w'.cell? ⟨w.heap.size, 0, none⟩ = some (.int .i64 k) ∧ w'.cell? ⟨w.heap.size, 1, none⟩ = some (.int .i64 d) ∧ w'.cell? ⟨w.heap.size, 2, none⟩ = some (.int .i64 0) ∧ w'.cell? ⟨w.heap.size, 3, none⟩ = some (.int .i64 0) ∧ w'.cell? ⟨w.heap.size, 4, none⟩ = some (.int .i64 s) ∧ w'.cell? ⟨w.heap.size, 5, none⟩ = some (.slice A m c)) ∧ OneB w w.heap.size 26 #[(.int .i64 k), (.int .i64 d), (.int .i64 0), (.int .i64 0), (.int .i64 s), (.slice A m c)] w') ((refine (fun hI => ⟨OneB.six hI, hI⟩) ?_; repeat (first | assumption | refine OneB.drew ?_ | refine OneB.alloc ?_ _))) (first
    | (go_at_call 49; refine (from_any _ _ _).mono ?_; rintro e w' ⟨rfl, rfl⟩)
    | (go_at_call 81; refine (C3.out _ _ _ ?_ ?_).mono ?_; (focus (simp [go_sem])); (focus (simp [go_sem])); rintro e w' ⟨rfl, rfl⟩)
    | (go_at_call 65; refine (when_any _ _ _).mono ?_; rintro e w' ⟨rfl, rfl⟩)
    | (go_at_call 33; refine (firstError3 HF.out _ _ ?_ ?_ ?_).mono ?_; (focus (simp [go_sem])); (focus (simp [go_sem])); (focus (simp [go_sem])); rintro e w' ⟨rfl, rfl⟩))
  all_goals
    go_wp2
    go_ret
    refine ⟨retI HE.out.symm, ?_⟩
    have := hI.b
    have := this.size
    go_grown

def ratE (n q : Int) : Int := firstNZ [rngE 1 1000 [n, q], 0]
set_option maxRecDepth 100000 in
set_option maxHeartbeats 2000000 in
theorem rcheckRatio_any (k d n q : Int) (A : Option Addr) (c : Nat) (w : World) :
    Calls Tryz.prog 66 #[.agg #[.int .i64 k, .int .i64 d, .int .i64 n, .int .i64 q, .int .i64 0, .slice A 0 c]] w fun e w' => e = .returned (.int .i64 (ratE n q)) ∧ Below w.heap.size w w' := by
  have HE : Hid (ratE n q = firstNZ [rngE 1 1000 [n, q], 0]) := rfl
  obtain ⟨F, hF⟩ : ∃ F, firstNZ [rngE 1 1000 [n, q], 0] = F := ⟨_, rfl⟩
  rw [hF] at HE
  have HF := Lib.hid hF
  clear hF
  go_enter Tryz.func66, Tryz.ntmps66
  go_wp2
  have hI := OneB.start w 26 #[.int .i64 k, .int .i64 d, .int .i64 n, .int .i64 q, .int .i64 0, .slice A 0 c]
  go_region_held3 (fun w' : World => (w'.cell? ⟨w.heap.size, 0, none⟩ = some (.int .i64 k) ∧ w'.cell? ⟨w.heap.size, 1, none⟩ = some (.int .i64 d) ∧ w'.cell? ⟨w.heap.size, 2, none⟩ = some (.int .i64 n) ∧ w'.cell? ⟨w.heap.size, 3, none⟩ = some (.int .i64 q) ∧ w'.cell? ⟨w.heap.size, 4, none⟩ = some (.int .i64 0) ∧ w'.cell? ⟨w.heap.size, 5, none⟩ = some (.slice A 0 c)) ∧ OneB w w.heap.size 26 #[(.int .i64 k), (.int .i64 d), (.int .i64 n), (.int .i64 q), (.int .i64 0), (.slice A 0 c)] w') ((refine (fun hI => ⟨OneB.six hI, hI⟩) ?_; repeat (first | assumption | refine OneB.drew ?_ | refine OneB.alloc ?_ _))) (first
    | (go_at_call 49; refine (from_any _ _ _).mono ?_; rintro e w' ⟨rfl, rfl⟩)
    | (go_at_call 71; refine (checkEach_any _ 2 2 [n, q] 1 1000 _ _ _ (lit2 _ _ _ _ ?_ ?_) (by omega) ?_ ?_).mono ?_; (focus (simp [go_sem])); (focus (simp [go_sem])); (focus (simp [go_sem])); (focus (simp [go_sem])); rintro e w' ⟨rfl, rfl⟩)
    | (go_at_call 65; refine (when_any _ _ _).mono ?_; rintro e w' ⟨rfl, rfl⟩)
    | (go_at_call 33; refine (firstError2 HF.out _ _ ?_ ?_).mono ?_; (focus (simp [go_sem])); (focus (simp [go_sem])); rintro e w' ⟨rfl, rfl⟩))
  all_goals
    go_wp2
    go_ret
    refine ⟨retI HE.out.symm, ?_⟩
    have := hI.b
    have := this.size
    go_grown

/-- The error of rules of the two kinds. -/
def rulE0 (d n q : Int) : Int := if degE d = 0 then ratE n q else degE d
def rulE1 (d s : Int) (ns : List (Int × Int)) : Int := if degE d = 0 then rmE s ns else degE d

theorem itpOf_ex (d : Int) : ∃ v0 v1 v2 v3 v4 v5 : Value, (v0.oneCell' = true ∧ v1.oneCell' = true ∧ v2.oneCell' = true ∧ v3.oneCell' = true ∧ v4.oneCell' = true ∧ v5.oneCell' = true) ∧ ∀ w, Calls Tryz.prog 47 #[.int .i64 d] w fun e w' => e = .returned (.tuple #[.agg #[v0, v1, v2, v3, v4, v5], .int .i64 (degE d)]) ∧ Below w.heap.size w w' := by
  by_cases h1 : d = 1
  · subst h1; exact ⟨_, _, _, _, _, _, ⟨rfl, rfl, rfl, rfl, rfl, rfl⟩, fun w => by rw [degE_of1]; exact itpOf_1 w⟩
  · by_cases h3 : d = 3
    · subst h3; exact ⟨_, _, _, _, _, _, ⟨rfl, rfl, rfl, rfl, rfl, rfl⟩, fun w => by rw [degE_of3]; exact itpOf_3 w⟩
    · exact ⟨_, _, _, _, _, _, ⟨rfl, rfl, rfl, rfl, rfl, rfl⟩, fun w => by rw [degE_no h1 h3]; exact itpOf_no d w h1 h3⟩

end Go.Proofs.YtjjflbnopphciacGreatDoor

