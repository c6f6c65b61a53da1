import Derived.Test.YtnmfeonagigkeaaS1
namespace Go.Proofs.Ytnmfeonagigkeaa
open Go.RowKit

def widP (p : Int × Int) : Int := p.2 - p.1
def widL (ws : List (Int × Int)) : List Int := if wallsE ws = 0 then ws.map widP else []
theorem matField (a b : Int) (W : World) : (Instr.field 34 (.agg #[.int .i64 a, .int .i64 b]) 1).run Try.prog W = .ok (.int .i64 b) W := by kernel_rfl
set_option maxRecDepth 100000 in
theorem widths1_any (l r : Int) (w : World) (h : -100000000 ≤ l ∧ l ≤ 100000000) (h' : -100000000 ≤ r ∧ r ≤ 100000000) :
    Calls Try.prog 20 #[.agg #[.int .i64 l, .int .i64 r]] w fun e w' => e = .returned (.int .i64 (r - l)) ∧ Below w.heap.size w w' := by
  have b0 := (Below.refl w.heap.size w).alloc (Nat.le_refl _) (.cells #[.int .i64 l, .int .i64 r] 36)
  have C := Lib.hid (matrixOf_any l r (w.alloc (.cells #[.int .i64 l, .int .i64 r] 36)) h h')
  have B0 := Lib.hid b0
  clear b0
  go_enter Try.func20, Try.ntmps20
  go_wp2_with fail
  refine C.out.mono ?_
  rintro e w2 ⟨rfl, hb⟩
  have HB := Lib.hid (B0.out.trans (hb.mono B0.out.size))
  clear hb C
  have hmf := matField (l + r) (r - l)
  go_wp2
  go_ret
  exact ⟨rfl, HB.out⟩

set_option maxRecDepth 100000 in
set_option maxHeartbeats 2000000 in
theorem converted_wid (g n c : Nat) (ws : List (Int × Int)) (w : World) (hr : RdR w g n ws) (hn : n ≤ 1000000) :
    Calls Try.prog 19 #[.slice (some ⟨g, 0, none⟩) n c, .func (.func 17) #[] #[], .func (.func 20) #[] #[]] w (OwnRes w (wallsE ws) (widL ws)) := by
  have HR := Lib.hid hr
  have hln := hr.1
  have HE : Hid (wallsE ws = if 200 < n then 8 else wallsF ws) := by show _ = _; unfold wallsE; rw [hln]
  have HLN := Lib.hid hln
  clear hr hln
  obtain ⟨i0, hi0, hz0, hz1, hz2⟩ := info_parts intInfo'
  by_cases h1 : 200 < n
  · have h1I : (200 : Int) < (n : Int) := by omega
    have HL : Hid (widL ws = []) := by show _ = _; unfold widL; rw [if_neg (by rw [HE.out, if_pos h1]; decide)]
    have HE2 : Hid (wallsE ws = 8) := by show _ = _; rw [HE.out, if_pos h1]
    rw [HE2.out, HL.out]
    go_enter Try.func19, Try.ntmps19
    go_wp2
    go_ret2
    exact OwnRes.none_ (Below.refl _ _)
  · have h1I : ¬ (200 : Int) < (n : Int) := by omega
    have HE2 : Hid (wallsE ws = wallsF ws) := by show _ = _; rw [HE.out, if_neg h1]
    go_enter Try.func19, Try.ntmps19
    go_wp2
    go_loopw [8, 17] (fun v i wr => ∃ k : Nat, k ≤ n ∧ i = .int .i64 k ∧ Hid (wallsF ws = wallsF (ws.drop k)) ∧ Hid (wr.ownsRow w.heap.size 3 1 v k (((ws.take k).map widP).map (Value.int .i64)) ∧ Below w.heap.size w wr)) (fun _ i _ => n - (intOf i).toNat)
    case atStart => exact ⟨0, Nat.zero_le _, rfl, rfl, World.ownsRow_nil _ _ _ _, Below.refl _ _⟩
    case round =>
      obtain ⟨k, hk, rfl, HF, HI⟩ := hrel
      by_cases hlt : k < n
      · have hkI : (k : Int) < (n : Int) := by omega
        obtain ⟨q1, q2⟩ := (HR.out.below HI.out.2).2.2 k hlt
        have hstep := wallsF_step ws k (by rw [HLN.out]; exact hlt)
        have htk : ws.take (k + 1) = ws.take k ++ [ws.getD k (0, 0)] := by
          rw [List.take_succ_eq_append_getElem (by rw [HLN.out]; exact hlt)]
          simp [List.getD_eq_getElem?_getD, List.getElem?_eq_getElem (show k < ws.length by rw [HLN.out]; exact hlt)]
        obtain ⟨⟨l, r⟩, hxy⟩ : ∃ p, ws.getD k (0, 0) = p := ⟨_, rfl⟩
        rw [hxy] at q1 q2 hstep htk
        dsimp only at q1 q2
        have HST := Lib.hid hstep
        have HTK := Lib.hid htk
        clear hstep htk hxy
        have CW := Lib.hid (checkWalls_any l r (wr.alloc (.cells #[.int .i64 l, .int .i64 r] 36)))
        have b1 := Bk.new wr 36 #[.int .i64 l, .int .i64 r]
        have HB1 := Lib.hid b1
        clear b1
        by_cases hw0 : wallE (l, r) = 0
        · have hok := wallE_ok hw0
          dsimp only at hok
          rw [hw0] at CW
          have HF2 : Hid (wallsF ws = wallsF (ws.drop (k + 1))) := by show _ = _; rw [HF.out, HST.out, if_pos hw0]
          clear hw0
          go_wp2_with fail
          refine CW.out.mono ?_
          rintro e w2 ⟨rfl, hb2⟩
          have HB2 := Lib.hid (HB1.out.below hb2 (by simp))
          have HO2 := Lib.hid (ownLater (HI.out.1.alloc (.cells #[.int .i64 l, .int .i64 r] 36)) hb2)
          have HBW2 := Lib.hid ((HI.out.2.alloc HI.out.2.size (.cells #[.int .i64 l, .int .i64 r] 36)).trans (hb2.mono (by have := HI.out.2.size; simp; omega)))
          have d0 : w2.cell? ⟨wr.heap.size, 0, none⟩ = some (.int .i64 l) := by rw [HB2.out.cell]; rfl
          have d1 : w2.cell? ⟨wr.heap.size, 1, none⟩ = some (.int .i64 r) := by rw [HB2.out.cell]; rfl
          have CM := Lib.hid (widths1_any l r w2 (by omega) (by omega))
          clear hb2 CW
          go_wp2_with fail
          refine CM.out.mono ?_
          rintro e w3 ⟨rfl, hb3⟩
          have HO3 := Lib.hid (ownLater HO2.out hb3)
          have HBW3 := Lib.hid (HBW2.out.trans (hb3.mono HBW2.out.size))
          clear hb3 CM d0 d1
          go_wp2_with (at_builtin; refine wpList_append_own _ rfl (.tmp 27) (.tmp 31) 30 rfl w.heap.size 3 i0 _ 1 8 Try.underlying30 hi0 hz0 hz1 hz2 rfl (by decide) _ _ _ rfl (HO3.out.alloc _) ⟨w3.heap.size, 0, none⟩ 1 1 [.int .i64 (r - l)] rfl rfl (cell_one_new _ _ _) (by simp [Value.oneCell']) (by unfold maxLen; omega) (by omega) (by have := HBW3.out.size; simp; omega) ?_)
          intro v' w4 hown' hgrow _
          have HN : Hid (w4.ownsRow w.heap.size 3 1 v' (k + 1) (((ws.take (k + 1)).map widP).map (Value.int .i64)) ∧ Below w.heap.size w w4) := by
            refine ⟨?_, (HBW3.out.alloc HBW3.out.size _).grown hgrow (by have := HBW3.out.size; simp; omega) (fun z e => (HO3.out.lt z e).1)⟩
            rw [HTK.out, List.map_append, List.map_cons, List.map_nil, List.map_append, List.map_cons, List.map_nil]
            simpa [widP, Function.comp_def, List.map_take, List.map_map] using hown'
          clear hown' hgrow
          go_wp2
          go_roundw
          case rel => exact ⟨k + 1, by omega, by go_num, HF2.out, HN.out⟩
          case measure => simp [intOf]; omega
        · obtain ⟨E, hEe⟩ : ∃ E, wallE (l, r) = E := ⟨_, rfl⟩
          have HFE : Hid (wallsE ws = E) := by show _ = _; rw [HE2.out, HF.out, HST.out, if_neg hw0, hEe]
          rw [hEe] at CW hw0
          have hne : (E != 0) = true := by simpa using hw0
          have HL : Hid (widL ws = []) := by show _ = _; unfold widL; rw [if_neg (by rw [HFE.out]; exact hw0)]
          clear hEe hw0 HST
          go_wp2_with fail
          refine CW.out.mono ?_
          rintro e w2 ⟨rfl, hb2⟩
          have HBW2 := Lib.hid ((HI.out.2.alloc HI.out.2.size (.cells #[.int .i64 l, .int .i64 r] 36)).trans (hb2.mono (by have := HI.out.2.size; simp; omega)))
          clear hb2 CW
          go_wp2
          go_ret2
          rw [HFE.out, HL.out]
          exact OwnRes.none_ HBW2.out
      · obtain rfl : k = n := by omega
        have HF2 : Hid (wallsE ws = 0) := by show _ = _; rw [HE2.out, HF.out, List.drop_eq_nil_of_le (by rw [HLN.out]; exact Nat.le_refl _)]; rfl
        have HL : Hid (widL ws = ws.map widP) := by show _ = _; unfold widL; rw [if_pos HF2.out]
        have HT : Hid (ws.take k = ws) := by show _ = _; rw [List.take_of_length_le (by rw [HLN.out]; exact Nat.le_refl _)]
        go_wp2
        go_ret2
        rw [HF2.out, HL.out]
        refine ⟨⟨_, rfl, ?_⟩, HI.out.2⟩
        have h := HI.out.1
        rw [HT.out] at h
        rw [List.length_map, HLN.out]
        exact h

theorem WidthsOf_any (g n c : Nat) (ws : List (Int × Int)) (w : World) (hr : RdR w g n ws) (hn : n ≤ 1000000) :
    Calls Try.prog 8 #[.slice (some ⟨g, 0, none⟩) n c] w (OwnRes w (wallsE ws) (widL ws)) := by
  have C := Lib.hid (converted_wid g n c ws w hr hn)
  clear hr
  go_enter Try.func8, Try.ntmps8
  go_wp2_with fail
  refine C.out.mono ?_
  rintro e w1 ⟨⟨v, rfl, ho⟩, hb⟩
  have HO := Lib.hid ho
  have HB := Lib.hid hb
  clear ho hb C
  go_wp2
  go_ret2
  exact ⟨⟨_, rfl, HO.out⟩, HB.out⟩

end Go.Proofs.Ytnmfeonagigkeaa
