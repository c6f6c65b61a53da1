import Derived.Test.YtnmfeonagigkeaaS3
namespace Go.Proofs.Ytnmfeonagigkeaa
open Go.RowKit

def matsF : List (Int × Int) → Int
  | [] => 0
  | p :: ps => if matE p = 0 then matsF ps else matE p
def matsE (ws : List (Int × Int)) : Int := if 200 < ws.length then 8 else matsF ws
def wlsL (ws : List (Int × Int)) : List (Int × Int) := if matsE ws = 0 then ws.map wlsP else []
theorem matsF_step (ws : List (Int × Int)) (k : Nat) (h : k < ws.length) : matsF (ws.drop k) = if matE (ws.getD k (0, 0)) = 0 then matsF (ws.drop (k + 1)) else matE (ws.getD k (0, 0)) := by
  rw [List.drop_eq_getElem_cons h]
  simp only [matsF, List.getD_eq_getElem?_getD, List.getElem?_eq_getElem h, Option.getD_some]
theorem matE_ok {p : Int × Int} (h : matE p = 0) : -2000000 ≤ p.1 ∧ p.1 ≤ 2000000 ∧ -2000000 ≤ p.2 ∧ p.2 ≤ 2000000 ∧ (p.1 - p.2).tdiv 2 = (p.1 - p.2) / 2 ∧ (p.1 + p.2).tdiv 2 = (p.1 + p.2) / 2 := by
  unfold matE at h
  by_cases h1 : fromB (-2000000) 2000000 [p.1, p.2] = true
  · rw [if_pos h1] at h
    by_cases h2 : p.1 % 2 = p.2 % 2
    · have h3 := from_pair h1
      obtain ⟨m1, e1, e2⟩ := half (x := p.1 - p.2) rfl
      obtain ⟨m2, e3, e4⟩ := half (x := p.1 + p.2) rfl
      omega
    · rw [if_neg h2] at h; omega
  · rw [if_neg h1] at h; omega
def OwnResW (w : World) (E : Int) (ps : List (Int × Int)) (e : Ending) (w' : World) : Prop :=
  (∃ v, e = .returned (.tuple #[v, .int .i64 E]) ∧ w'.ownsRow w.heap.size 36 2 v ps.length (pairCells ps)) ∧ Below w.heap.size w w'
theorem OwnResW.none_ {w w' : World} {E : Int} (h : Below w.heap.size w w') : OwnResW w E [] (.returned (.tuple #[.slice none 0 0, .int .i64 E])) w' := ⟨⟨_, rfl, World.ownsRow_nil _ _ _ _⟩, h⟩

set_option maxRecDepth 100000 in
set_option maxHeartbeats 2000000 in
theorem converted_wls (g n c : Nat) (ws : List (Int × Int)) (w : World) (hr : RdR w g n ws) (hn : n ≤ 1000000) :
    Calls Try.prog 24 #[.slice (some ⟨g, 0, none⟩) n c, .func (.func 25) #[] #[], .func (.func 26) #[] #[]] w (OwnResW w (matsE ws) (wlsL ws)) := by
  have HR := Lib.hid hr
  have hln := hr.1
  have HE : Hid (matsE ws = if 200 < n then 8 else matsF ws) := by show _ = _; unfold matsE; rw [hln]
  have HLN := Lib.hid hln
  clear hr hln
  obtain ⟨i0, hi0, hz0, hz1, hz2⟩ := info_parts wlsInfo
  by_cases h1 : 200 < n
  · have h1I : (200 : Int) < (n : Int) := by omega
    have HL : Hid (wlsL ws = []) := by show _ = _; unfold wlsL; rw [if_neg (by rw [HE.out, if_pos h1]; decide)]
    have HE2 : Hid (matsE ws = 8) := by show _ = _; rw [HE.out, if_pos h1]
    rw [HE2.out, HL.out]
    go_enter Try.func24, Try.ntmps24
    go_wp2
    go_ret2
    exact OwnResW.none_ (Below.refl _ _)
  · have h1I : ¬ (200 : Int) < (n : Int) := by omega
    have HE2 : Hid (matsE ws = matsF ws) := by show _ = _; rw [HE.out, if_neg h1]
    go_enter Try.func24, Try.ntmps24
    go_wp2
    go_loopw [8, 17] (fun v i wr => ∃ k : Nat, k ≤ n ∧ i = .int .i64 k ∧ Hid (matsF ws = matsF (ws.drop k)) ∧ Hid (wr.ownsRow w.heap.size 36 2 v k (pairCells ((ws.take k).map wlsP)) ∧ Below w.heap.size w wr)) (fun _ i _ => n - (intOf i).toNat)
    case atStart => exact ⟨0, Nat.zero_le _, rfl, rfl, World.ownsRow_nil _ _ _ _, Below.refl _ _⟩
    case round =>
      obtain ⟨k, hk, rfl, HF, HI⟩ := hrel
      by_cases hlt : k < n
      · have hkI : (k : Int) < (n : Int) := by omega
        obtain ⟨q1, q2⟩ := (HR.out.below HI.out.2).2.2 k hlt
        have hstep := matsF_step ws k (by rw [HLN.out]; exact hlt)
        have htk : ws.take (k + 1) = ws.take k ++ [ws.getD k (0, 0)] := by
          rw [List.take_succ_eq_append_getElem (by rw [HLN.out]; exact hlt)]
          simp [List.getD_eq_getElem?_getD, List.getElem?_eq_getElem (show k < ws.length by rw [HLN.out]; exact hlt)]
        obtain ⟨⟨l, r⟩, hxy⟩ : ∃ p, ws.getD k (0, 0) = p := ⟨_, rfl⟩
        rw [hxy] at q1 q2 hstep htk
        dsimp only at q1 q2
        have HST := Lib.hid hstep
        have HTK := Lib.hid htk
        clear hstep htk hxy
        have CW := Lib.hid (checkMatrix_any l r (wr.alloc (.cells #[.int .i64 l, .int .i64 r] 34)))
        have b1 := Bk.new wr 34 #[.int .i64 l, .int .i64 r]
        have HB1 := Lib.hid b1
        clear b1
        by_cases hw0 : matE (l, r) = 0
        · have hok := matE_ok hw0
          dsimp only at hok
          rw [hw0] at CW
          have HF2 : Hid (matsF ws = matsF (ws.drop (k + 1))) := by show _ = _; rw [HF.out, HST.out, if_pos hw0]
          clear hw0
          go_wp2_with fail
          refine CW.out.mono ?_
          rintro e w2 ⟨rfl, hb2⟩
          have HB2 := Lib.hid (HB1.out.below hb2 (by simp))
          have HO2 := Lib.hid (ownLater (HI.out.1.alloc (.cells #[.int .i64 l, .int .i64 r] 34)) hb2)
          have HBW2 := Lib.hid ((HI.out.2.alloc HI.out.2.size (.cells #[.int .i64 l, .int .i64 r] 34)).trans (hb2.mono (by have := HI.out.2.size; simp; omega)))
          have d0 : w2.cell? ⟨wr.heap.size, 0, none⟩ = some (.int .i64 l) := by rw [HB2.out.cell]; rfl
          have d1 : w2.cell? ⟨wr.heap.size, 1, none⟩ = some (.int .i64 r) := by rw [HB2.out.cell]; rfl
          have CM := Lib.hid (wallsOf_run l r (l - r) (l + r) ((l - r) / 2) ((l + r) / 2) w2 (IntWalk.i64_in _ (by omega)) (IntWalk.i64_in _ (by omega)) (by rw [hok.2.2.2.2.1]; exact IntWalk.i64_in _ (by omega)) (by rw [hok.2.2.2.2.2]; exact IntWalk.i64_in _ (by omega)))
          clear hb2 CW
          go_wp2_with fail
          refine CM.out.mono ?_
          rintro e w3 ⟨rfl, hb3⟩
          have HO3 := Lib.hid (ownLater HO2.out hb3)
          have HBW3 := Lib.hid (HBW2.out.trans (hb3.mono HBW2.out.size))
          clear hb3 CM d0 d1
          go_wp2_with (at_builtin; refine wpList_append_own _ rfl (.tmp 27) (.tmp 31) 22 rfl w.heap.size 36 i0 _ 2 16 Try.underlying22 hi0 hz0 hz1 hz2 rfl (by decide) _ _ _ rfl (HO3.out.alloc _) ⟨w3.heap.size, 0, none⟩ 1 1 [.int .i64 ((l - r) / 2), .int .i64 ((l + r) / 2)] rfl rfl (two_new _ _ _ _) (by simp [Value.oneCell']) (by unfold maxLen; omega) (by omega) (by have := HBW3.out.size; simp; omega) ?_)
          intro v' w4 hown' hgrow _
          have HN : Hid (w4.ownsRow w.heap.size 36 2 v' (k + 1) (pairCells ((ws.take (k + 1)).map wlsP)) ∧ Below w.heap.size w w4) := by
            refine ⟨?_, (HBW3.out.alloc HBW3.out.size _).grown hgrow (by have := HBW3.out.size; simp; omega) (fun z e => (HO3.out.lt z e).1)⟩
            rw [HTK.out, List.map_append, List.map_cons, List.map_nil, pairCells_snoc, List.map_take]
            exact hown'
          clear hown' hgrow
          go_wp2
          go_roundw
          case rel => exact ⟨k + 1, by omega, by go_num, HF2.out, HN.out⟩
          case measure => simp [intOf]; omega
        · obtain ⟨E, hEe⟩ : ∃ E, matE (l, r) = E := ⟨_, rfl⟩
          have HFE : Hid (matsE ws = E) := by show _ = _; rw [HE2.out, HF.out, HST.out, if_neg hw0, hEe]
          rw [hEe] at CW hw0
          have hne : (E != 0) = true := by simpa using hw0
          have HL : Hid (wlsL ws = []) := by show _ = _; unfold wlsL; rw [if_neg (by rw [HFE.out]; exact hw0)]
          clear hEe hw0 HST
          go_wp2_with fail
          refine CW.out.mono ?_
          rintro e w2 ⟨rfl, hb2⟩
          have HBW2 := Lib.hid ((HI.out.2.alloc HI.out.2.size (.cells #[.int .i64 l, .int .i64 r] 34)).trans (hb2.mono (by have := HI.out.2.size; simp; omega)))
          clear hb2 CW
          go_wp2
          go_ret2
          rw [HFE.out, HL.out]
          exact OwnResW.none_ HBW2.out
      · obtain rfl : k = n := by omega
        have HF2 : Hid (matsE ws = 0) := by show _ = _; rw [HE2.out, HF.out, List.drop_eq_nil_of_le (by rw [HLN.out]; exact Nat.le_refl _)]; rfl
        have HL : Hid (wlsL ws = ws.map wlsP) := by show _ = _; unfold wlsL; rw [if_pos HF2.out]
        have HT : Hid (ws.take k = ws) := by show _ = _; rw [List.take_of_length_le (by rw [HLN.out]; exact Nat.le_refl _)]
        go_wp2
        go_ret2
        rw [HF2.out, HL.out]
        refine ⟨⟨_, rfl, ?_⟩, HI.out.2⟩
        have h := HI.out.1
        rw [HT.out] at h
        rw [List.length_map, HLN.out]
        exact h

theorem WallsOf_any (g n c : Nat) (ws : List (Int × Int)) (w : World) (hr : RdR w g n ws) (hn : n ≤ 1000000) :
    Calls Try.prog 12 #[.slice (some ⟨g, 0, none⟩) n c] w (OwnResW w (matsE ws) (wlsL ws)) := by
  have C := Lib.hid (converted_wls g n c ws w hr hn)
  clear hr
  go_enter Try.func12, Try.ntmps12
  go_wp2_with fail
  refine C.out.mono ?_
  rintro e w1 ⟨⟨v, rfl, ho⟩, hb⟩
  have HO := Lib.hid ho
  have HB := Lib.hid hb
  clear ho hb C
  go_wp2
  go_ret2
  exact ⟨⟨_, rfl, HO.out⟩, HB.out⟩

end Go.Proofs.Ytnmfeonagigkeaa
