import Derived.Test.YtjjflbnopphciaaGreatDoorB6
namespace Go.Proofs.YtjjflbnopphciaaGreatDoor
open Go.RowKit

theorem ownLater {w w' : World} {base : Nat} {e : TypeId} {size : Nat} {v : Value} {n : Nat} {xs : List Value} (h : w.ownsRow base e size v n xs) (hb : Below w.heap.size w w') : w'.ownsRow base e size v n xs := by
  refine ⟨h.1, ?_⟩
  rcases h.2 with h0 | ⟨g, cap, cur, h1, h2, h3, h4⟩
  · exact .inl h0
  · exact .inr ⟨g, cap, cur, h1, h2, (hb.block g (Array.getElem?_eq_some_iff.1 h3).1).trans h3, h4⟩

def wallE (p : Int × Int) : Int := if fromB (-1000000) 1000000 [p.1, p.2] = true then (if p.2 < p.1 then 9 else 0) else 2
def wallsF : List (Int × Int) → Int
  | [] => 0
  | p :: ps => if wallE p = 0 then wallsF ps else wallE p
def wallsE (ws : List (Int × Int)) : Int := if 200 < ws.length then 8 else wallsF ws
def matP (p : Int × Int) : Int × Int := (p.1 + p.2, p.2 - p.1)
def pairCells (ps : List (Int × Int)) : List Value := ps.flatMap fun p => [.int .i64 p.1, .int .i64 p.2]
theorem pairCells_snoc (ps : List (Int × Int)) (p : Int × Int) : pairCells (ps ++ [p]) = pairCells ps ++ [.int .i64 p.1, .int .i64 p.2] := by simp [pairCells]
theorem wallsF_step (ws : List (Int × Int)) (k : Nat) (h : k < ws.length) : wallsF (ws.drop k) = if wallE (ws.getD k (0, 0)) = 0 then wallsF (ws.drop (k + 1)) else wallE (ws.getD k (0, 0)) := by
  rw [List.drop_eq_getElem_cons h]
  simp only [wallsF, List.getD_eq_getElem?_getD, List.getElem?_eq_getElem h, Option.getD_some]
theorem wallE_ok {p : Int × Int} (h : wallE p = 0) : -1000000 ≤ p.1 ∧ p.1 ≤ p.2 ∧ p.2 ≤ 1000000 := by
  unfold wallE at h
  by_cases h1 : fromB (-1000000) 1000000 [p.1, p.2] = true
  · rw [if_pos h1] at h
    by_cases h2 : p.2 < p.1
    · rw [if_pos h2] at h; omega
    · simp [fromB] at h1; omega
  · rw [if_neg h1] at h; omega

theorem checkWalls_any (l r : Int) (w : World) :
    Calls Tryz.prog 63 #[.agg #[.int .i64 l, .int .i64 r]] w fun e w' => e = .returned (.int .i64 (wallE (l, r))) ∧ Below w.heap.size w w' := by
  have C := Lib.hid (areAtMost_any (some ⟨(w.alloc (.cells #[.int .i64 l, .int .i64 r] 83)).heap.size, 0, none⟩) 2 2 [l, r] 1000000 ((w.alloc (.cells #[.int .i64 l, .int .i64 r] 83)).alloc (.cells #[.int .i64 l, .int .i64 r] 3)) (lit2 _ _ _ _ (by simp [go_sem]) (by simp [go_sem])) (by omega) (by omega))
  rw [World.size_alloc] at C
  have HB : Hid (Below w.heap.size w ((w.alloc (.cells #[.int .i64 l, .int .i64 r] 83)).alloc (.cells #[.int .i64 l, .int .i64 r] 3))) := ((Below.refl _ w).alloc (Nat.le_refl _) _).alloc (by simp) _
  have HE : Hid (wallE (l, r) = if fromB (-1000000) 1000000 [l, r] = true then (if r < l then 9 else 0) else 2) := rfl
  obtain ⟨t, ht⟩ : ∃ t, fromB (-1000000) 1000000 [l, r] = t := ⟨_, rfl⟩
  have HE2 : Hid (wallE (l, r) = if t = true then (if r < l then 9 else 0) else 2) := by show _ = _; rw [HE.out, ht]
  rw [ht] at C
  clear ht HE
  cases t
  · go_enter Tryz.func63, Tryz.ntmps63
    go_wp2_with (go_at_call 60; refine C.out.mono ?_; rintro e w' ⟨rfl, rfl⟩)
    go_ret
    exact ⟨by rw [HE2.out]; rfl, HB.out⟩
  · by_cases hrl : r < l
    all_goals
      go_enter Tryz.func63, Tryz.ntmps63
      go_wp2_with (go_at_call 60; refine C.out.mono ?_; rintro e w' ⟨rfl, rfl⟩)
      go_ret
      exact ⟨by rw [HE2.out]; simp [hrl], HB.out⟩

theorem matrixOf_any (l r : Int) (w : World) (h : -100000000 ≤ l ∧ l ≤ 100000000) (h' : -100000000 ≤ r ∧ r ≤ 100000000) :
    Calls Tryz.prog 64 #[.agg #[.int .i64 l, .int .i64 r]] w fun e w' => e = .returned (.agg #[.int .i64 (l + r), .int .i64 (r - l)]) ∧ Below w.heap.size w w' := by
  go_enter Tryz.func64, Tryz.ntmps64
  go_wp2
  refine bodyPost_ret (v := .agg #[.int .i64 (l + r), .int .i64 (r - l)]) (by simp [results, Tryz.results64, go_sem]) rfl ⟨rfl, ?_⟩
  exact ((Below.refl _ w).alloc (Nat.le_refl _) _).alloc (by simp) _

theorem matInfo : (Tryz.prog.info? 86).map (fun i => (i.zero, i.size, i.bytes)) = some (some (.agg #[.int .i64 0, .int .i64 0]), 2, 16) := by kernel_rfl

def OwnResM (w : World) (E : Int) (ps : List (Int × Int)) (e : Ending) (w' : World) : Prop :=
  (∃ v, e = .returned (.tuple #[v, .int .i64 E]) ∧ w'.ownsRow w.heap.size 86 2 v ps.length (pairCells ps)) ∧ Below w.heap.size w w'
theorem OwnResM.none_ {w w' : World} {E : Int} (h : Below w.heap.size w w') : OwnResM w E [] (.returned (.tuple #[.slice none 0 0, .int .i64 E])) w' := ⟨⟨_, rfl, World.ownsRow_nil _ _ _ _⟩, h⟩
def matL (ws : List (Int × Int)) : List (Int × Int) := if wallsE ws = 0 then ws.map matP else []
theorem two_new (w : World) (x y : Value) (t : TypeId) : ∀ j u, [x, y][j]? = some u → (w.alloc (.cells #[x, y] t)).cell? ((⟨w.heap.size, 0, none⟩ : Addr).add j) = some u := by
  intro j u hj
  match j, hj with
  | 0, hj => simp at hj; subst hj; simp [Addr.add]
  | 1, hj => simp at hj; subst hj; simp [Addr.add]

set_option maxRecDepth 100000 in
set_option maxHeartbeats 2000000 in
theorem converted_mat (g n c : Nat) (ws : List (Int × Int)) (w : World) (hr : RdR w g n ws) (hn : n ≤ 1000000) :
    Calls Tryz.prog 62 #[.slice (some ⟨g, 0, none⟩) n c, .func (.func 63) #[] #[], .func (.func 64) #[] #[]] w (OwnResM w (wallsE ws) (matL ws)) := by
  have HR := Lib.hid hr
  have hln := hr.1
  have HE : Hid (wallsE ws = if 200 < n then 8 else wallsF ws) := by show _ = _; unfold wallsE; rw [hln]
  have HLN := Lib.hid hln
  clear hr hln
  obtain ⟨i0, hi0, hz0, hz1, hz2⟩ := info_parts matInfo
  by_cases h1 : 200 < n
  · have h1I : (200 : Int) < (n : Int) := by omega
    have HL : Hid (matL ws = []) := by show _ = _; unfold matL; rw [if_neg (by rw [HE.out, if_pos h1]; decide)]
    have HE2 : Hid (wallsE ws = 8) := by show _ = _; rw [HE.out, if_pos h1]
    rw [HE2.out, HL.out]
    go_enter Tryz.func62, Tryz.ntmps62
    go_wp2
    go_ret2
    exact OwnResM.none_ (Below.refl _ _)
  · have h1I : ¬ (200 : Int) < (n : Int) := by omega
    have HE2 : Hid (wallsE ws = wallsF ws) := by show _ = _; rw [HE.out, if_neg h1]
    go_enter Tryz.func62, Tryz.ntmps62
    go_wp2
    go_loopw [8, 17] (fun v i wr => ∃ k : Nat, k ≤ n ∧ i = .int .i64 k ∧ Hid (wallsF ws = wallsF (ws.drop k)) ∧ Hid (wr.ownsRow w.heap.size 86 2 v k (pairCells ((ws.take k).map matP)) ∧ Below w.heap.size w wr)) (fun _ i _ => n - (intOf i).toNat)
    case atStart => exact ⟨0, Nat.zero_le _, rfl, rfl, World.ownsRow_nil _ _ _ _, Below.refl _ _⟩
    case round =>
      obtain ⟨k, hk, rfl, HF, HI⟩ := hrel
      by_cases hlt : k < n
      · have hkI : (k : Int) < (n : Int) := by omega
        obtain ⟨q1, q2⟩ := (HR.out.below HI.out.2).2.2 k hlt
        have hstep := wallsF_step ws k (by rw [HLN.out]; exact hlt)
        have htk : ws.take (k + 1) = ws.take k ++ [ws.getD k (0, 0)] := by
          rw [List.take_succ_eq_append_getElem (by rw [HLN.out]; exact hlt)]
          simp [List.getD_eq_getElem?_getD, List.getElem?_eq_getElem (show k < ws.length by rw [HLN.out]; exact hlt)]
        obtain ⟨⟨l, r⟩, hxy⟩ : ∃ p, ws.getD k (0, 0) = p := ⟨_, rfl⟩
        rw [hxy] at q1 q2 hstep htk
        dsimp only at q1 q2
        have HST := Lib.hid hstep
        have HTK := Lib.hid htk
        clear hstep htk hxy
        have CW := Lib.hid (checkWalls_any l r (wr.alloc (.cells #[.int .i64 l, .int .i64 r] 83)))
        have b1 := Bk.new wr 83 #[.int .i64 l, .int .i64 r]
        have HB1 := Lib.hid b1
        clear b1
        by_cases hw0 : wallE (l, r) = 0
        · have hok := wallE_ok hw0
          dsimp only at hok
          rw [hw0] at CW
          have HF2 : Hid (wallsF ws = wallsF (ws.drop (k + 1))) := by show _ = _; rw [HF.out, HST.out, if_pos hw0]
          clear hw0
          go_wp2_with fail
          refine CW.out.mono ?_
          rintro e w2 ⟨rfl, hb2⟩
          have HB2 := Lib.hid (HB1.out.below hb2 (by simp))
          have HO2 := Lib.hid (ownLater (HI.out.1.alloc (.cells #[.int .i64 l, .int .i64 r] 83)) hb2)
          have HBW2 := Lib.hid ((HI.out.2.alloc HI.out.2.size (.cells #[.int .i64 l, .int .i64 r] 83)).trans (hb2.mono (by have := HI.out.2.size; simp; omega)))
          have d0 : w2.cell? ⟨wr.heap.size, 0, none⟩ = some (.int .i64 l) := by rw [HB2.out.cell]; rfl
          have d1 : w2.cell? ⟨wr.heap.size, 1, none⟩ = some (.int .i64 r) := by rw [HB2.out.cell]; rfl
          have CM := Lib.hid (matrixOf_any l r w2 (by omega) (by omega))
          clear hb2 CW
          go_wp2_with fail
          refine CM.out.mono ?_
          rintro e w3 ⟨rfl, hb3⟩
          have HO3 := Lib.hid (ownLater HO2.out hb3)
          have HBW3 := Lib.hid (HBW2.out.trans (hb3.mono HBW2.out.size))
          clear hb3 CM d0 d1
          go_wp2_with (at_builtin; refine wpList_append_own _ rfl (.tmp 27) (.tmp 31) 79 rfl w.heap.size 86 i0 _ 2 16 Tryz.underlying79 hi0 hz0 hz1 hz2 rfl (by decide) _ _ _ rfl (HO3.out.alloc _) ⟨w3.heap.size, 0, none⟩ 1 1 [.int .i64 (l + r), .int .i64 (r - l)] rfl rfl (two_new _ _ _ _) (by simp [Value.oneCell']) (by unfold maxLen; omega) (by omega) (by have := HBW3.out.size; simp; omega) ?_)
          intro v' w4 hown' hgrow _
          have HN : Hid (w4.ownsRow w.heap.size 86 2 v' (k + 1) (pairCells ((ws.take (k + 1)).map matP)) ∧ Below w.heap.size w w4) := by
            refine ⟨?_, (HBW3.out.alloc HBW3.out.size _).grown hgrow (by have := HBW3.out.size; simp; omega) (fun z e => (HO3.out.lt z e).1)⟩
            rw [HTK.out, List.map_append, List.map_cons, List.map_nil, pairCells_snoc, List.map_take]
            exact hown'
          clear hown' hgrow
          go_wp2
          go_roundw
          case rel => exact ⟨k + 1, by omega, by go_num, HF2.out, HN.out⟩
          case measure => simp [intOf]; omega
        · obtain ⟨E, hEe⟩ : ∃ E, wallE (l, r) = E := ⟨_, rfl⟩
          have HFE : Hid (wallsE ws = E) := by show _ = _; rw [HE2.out, HF.out, HST.out, if_neg hw0, hEe]
          rw [hEe] at CW hw0
          have hne : (E != 0) = true := by simpa using hw0
          have HL : Hid (matL ws = []) := by show _ = _; unfold matL; rw [if_neg (by rw [HFE.out]; exact hw0)]
          clear hEe hw0 HST
          go_wp2_with fail
          refine CW.out.mono ?_
          rintro e w2 ⟨rfl, hb2⟩
          have HBW2 := Lib.hid ((HI.out.2.alloc HI.out.2.size (.cells #[.int .i64 l, .int .i64 r] 83)).trans (hb2.mono (by have := HI.out.2.size; simp; omega)))
          clear hb2 CW
          go_wp2
          go_ret2
          rw [HFE.out, HL.out]
          exact OwnResM.none_ HBW2.out
      · obtain rfl : k = n := by omega
        have HF2 : Hid (wallsE ws = 0) := by show _ = _; rw [HE2.out, HF.out, List.drop_eq_nil_of_le (by rw [HLN.out]; exact Nat.le_refl _)]; rfl
        have HL : Hid (matL ws = ws.map matP) := by show _ = _; unfold matL; rw [if_pos HF2.out]
        have HT : Hid (ws.take k = ws) := by show _ = _; rw [List.take_of_length_le (by rw [HLN.out]; exact Nat.le_refl _)]
        go_wp2
        go_ret2
        rw [HF2.out, HL.out]
        refine ⟨⟨_, rfl, ?_⟩, HI.out.2⟩
        have h := HI.out.1
        rw [HT.out] at h
        rw [List.length_map, HLN.out]
        exact h

theorem MatrixOf_any (g n c : Nat) (ws : List (Int × Int)) (w : World) (hr : RdR w g n ws) (hn : n ≤ 1000000) :
    Calls Tryz.prog 35 #[.slice (some ⟨g, 0, none⟩) n c] w (OwnResM w (wallsE ws) (matL ws)) := by
  have C := Lib.hid (converted_mat g n c ws w hr hn)
  clear hr
  go_enter Tryz.func35, Tryz.ntmps35
  go_wp2_with fail
  refine C.out.mono ?_
  rintro e w1 ⟨⟨v, rfl, ho⟩, hb⟩
  have HO := Lib.hid ho
  have HB := Lib.hid hb
  clear ho hb C
  go_wp2
  go_ret2
  exact ⟨⟨_, rfl, HO.out⟩, HB.out⟩

end Go.Proofs.YtjjflbnopphciaaGreatDoor
