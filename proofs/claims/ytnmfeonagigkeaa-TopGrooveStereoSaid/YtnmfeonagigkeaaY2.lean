import Derived.Test.YtnmfeonagigkeaaY0
import Derived.Test.YtnmfeonagigkeaaS1
namespace Go.Proofs.Ytnmfeonagigkeaa
open Go.RowKit

theorem rows4_nil (W : World) (base : Nat) (f1 f2 f3 f4 : Int × Int → Int) : Rows4 W base [(.slice none 0 0, chan f1 []), (.slice none 0 0, chan f2 []), (.slice none 0 0, chan f3 []), (.slice none 0 0, chan f4 [])] := by
  refine ⟨fun p hp => ?_, ?_⟩
  · simp at hp
    rcases hp with rfl | rfl | rfl | rfl <;> exact World.ownsRow_nil _ _ _ _
  · simp [Value.ownBlock]
set_option maxRecDepth 100000 in
set_option maxHeartbeats 16000000 in
theorem st_ok (A : Option Addr) (n c : Nat) (ws : List (Int × Int)) (w : World) (hA : A = none → n = 0 ∧ c = 0) (hw : RdP w A n ws) (hn0 : 0 < n) (hn : n ≤ 60) (hE : wallsE ws = 0) :
    Calls Try.prog 3 #[.slice A n c] w fun e w' => e = .returned (.bool true) ∧ Below w.heap.size w w' := by
  have HA := Lib.hid hA
  have HW := Lib.hid hw
  have HWL : Hid (ws.length = n) := hw.1
  clear hA hw
  have HN : Hid (n ≤ 1000000) := by show _ ≤ _; omega
  have hnz : ((n : Int) == 0) = false := by rw [beq_eq_false_iff_ne]; omega
  have hnI : ¬ (60 : Int) < (n : Int) := by omega
  have hnp : (0 : Int) < (n : Int) := by omega
  have hnn : ((n : Int) != (n : Int)) = false := bne_self_eq_false' _
  obtain ⟨i0, hi0, hz0, hz1, hz2⟩ := info_parts intInfo'
  obtain ⟨m0, hm0, mz0, mz1, mz2⟩ := info_parts matInfo
  have CE : Hid (∀ W, RdP W A n ws → Calls Try.prog 5 #[.slice A n c] W fun e w' => e = .returned (.int .i64 0) ∧ Below W.heap.size W w') := fun W h => by rw [← hE]; exact refWallsErr_any A n c ws W h (by omega)
  have hbk := back_ok hE
  have HOK := Lib.hid (wallsE_ok hE).2
  have hps := walls_pos hE
  have CMAT : Hid (∀ W g c, RdR W g n ws → Calls Try.prog 6 #[.slice (some ⟨g, 0, none⟩) n c] W (OwnResM W 0 (ws.map matP))) := fun W g c h => by
    have h1 := MatrixOf_any g n c ws W h HN.out
    rw [hE, hbk.2.2.1] at h1
    exact h1
  have CWID : Hid (∀ W g c, RdR W g n ws → Calls Try.prog 8 #[.slice (some ⟨g, 0, none⟩) n c] W (OwnRes W 0 (chan widP ws))) := fun W g c h => by
    have h1 := WidthsOf_any g n c ws W h HN.out
    rw [hE, hbk.2.2.2] at h1
    exact h1
  have CWLB : Hid (∀ W g c, RdR W g n (ws.map matP) → Calls Try.prog 12 #[.slice (some ⟨g, 0, none⟩) n c] W (OwnResW W 0 ws)) := fun W g c h => by
    have h1 := WallsOf_any g n c (ws.map matP) W h HN.out
    have h2 := hbk.1
    have h3 := hbk.2.1
    rw [hbk.2.2.1] at h2 h3
    rw [h2, h3] at h1
    exact h1
  have HML : Hid ((ws.map matP).length = n) := by show _ = _; rw [List.length_map, HWL.out]
  have HCL : Hid (∀ f, (chan f ws).length = n) := fun f => by rw [chan_length, HWL.out]
  have HP1 := Lib.hid hps.1
  have HP2 := Lib.hid hps.2
  obtain ⟨ax, hax, haxb, _⟩ := HW.out.2 hn0
  subst hax
  clear hbk hps hE
  go_enter Try.func3, Try.ntmps3
  go_wp2_with fail
  refine (shown_any _).mono ?_
  rintro e w1 ⟨rfl, hb1⟩
  have Fx1 := Lib.hid (HW.out.below hb1)
  have low1 := Lib.hid hb1
  clear hb1 HW
  go_wp2_with fail
  refine (CE.out _ Fx1.out).mono ?_
  rintro e w2 ⟨rfl, hb2⟩
  have Fx2 := Lib.hid (Fx1.out.below hb2)
  have low2 := Lib.hid (low1.out.trans (hb2.mono low1.out.size))
  clear hb2 Fx1 low1
  go_wp2_with fail
  refine (copyWalls_any _ n c ws _ HA.out Fx2.out HN.out).mono ?_
  rintro e w3 ⟨⟨g3, c3, rfl, hr3⟩, hb3⟩
  have Fx3 := Lib.hid (Fx2.out.below hb3)
  have low3 := Lib.hid (low2.out.trans (hb3.mono low2.out.size))
  have G1 := Lib.hid hr3
  clear hb3 Fx2 low2 hr3
  go_wp2_with fail
  refine (CMAT.out _ _ _ G1.out).mono ?_
  rintro e w4 ⟨⟨v4, rfl, ho4⟩, hb4⟩
  have Fx4 := Lib.hid (Fx3.out.below hb4)
  have low4 := Lib.hid (low3.out.trans (hb4.mono low3.out.size))
  rw [HML.out] at ho4
  obtain ⟨Ab, cb, rfl, hrb, nb⟩ := rdO_own ho4 HML.out
  obtain ⟨gm, hgm, hrm⟩ := hrb.2 hn0
  cases hgm
  have Fm := Lib.hid hrm
  clear hb4 Fx3 low3 ho4 hrb nb hrm G1
  go_wp2_with fail
  refine (copyWalls_any _ n c ws _ HA.out Fx4.out HN.out).mono ?_
  rintro e w5 ⟨⟨g5, c5, rfl, hr5⟩, hb5⟩
  have Fx5 := Lib.hid (Fx4.out.below hb5)
  have Fm5 := Lib.hid (Fm.out.below hb5)
  have low5 := Lib.hid (low4.out.trans (hb5.mono low4.out.size))
  have G2 := Lib.hid hr5
  clear hb5 Fx4 Fm low4 hr5
  go_wp2_with fail
  refine (CWID.out _ _ _ G2.out).mono ?_
  rintro e w6 ⟨⟨v6, rfl, ho6⟩, hb6⟩
  have Fx6 := Lib.hid (Fx5.out.below hb6)
  have Fm6 := Lib.hid (Fm5.out.below hb6)
  have low6 := Lib.hid (low5.out.trans (hb6.mono low5.out.size))
  rw [HCL.out] at ho6
  obtain ⟨Aw, cw, rfl, _, hrw, nw⟩ := rd_ownN ho6
  obtain ⟨aw, haw, hawb, hcw⟩ := hrw.2 hn0
  cases haw
  have Fw := Lib.hid hrw
  clear hb6 Fx5 Fm5 low5 ho6 hrw nw hawb hcw G2
  obtain ⟨wL, hwL⟩ : ∃ W, W = w6 := ⟨_, rfl⟩
  subst hwL
  go_wp2
  go_loopw [7, 8, 9, 10, 11] (fun a b c d i wr => ∃ j : Nat, j ≤ n ∧ i = .int .i64 j ∧ ∃ v1 v2 v3 v4 : Value, v1 = a ∧ v2 = b ∧ v3 = c ∧ v4 = d ∧ Hid (Rows4 wr wL.heap.size [(v1, chan Prod.fst (ws.take j)), (v2, chan Prod.snd (ws.take j)), (v3, chan latP (ws.take j)), (v4, chan widP (ws.take j))] ∧ Below wL.heap.size wL wr)) (fun _ _ _ _ i _ => n - (intOf i).toNat)
  case atStart => exact ⟨0, Nat.zero_le _, rfl, _, _, _, _, rfl, rfl, rfl, rfl, rows4_nil _ _ _ _ _ _, Below.refl _ _⟩
  case round =>
    obtain ⟨j, hj, rfl, v1, v2, v3, v4, rfl, rfl, rfl, rfl, HI⟩ := hrel
    by_cases hlt : j < n
    · have hjI : (j : Int) < (n : Int) := by omega
      have hj0 : (0 : Int) ≤ (j : Int) := by omega
      have hlw : j < ws.length := by rw [HWL.out]; exact hlt
      have ht1 := chan_take Prod.fst ws j hlw
      have ht2 := chan_take Prod.snd ws j hlw
      have ht3 := chan_take latP ws j hlw
      have ht4 := chan_take widP ws j hlw
      have hln : ∀ f, (chan f (ws.take j)).length ≤ 60 := fun f => by rw [chan_length, List.length_take]; omega
      obtain ⟨x1, hx1⟩ : ∃ x, chan Prod.fst (ws.take j) = x := ⟨_, rfl⟩
      obtain ⟨x2, hx2⟩ : ∃ x, chan Prod.snd (ws.take j) = x := ⟨_, rfl⟩
      obtain ⟨x3, hx3⟩ : ∃ x, chan latP (ws.take j) = x := ⟨_, rfl⟩
      obtain ⟨x4, hx4⟩ : ∃ x, chan widP (ws.take j) = x := ⟨_, rfl⟩
      have l1 := hln Prod.fst
      have l2 := hln Prod.snd
      have l3 := hln latP
      have l4 := hln widP
      rw [hx1] at ht1 l1 HI
      rw [hx2] at ht2 l2 HI
      rw [hx3] at ht3 l3 HI
      rw [hx4] at ht4 l4 HI
      obtain ⟨ax', hax, haxb', hcx⟩ := Fx6.out.2 hn0
      obtain ⟨q1, q2⟩ := hcx j hlt
      cases hax
      obtain ⟨aw', haw, hawb, hcw⟩ := Fw.out.2 hn0
      have q3 := hcw j hlt
      cases haw
      have hmb := Fm6.out.2.1 hn0
      obtain ⟨q4, q5⟩ := Fm6.out.2.2 j hlt
      rw [chan_at _ _ _ hlw] at q3
      rw [map_at matP ws (0, 0) (0, 0) j hlw] at q4 q5
      obtain ⟨⟨l, r⟩, hxy⟩ : ∃ p, ws.getD j (0, 0) = p := ⟨_, rfl⟩
      rw [hxy] at q1 q2 q3 q4 q5 ht1 ht2 ht3 ht4
      dsimp only [widP, matP, latP] at q1 q2 q3 q4 q5 ht1 ht2 ht3 ht4
      obtain ⟨s, hs⟩ : ∃ s, l + r = s := ⟨_, rfl⟩
      obtain ⟨u, hu⟩ : ∃ u, r - l = u := ⟨_, rfl⟩
      rw [hs] at q4 ht3
      rw [hu] at q3 q5 ht4
      obtain ⟨ak, hak⟩ : ∃ x, ax.add (j * 2) = x := ⟨_, rfl⟩
      have hakb : ak.block < wL.heap.size := by rw [← hak, addBlock]; exact haxb'
      rw [hak] at q1 q2
      obtain ⟨ak1, hak1⟩ : ∃ x, ak.add 1 = x := ⟨_, rfl⟩
      have hak1b : ak1.block < wL.heap.size := by rw [← hak1, addBlock]; exact hakb
      rw [hak1] at q2
      have HQ15 : Hid (∀ W, Below wL.heap.size wL W → (fun w' : World => w'.cell? ak = some (.int .i64 l) ∧ w'.cell? ak1 = some (.int .i64 r)) W) := fun W hb => ⟨(hb.cell hakb).trans q1, (hb.cell hak1b).trans q2⟩
      have HQ16 : Hid (∀ W, Below wL.heap.size wL W → (fun w' : World => w'.cell? ⟨gm, j * 2, none⟩ = some (.int .i64 s) ∧ w'.cell? ⟨gm, j * 2 + 1, none⟩ = some (.int .i64 u)) W) := fun W hb => ⟨(hb.cell (p := ⟨gm, j * 2, none⟩) hmb).trans q4, (hb.cell (p := ⟨gm, j * 2 + 1, none⟩) hmb).trans q5⟩
      have HQ13 : Hid (∀ W, Below wL.heap.size wL W → (fun w' : World => w'.cell? ⟨gm, j * 2 + 1, none⟩ = some (.int .i64 u) ∧ w'.cell? (aw.add j) = some (.int .i64 u)) W) := fun W hb => ⟨(hb.cell (p := ⟨gm, j * 2 + 1, none⟩) hmb).trans q5, (hb.cell (p := aw.add j) (by rw [addBlock]; exact hawb)).trans q3⟩
      have HT1 := Lib.hid ht1
      have HT2 := Lib.hid ht2
      have HT3 := Lib.hid ht3
      have HT4 := Lib.hid ht4
      have huu : (u != u) = false := bne_self_eq_false' _
      have HRr := Lib.hid HI.out.1.drew
      have HBr := Lib.hid HI.out.2.drew
      have HS2 : Hid ((fun w' : World => w'.cell? ⟨gm, j * 2 + 1, none⟩ = some (.int .i64 u) ∧ w'.cell? (aw.add j) = some (.int .i64 u)) wr.drew) := HQ13.out _ HBr.out
      clear ht1 ht2 ht3 ht4 hln hx1 hx2 hx3 hx4 hcx q1 q2 q3 q4 q5 hcw hawb haxb' hmb hxy hs hu hakb hak1b hlw HI
      go_wp2_with fail
      refine wp_region_held_drew (S := (fun w' : World => w'.cell? ⟨gm, j * 2 + 1, none⟩ = some (.int .i64 u) ∧ w'.cell? (aw.add j) = some (.int .i64 u))) (by kernel_rfl) ?_ ?_
      · exact HS2.out
      intro hHeld
      refine wpAnyH_take (i := 0) (v := ?_) rfl (by kernel_rfl) (by kernel_rfl) (by kernel_rfl) (fun _ _ _ h => h) (Or.inl ⟨by rfl, ?_⟩) (by assumption) ?_
      rotate_left
      · intro w hSw; (try dsimp only at hSw); go_simp; (try (with_reducible rfl))
      try simp only [List.getElem_toArray, List.getElem_cons_succ, List.getElem_cons_zero, Act.put, List.setIfInBounds_toArray, List.set_cons_zero, List.set_cons_succ]
      refine wpAnyH_take (i := 1) (v := ?_) rfl (by kernel_rfl) (by kernel_rfl) (by kernel_rfl) (fun _ _ _ h => h) (Or.inl ⟨by rfl, ?_⟩) (by assumption) ?_
      rotate_left
      · intro w hSw; (try dsimp only at hSw); go_simp; (try (with_reducible rfl))
      try simp only [List.getElem_toArray, List.getElem_cons_succ, List.getElem_cons_zero, Act.put, List.setIfInBounds_toArray, List.set_cons_zero, List.set_cons_succ]
      refine wpAnyH_take (i := 2) (v := ?_) rfl (by kernel_rfl) (by kernel_rfl) (by kernel_rfl) (fun _ _ _ h => h) (Or.inl ⟨by rfl, ?_⟩) (by assumption) ?_
      rotate_left
      · intro w hSw; (try dsimp only at hSw); go_simp; (try (with_reducible rfl))
      try simp only [List.getElem_toArray, List.getElem_cons_succ, List.getElem_cons_zero, Act.put, List.setIfInBounds_toArray, List.set_cons_zero, List.set_cons_succ]
      refine wpAnyH_take (i := 3) (v := ?_) rfl (by kernel_rfl) (by kernel_rfl) (by kernel_rfl) (fun _ _ _ h => h) (Or.inl ⟨by rfl, ?_⟩) (by assumption) ?_
      rotate_left
      · intro w hSw; (try dsimp only at hSw); go_simp; (try (with_reducible rfl))
      try simp only [List.getElem_toArray, List.getElem_cons_succ, List.getElem_cons_zero, Act.put, List.setIfInBounds_toArray, List.set_cons_zero, List.set_cons_succ]
      refine wpAnyH_take (i := 4) (v := ?_) rfl (by kernel_rfl) (by kernel_rfl) (by kernel_rfl) (fun _ _ _ h => h) (Or.inl ⟨by rfl, ?_⟩) (by assumption) ?_
      rotate_left
      · intro w hSw; (try dsimp only at hSw); go_simp; (try (with_reducible rfl))
      try simp only [List.getElem_toArray, List.getElem_cons_succ, List.getElem_cons_zero, Act.put, List.setIfInBounds_toArray, List.set_cons_zero, List.set_cons_succ]
      refine wpAnyH_take (i := 5) (v := ?_) rfl (by kernel_rfl) (by kernel_rfl) (by kernel_rfl) (fun _ _ _ h => h) (Or.inl ⟨by rfl, ?_⟩) (by assumption) ?_
      rotate_left
      · intro w hSw; (try dsimp only at hSw); go_simp; (try (with_reducible rfl))
      try simp only [List.getElem_toArray, List.getElem_cons_succ, List.getElem_cons_zero, Act.put, List.setIfInBounds_toArray, List.set_cons_zero, List.set_cons_succ]
      refine wpAnyH_take (i := 6) (v := ?_) rfl (by kernel_rfl) (by kernel_rfl) (by kernel_rfl) (fun _ _ _ h => h) (Or.inl ⟨by rfl, ?_⟩) (by assumption) ?_
      rotate_left
      · intro w hSw; (try dsimp only at hSw); go_simp; (try (with_reducible rfl))
      try simp only [List.getElem_toArray, List.getElem_cons_succ, List.getElem_cons_zero, Act.put, List.setIfInBounds_toArray, List.set_cons_zero, List.set_cons_succ]
      refine wpAnyH_take (i := 7) (v := ?_) rfl (by kernel_rfl) (by kernel_rfl) (by kernel_rfl) (fun _ _ _ h => h) (Or.inl ⟨by rfl, ?_⟩) (by assumption) ?_
      rotate_left
      · intro w hSw; (try dsimp only at hSw); go_simp; (try (with_reducible rfl))
      try simp only [List.getElem_toArray, List.getElem_cons_succ, List.getElem_cons_zero, Act.put, List.setIfInBounds_toArray, List.set_cons_zero, List.set_cons_succ]
      refine wpAnyH_take (i := 8) (v := ?_) rfl (by kernel_rfl) (by kernel_rfl) (by kernel_rfl) (fun _ _ _ h => h) (Or.inl ⟨by rfl, ?_⟩) (by assumption) ?_
      rotate_left
      · intro w hSw; (try dsimp only at hSw); go_simp; (try (with_reducible rfl))
      try simp only [List.getElem_toArray, List.getElem_cons_succ, List.getElem_cons_zero, Act.put, List.setIfInBounds_toArray, List.set_cons_zero, List.set_cons_succ]
      refine wpAnyH_take (i := 9) (v := ?_) rfl (by kernel_rfl) (by kernel_rfl) (by kernel_rfl) (fun _ _ _ h => h) (Or.inl ⟨by rfl, ?_⟩) (by assumption) ?_
      rotate_left
      · intro w hSw; (try dsimp only at hSw); go_simp; (try (with_reducible rfl))
      try simp only [List.getElem_toArray, List.getElem_cons_succ, List.getElem_cons_zero, Act.put, List.setIfInBounds_toArray, List.set_cons_zero, List.set_cons_succ]
      refine wpAnyH_done (by kernel_rfl) ?_ _
      clear hHeld HS2
      go_wp2_with fail
      refine wp_region_held_drew (S := (fun w' : World => w'.cell? ak = some (.int .i64 l) ∧ w'.cell? ak1 = some (.int .i64 r))) (by kernel_rfl) ?_ ?_
      · exact HQ15.out _ HBr.out.drew
      intro hHeld
      refine wpAnyH_take (i := 0) (v := ?_) rfl (by kernel_rfl) (by kernel_rfl) (by kernel_rfl) (fun _ _ _ h => h) (Or.inl ⟨by rfl, ?_⟩) (by assumption) ?_
      rotate_left
      · intro w hSw; (try dsimp only at hSw); go_simp; (try (with_reducible rfl))
      try simp only [List.getElem_toArray, List.getElem_cons_succ, List.getElem_cons_zero, Act.put, List.setIfInBounds_toArray, List.set_cons_zero, List.set_cons_succ]
      refine wpAnyH_take (i := 1) (v := ?_) rfl (by kernel_rfl) (by kernel_rfl) (by kernel_rfl) (fun _ _ _ h => h) (Or.inl ⟨by rfl, ?_⟩) (by assumption) ?_
      rotate_left
      · intro w hSw; (try dsimp only at hSw); go_simp; (try (with_reducible rfl))
      try simp only [List.getElem_toArray, List.getElem_cons_succ, List.getElem_cons_zero, Act.put, List.setIfInBounds_toArray, List.set_cons_zero, List.set_cons_succ]
      refine wpAnyH_take (i := 2) (v := ?_) rfl (by kernel_rfl) (by kernel_rfl) (by kernel_rfl) (fun _ _ _ h => h) (Or.inl ⟨by rfl, ?_⟩) (by assumption) ?_
      rotate_left
      · intro w hSw; (try dsimp only at hSw); go_simp; (try (with_reducible rfl))
      try simp only [List.getElem_toArray, List.getElem_cons_succ, List.getElem_cons_zero, Act.put, List.setIfInBounds_toArray, List.set_cons_zero, List.set_cons_succ]
      refine wpAnyH_take (i := 3) (v := ?_) rfl (by kernel_rfl) (by kernel_rfl) (by kernel_rfl) (fun _ _ _ h => h) (Or.inl ⟨by rfl, ?_⟩) (by assumption) ?_
      rotate_left
      · intro w hSw; (try dsimp only at hSw); go_simp; (try (with_reducible rfl))
      try simp only [List.getElem_toArray, List.getElem_cons_succ, List.getElem_cons_zero, Act.put, List.setIfInBounds_toArray, List.set_cons_zero, List.set_cons_succ]
      refine wpAnyH_take (i := 4) (v := ?_) rfl (by kernel_rfl) (by kernel_rfl) (by kernel_rfl) (fun _ _ _ h => h) (Or.inl ⟨by rfl, ?_⟩) (by assumption) ?_
      rotate_left
      · intro w hSw; (try dsimp only at hSw); go_simp; (try (with_reducible rfl))
      try simp only [List.getElem_toArray, List.getElem_cons_succ, List.getElem_cons_zero, Act.put, List.setIfInBounds_toArray, List.set_cons_zero, List.set_cons_succ]
      refine wpAnyH_take (i := 5) (v := ?_) rfl (by kernel_rfl) (by kernel_rfl) (by kernel_rfl) (fun _ _ _ h => h) (Or.inl ⟨by rfl, ?_⟩) (by assumption) ?_
      rotate_left
      · intro w hSw; (try dsimp only at hSw); go_simp; (try (with_reducible rfl))
      try simp only [List.getElem_toArray, List.getElem_cons_succ, List.getElem_cons_zero, Act.put, List.setIfInBounds_toArray, List.set_cons_zero, List.set_cons_succ]
      refine wpAnyH_take (i := 8) (v := ?_) rfl (by kernel_rfl) (by kernel_rfl) (by kernel_rfl) (fun _ _ _ h => h) (Or.inl ⟨by rfl, ?_⟩) (by assumption) ?_
      rotate_left
      · intro w hSw; (try dsimp only at hSw); go_simp; (try (with_reducible rfl))
      try simp only [List.getElem_toArray, List.getElem_cons_succ, List.getElem_cons_zero, Act.put, List.setIfInBounds_toArray, List.set_cons_zero, List.set_cons_succ]
      refine wpAnyH_take (i := 9) (v := ?_) rfl (by kernel_rfl) (by kernel_rfl) (by kernel_rfl) (fun _ _ _ h => h) (Or.inl ⟨by rfl, ?_⟩) (by assumption) ?_
      rotate_left
      · intro w hSw; (try dsimp only at hSw); go_simp; (try (with_reducible rfl))
      try simp only [List.getElem_toArray, List.getElem_cons_succ, List.getElem_cons_zero, Act.put, List.setIfInBounds_toArray, List.set_cons_zero, List.set_cons_succ]
      refine wpAnyH_take (i := 10) (v := ?_) rfl (by kernel_rfl) (by kernel_rfl) (by kernel_rfl) (fun _ _ _ h => h) (Or.inl ⟨by rfl, ?_⟩) (by assumption) ?_
      rotate_left
      · intro w hSw; (try dsimp only at hSw); go_simp; (try (with_reducible rfl))
      try simp only [List.getElem_toArray, List.getElem_cons_succ, List.getElem_cons_zero, Act.put, List.setIfInBounds_toArray, List.set_cons_zero, List.set_cons_succ]
      refine wpAnyH_take (i := 11) (v := ?_) rfl (by kernel_rfl) (by kernel_rfl) (by kernel_rfl) (fun _ _ _ h => h) (Or.inl ⟨by rfl, ?_⟩) (by assumption) ?_
      rotate_left
      · intro w hSw; (try dsimp only at hSw); go_simp; (try (with_reducible rfl))
      try simp only [List.getElem_toArray, List.getElem_cons_succ, List.getElem_cons_zero, Act.put, List.setIfInBounds_toArray, List.set_cons_zero, List.set_cons_succ]
      refine wpAnyH_take (i := 12) (v := ?_) rfl (by kernel_rfl) (by kernel_rfl) (by kernel_rfl) (fun _ _ _ h => h) (Or.inl ⟨by rfl, ?_⟩) (by assumption) ?_
      rotate_left
      · intro w hSw; (try dsimp only at hSw); go_simp; (try (with_reducible rfl))
      try simp only [List.getElem_toArray, List.getElem_cons_succ, List.getElem_cons_zero, Act.put, List.setIfInBounds_toArray, List.set_cons_zero, List.set_cons_succ]
      refine wpAnyH_take (i := 13) (v := ?_) rfl (by kernel_rfl) (by kernel_rfl) (by kernel_rfl) (fun _ _ _ h => h) (Or.inl ⟨by rfl, ?_⟩) (by assumption) ?_
      rotate_left
      · intro w hSw; (try dsimp only at hSw); go_simp; (try (with_reducible rfl))
      try simp only [List.getElem_toArray, List.getElem_cons_succ, List.getElem_cons_zero, Act.put, List.setIfInBounds_toArray, List.set_cons_zero, List.set_cons_succ]
      have HRa := Lib.hid HRr.out.drew
      have HBa := Lib.hid HBr.out.drew
      obtain ⟨Wa, hWa⟩ : ∃ W, (wr.drew).drew = W := ⟨_, rfl⟩
      rw [hWa] at HRa HBa hHeld ⊢
      clear hWa
      refine wpAnyH_ready (rs := [6, 14]) (by kernel_rfl) (by simp) ?_
      refine (AllReadyH.cons rfl (fun K hK => ?_) (AllReadyH.cons rfl (fun K hK => ?_) AllReadyH.nil))
      · go_simp
        refine hK.out _ _ ?_ (fun hHeld => ?_)
        · clear hK K; exact HQ15.out _ (HBa.out.alloc HBa.out.size _)
        clear hK K
        try simp only [List.getElem_toArray, List.getElem_cons_succ, List.getElem_cons_zero, Act.put, List.setIfInBounds_toArray, List.set_cons_zero, List.set_cons_succ]
        have RW1b0 := Lib.hid (HRa.out.alloc (.cells #[.int .i64 l] 3))
        have BW1b0 := Lib.hid (HBa.out.alloc HBa.out.size (.cells #[.int .i64 l] 3))
        have CW1b0 : Hid ((Wa.alloc (.cells #[.int .i64 l] 3)).cell? ⟨Wa.heap.size, 0, none⟩ = some (.int .i64 l)) := by show _ = _; simp [go_sem]
        obtain ⟨W1b0, hW1b0⟩ : ∃ W, Wa.alloc (.cells #[.int .i64 l] 3) = W := ⟨_, rfl⟩
        rw [hW1b0] at RW1b0 BW1b0 CW1b0 hHeld ⊢
        clear hW1b0
        refine wpAnyH_ready (rs := [7, 14]) (by kernel_rfl) (by simp) ?_
        refine (AllReadyH.cons rfl (fun K hK => ?_) (AllReadyH.cons rfl (fun K hK => ?_) AllReadyH.nil))
        · refine step_append_at _ rfl (.tmp 94) (.tmp 100) 30 rfl wL.heap.size 3 i0 _ 1 8 Try.underlying30 hi0 hz0 hz1 hz2 rfl (by decide) _ x1.length _ rfl (RW1b0.out.1 (v1, x1) (by simp)) ⟨Wa.heap.size, 0, none⟩ 1 1 [.int .i64 l] rfl rfl (src1 CW1b0.out) (by simp [Value.oneCell']) (by simp only [maxLen]; omega) (by omega) BW1b0.out.size ?_
          intro v20n0 W2a0 hown' hgrow _ hat
          have BW2a0 := Lib.hid (BW1b0.out.grown hgrow BW1b0.out.size (fun z e => ((RW1b0.out.1 (v1, x1) (by simp)).lt z e).1))
          have RW2a0 : Hid (Rows4 W2a0 wL.heap.size [(v20n0, (x1 ++ [l])), (v2, x2), (v3, x3), (v4, x4)]) := Rows4.step (pre := []) (post := [(v2, x2), (v3, x3), (v4, x4)]) RW1b0.out hown' hgrow hat
          refine hK.out _ _ ?_ (fun hHeld => ?_)
          · clear hK K; exact HQ15.out _ BW2a0.out
          clear hK K hown' hgrow hat
          try simp only [List.getElem_toArray, List.getElem_cons_succ, List.getElem_cons_zero, Act.put, List.setIfInBounds_toArray, List.set_cons_zero, List.set_cons_succ]
          refine wpAnyH_ready (rs := [14]) (by kernel_rfl) (by simp) ?_
          refine (AllReadyH.cons rfl (fun K hK => ?_) AllReadyH.nil)
          go_simp
          refine hK.out _ _ ?_ (fun hHeld => ?_)
          · clear hK K; exact HQ15.out _ (BW2a0.out.alloc BW2a0.out.size _)
          clear hK K
          try simp only [List.getElem_toArray, List.getElem_cons_succ, List.getElem_cons_zero, Act.put, List.setIfInBounds_toArray, List.set_cons_zero, List.set_cons_succ]
          have RW3b1 := Lib.hid (RW2a0.out.alloc (.cells #[.int .i64 r] 3))
          have BW3b1 := Lib.hid (BW2a0.out.alloc BW2a0.out.size (.cells #[.int .i64 r] 3))
          have CW3b1 : Hid ((W2a0.alloc (.cells #[.int .i64 r] 3)).cell? ⟨W2a0.heap.size, 0, none⟩ = some (.int .i64 r)) := by show _ = _; simp [go_sem]
          obtain ⟨W3b1, hW3b1⟩ : ∃ W, W2a0.alloc (.cells #[.int .i64 r] 3) = W := ⟨_, rfl⟩
          rw [hW3b1] at RW3b1 BW3b1 CW3b1 hHeld ⊢
          clear hW3b1
          refine wpAnyH_ready (rs := [15]) (by kernel_rfl) (by simp) ?_
          refine (AllReadyH.cons rfl (fun K hK => ?_) AllReadyH.nil)
          refine step_append_at _ rfl (.tmp 102) (.tmp 108) 30 rfl wL.heap.size 3 i0 _ 1 8 Try.underlying30 hi0 hz0 hz1 hz2 rfl (by decide) _ x2.length _ rfl (RW3b1.out.1 (v2, x2) (by simp)) ⟨W2a0.heap.size, 0, none⟩ 1 1 [.int .i64 r] rfl rfl (src1 CW3b1.out) (by simp [Value.oneCell']) (by simp only [maxLen]; omega) (by omega) BW3b1.out.size ?_
          intro v41n1 W4a1 hown' hgrow _ hat
          have BW4a1 := Lib.hid (BW3b1.out.grown hgrow BW3b1.out.size (fun z e => ((RW3b1.out.1 (v2, x2) (by simp)).lt z e).1))
          have RW4a1 : Hid (Rows4 W4a1 wL.heap.size [(v20n0, (x1 ++ [l])), (v41n1, (x2 ++ [r])), (v3, x3), (v4, x4)]) := Rows4.step (pre := [(v20n0, (x1 ++ [l]))]) (post := [(v3, x3), (v4, x4)]) RW3b1.out hown' hgrow hat
          refine hK.out _ _ ?_ (fun hHeld => ?_)
          · clear hK K; exact HQ15.out _ BW4a1.out
          clear hK K hown' hgrow hat
          try simp only [List.getElem_toArray, List.getElem_cons_succ, List.getElem_cons_zero, Act.put, List.setIfInBounds_toArray, List.set_cons_zero, List.set_cons_succ]
          refine wpAnyH_take (i := 16) (v := ?_) rfl (by kernel_rfl) (by kernel_rfl) (by kernel_rfl) (fun _ _ _ h => h) (Or.inl ⟨by rfl, ?_⟩) (by assumption) ?_
          rotate_left
          · intro w hSw; (try dsimp only at hSw); go_simp; (try (with_reducible rfl))
          try simp only [List.getElem_toArray, List.getElem_cons_succ, List.getElem_cons_zero, Act.put, List.setIfInBounds_toArray, List.set_cons_zero, List.set_cons_succ]
          refine wpAnyH_take (i := 17) (v := ?_) rfl (by kernel_rfl) (by kernel_rfl) (by kernel_rfl) (fun _ _ _ h => h) (Or.inl ⟨by rfl, ?_⟩) (by assumption) ?_
          rotate_left
          · intro w hSw; (try dsimp only at hSw); go_simp; (try (with_reducible rfl))
          try simp only [List.getElem_toArray, List.getElem_cons_succ, List.getElem_cons_zero, Act.put, List.setIfInBounds_toArray, List.set_cons_zero, List.set_cons_succ]
          refine wpAnyH_done (by kernel_rfl) ?_ _
          clear hHeld
          go_wp2_with fail
          have HRr := RW4a1
          have HBr := BW4a1
          refine wp_region_held_drew (S := (fun w' : World => w'.cell? ⟨gm, j * 2, none⟩ = some (.int .i64 s) ∧ w'.cell? ⟨gm, j * 2 + 1, none⟩ = some (.int .i64 u))) (by kernel_rfl) ?_ ?_
          · exact HQ16.out _ HBr.out.drew
          intro hHeld
          refine wpAnyH_take (i := 0) (v := ?_) rfl (by kernel_rfl) (by kernel_rfl) (by kernel_rfl) (fun _ _ _ h => h) (Or.inl ⟨by rfl, ?_⟩) (by assumption) ?_
          rotate_left
          · intro w hSw; (try dsimp only at hSw); go_simp; (try (with_reducible rfl))
          try simp only [List.getElem_toArray, List.getElem_cons_succ, List.getElem_cons_zero, Act.put, List.setIfInBounds_toArray, List.set_cons_zero, List.set_cons_succ]
          refine wpAnyH_take (i := 1) (v := ?_) rfl (by kernel_rfl) (by kernel_rfl) (by kernel_rfl) (fun _ _ _ h => h) (Or.inl ⟨by rfl, ?_⟩) (by assumption) ?_
          rotate_left
          · intro w hSw; (try dsimp only at hSw); go_simp; (try (with_reducible rfl))
          try simp only [List.getElem_toArray, List.getElem_cons_succ, List.getElem_cons_zero, Act.put, List.setIfInBounds_toArray, List.set_cons_zero, List.set_cons_succ]
          refine wpAnyH_take (i := 2) (v := ?_) rfl (by kernel_rfl) (by kernel_rfl) (by kernel_rfl) (fun _ _ _ h => h) (Or.inl ⟨by rfl, ?_⟩) (by assumption) ?_
          rotate_left
          · intro w hSw; (try dsimp only at hSw); go_simp; (try (with_reducible rfl))
          try simp only [List.getElem_toArray, List.getElem_cons_succ, List.getElem_cons_zero, Act.put, List.setIfInBounds_toArray, List.set_cons_zero, List.set_cons_succ]
          refine wpAnyH_take (i := 3) (v := ?_) rfl (by kernel_rfl) (by kernel_rfl) (by kernel_rfl) (fun _ _ _ h => h) (Or.inl ⟨by rfl, ?_⟩) (by assumption) ?_
          rotate_left
          · intro w hSw; (try dsimp only at hSw); go_simp; (try (with_reducible rfl))
          try simp only [List.getElem_toArray, List.getElem_cons_succ, List.getElem_cons_zero, Act.put, List.setIfInBounds_toArray, List.set_cons_zero, List.set_cons_succ]
          refine wpAnyH_take (i := 4) (v := ?_) rfl (by kernel_rfl) (by kernel_rfl) (by kernel_rfl) (fun _ _ _ h => h) (Or.inl ⟨by rfl, ?_⟩) (by assumption) ?_
          rotate_left
          · intro w hSw; (try dsimp only at hSw); go_simp; (try (with_reducible rfl))
          try simp only [List.getElem_toArray, List.getElem_cons_succ, List.getElem_cons_zero, Act.put, List.setIfInBounds_toArray, List.set_cons_zero, List.set_cons_succ]
          refine wpAnyH_take (i := 5) (v := ?_) rfl (by kernel_rfl) (by kernel_rfl) (by kernel_rfl) (fun _ _ _ h => h) (Or.inl ⟨by rfl, ?_⟩) (by assumption) ?_
          rotate_left
          · intro w hSw; (try dsimp only at hSw); go_simp; (try (with_reducible rfl))
          try simp only [List.getElem_toArray, List.getElem_cons_succ, List.getElem_cons_zero, Act.put, List.setIfInBounds_toArray, List.set_cons_zero, List.set_cons_succ]
          refine wpAnyH_take (i := 8) (v := ?_) rfl (by kernel_rfl) (by kernel_rfl) (by kernel_rfl) (fun _ _ _ h => h) (Or.inl ⟨by rfl, ?_⟩) (by assumption) ?_
          rotate_left
          · intro w hSw; (try dsimp only at hSw); go_simp; (try (with_reducible rfl))
          try simp only [List.getElem_toArray, List.getElem_cons_succ, List.getElem_cons_zero, Act.put, List.setIfInBounds_toArray, List.set_cons_zero, List.set_cons_succ]
          refine wpAnyH_take (i := 9) (v := ?_) rfl (by kernel_rfl) (by kernel_rfl) (by kernel_rfl) (fun _ _ _ h => h) (Or.inl ⟨by rfl, ?_⟩) (by assumption) ?_
          rotate_left
          · intro w hSw; (try dsimp only at hSw); go_simp; (try (with_reducible rfl))
          try simp only [List.getElem_toArray, List.getElem_cons_succ, List.getElem_cons_zero, Act.put, List.setIfInBounds_toArray, List.set_cons_zero, List.set_cons_succ]
          refine wpAnyH_take (i := 10) (v := ?_) rfl (by kernel_rfl) (by kernel_rfl) (by kernel_rfl) (fun _ _ _ h => h) (Or.inl ⟨by rfl, ?_⟩) (by assumption) ?_
          rotate_left
          · intro w hSw; (try dsimp only at hSw); go_simp; (try (with_reducible rfl))
          try simp only [List.getElem_toArray, List.getElem_cons_succ, List.getElem_cons_zero, Act.put, List.setIfInBounds_toArray, List.set_cons_zero, List.set_cons_succ]
          refine wpAnyH_take (i := 11) (v := ?_) rfl (by kernel_rfl) (by kernel_rfl) (by kernel_rfl) (fun _ _ _ h => h) (Or.inl ⟨by rfl, ?_⟩) (by assumption) ?_
          rotate_left
          · intro w hSw; (try dsimp only at hSw); go_simp; (try (with_reducible rfl))
          try simp only [List.getElem_toArray, List.getElem_cons_succ, List.getElem_cons_zero, Act.put, List.setIfInBounds_toArray, List.set_cons_zero, List.set_cons_succ]
          refine wpAnyH_take (i := 12) (v := ?_) rfl (by kernel_rfl) (by kernel_rfl) (by kernel_rfl) (fun _ _ _ h => h) (Or.inl ⟨by rfl, ?_⟩) (by assumption) ?_
          rotate_left
          · intro w hSw; (try dsimp only at hSw); go_simp; (try (with_reducible rfl))
          try simp only [List.getElem_toArray, List.getElem_cons_succ, List.getElem_cons_zero, Act.put, List.setIfInBounds_toArray, List.set_cons_zero, List.set_cons_succ]
          refine wpAnyH_take (i := 13) (v := ?_) rfl (by kernel_rfl) (by kernel_rfl) (by kernel_rfl) (fun _ _ _ h => h) (Or.inl ⟨by rfl, ?_⟩) (by assumption) ?_
          rotate_left
          · intro w hSw; (try dsimp only at hSw); go_simp; (try (with_reducible rfl))
          try simp only [List.getElem_toArray, List.getElem_cons_succ, List.getElem_cons_zero, Act.put, List.setIfInBounds_toArray, List.set_cons_zero, List.set_cons_succ]
          have HRa := Lib.hid HRr.out.drew
          have HBa := Lib.hid HBr.out.drew
          obtain ⟨Wa, hWa⟩ : ∃ W, (W4a1).drew = W := ⟨_, rfl⟩
          rw [hWa] at HRa HBa hHeld ⊢
          clear hWa
          refine wpAnyH_ready (rs := [6, 14]) (by kernel_rfl) (by simp) ?_
          refine (AllReadyH.cons rfl (fun K hK => ?_) (AllReadyH.cons rfl (fun K hK => ?_) AllReadyH.nil))
          · go_simp
            refine hK.out _ _ ?_ (fun hHeld => ?_)
            · clear hK K; exact HQ16.out _ (HBa.out.alloc HBa.out.size _)
            clear hK K
            try simp only [List.getElem_toArray, List.getElem_cons_succ, List.getElem_cons_zero, Act.put, List.setIfInBounds_toArray, List.set_cons_zero, List.set_cons_succ]
            have RW1b0 := Lib.hid (HRa.out.alloc (.cells #[.int .i64 s] 3))
            have BW1b0 := Lib.hid (HBa.out.alloc HBa.out.size (.cells #[.int .i64 s] 3))
            have CW1b0 : Hid ((Wa.alloc (.cells #[.int .i64 s] 3)).cell? ⟨Wa.heap.size, 0, none⟩ = some (.int .i64 s)) := by show _ = _; simp [go_sem]
            obtain ⟨W1b0, hW1b0⟩ : ∃ W, Wa.alloc (.cells #[.int .i64 s] 3) = W := ⟨_, rfl⟩
            rw [hW1b0] at RW1b0 BW1b0 CW1b0 hHeld ⊢
            clear hW1b0
            refine wpAnyH_ready (rs := [7, 14]) (by kernel_rfl) (by simp) ?_
            refine (AllReadyH.cons rfl (fun K hK => ?_) (AllReadyH.cons rfl (fun K hK => ?_) AllReadyH.nil))
            · refine step_append_at _ rfl (.tmp 110) (.tmp 116) 30 rfl wL.heap.size 3 i0 _ 1 8 Try.underlying30 hi0 hz0 hz1 hz2 rfl (by decide) _ x3.length _ rfl (RW1b0.out.1 (v3, x3) (by simp)) ⟨Wa.heap.size, 0, none⟩ 1 1 [.int .i64 s] rfl rfl (src1 CW1b0.out) (by simp [Value.oneCell']) (by simp only [maxLen]; omega) (by omega) BW1b0.out.size ?_
              intro v20n2 W2a0 hown' hgrow _ hat
              have BW2a0 := Lib.hid (BW1b0.out.grown hgrow BW1b0.out.size (fun z e => ((RW1b0.out.1 (v3, x3) (by simp)).lt z e).1))
              have RW2a0 : Hid (Rows4 W2a0 wL.heap.size [(v20n0, (x1 ++ [l])), (v41n1, (x2 ++ [r])), (v20n2, (x3 ++ [s])), (v4, x4)]) := Rows4.step (pre := [(v20n0, (x1 ++ [l])), (v41n1, (x2 ++ [r]))]) (post := [(v4, x4)]) RW1b0.out hown' hgrow hat
              refine hK.out _ _ ?_ (fun hHeld => ?_)
              · clear hK K; exact HQ16.out _ BW2a0.out
              clear hK K hown' hgrow hat
              try simp only [List.getElem_toArray, List.getElem_cons_succ, List.getElem_cons_zero, Act.put, List.setIfInBounds_toArray, List.set_cons_zero, List.set_cons_succ]
              refine wpAnyH_ready (rs := [14]) (by kernel_rfl) (by simp) ?_
              refine (AllReadyH.cons rfl (fun K hK => ?_) AllReadyH.nil)
              go_simp
              refine hK.out _ _ ?_ (fun hHeld => ?_)
              · clear hK K; exact HQ16.out _ (BW2a0.out.alloc BW2a0.out.size _)
              clear hK K
              try simp only [List.getElem_toArray, List.getElem_cons_succ, List.getElem_cons_zero, Act.put, List.setIfInBounds_toArray, List.set_cons_zero, List.set_cons_succ]
              have RW3b1 := Lib.hid (RW2a0.out.alloc (.cells #[.int .i64 u] 3))
              have BW3b1 := Lib.hid (BW2a0.out.alloc BW2a0.out.size (.cells #[.int .i64 u] 3))
              have CW3b1 : Hid ((W2a0.alloc (.cells #[.int .i64 u] 3)).cell? ⟨W2a0.heap.size, 0, none⟩ = some (.int .i64 u)) := by show _ = _; simp [go_sem]
              obtain ⟨W3b1, hW3b1⟩ : ∃ W, W2a0.alloc (.cells #[.int .i64 u] 3) = W := ⟨_, rfl⟩
              rw [hW3b1] at RW3b1 BW3b1 CW3b1 hHeld ⊢
              clear hW3b1
              refine wpAnyH_ready (rs := [15]) (by kernel_rfl) (by simp) ?_
              refine (AllReadyH.cons rfl (fun K hK => ?_) AllReadyH.nil)
              refine step_append_at _ rfl (.tmp 118) (.tmp 124) 30 rfl wL.heap.size 3 i0 _ 1 8 Try.underlying30 hi0 hz0 hz1 hz2 rfl (by decide) _ x4.length _ rfl (RW3b1.out.1 (v4, x4) (by simp)) ⟨W2a0.heap.size, 0, none⟩ 1 1 [.int .i64 u] rfl rfl (src1 CW3b1.out) (by simp [Value.oneCell']) (by simp only [maxLen]; omega) (by omega) BW3b1.out.size ?_
              intro v41n3 W4a1 hown' hgrow _ hat
              have BW4a1 := Lib.hid (BW3b1.out.grown hgrow BW3b1.out.size (fun z e => ((RW3b1.out.1 (v4, x4) (by simp)).lt z e).1))
              have RW4a1 : Hid (Rows4 W4a1 wL.heap.size [(v20n0, (x1 ++ [l])), (v41n1, (x2 ++ [r])), (v20n2, (x3 ++ [s])), (v41n3, (x4 ++ [u]))]) := Rows4.step (pre := [(v20n0, (x1 ++ [l])), (v41n1, (x2 ++ [r])), (v20n2, (x3 ++ [s]))]) (post := []) RW3b1.out hown' hgrow hat
              refine hK.out _ _ ?_ (fun hHeld => ?_)
              · clear hK K; exact HQ16.out _ BW4a1.out
              clear hK K hown' hgrow hat
              try simp only [List.getElem_toArray, List.getElem_cons_succ, List.getElem_cons_zero, Act.put, List.setIfInBounds_toArray, List.set_cons_zero, List.set_cons_succ]
              refine wpAnyH_take (i := 16) (v := ?_) rfl (by kernel_rfl) (by kernel_rfl) (by kernel_rfl) (fun _ _ _ h => h) (Or.inl ⟨by rfl, ?_⟩) (by assumption) ?_
              rotate_left
              · intro w hSw; (try dsimp only at hSw); go_simp; (try (with_reducible rfl))
              try simp only [List.getElem_toArray, List.getElem_cons_succ, List.getElem_cons_zero, Act.put, List.setIfInBounds_toArray, List.set_cons_zero, List.set_cons_succ]
              refine wpAnyH_take (i := 17) (v := ?_) rfl (by kernel_rfl) (by kernel_rfl) (by kernel_rfl) (fun _ _ _ h => h) (Or.inl ⟨by rfl, ?_⟩) (by assumption) ?_
              rotate_left
              · intro w hSw; (try dsimp only at hSw); go_simp; (try (with_reducible rfl))
              try simp only [List.getElem_toArray, List.getElem_cons_succ, List.getElem_cons_zero, Act.put, List.setIfInBounds_toArray, List.set_cons_zero, List.set_cons_succ]
              refine wpAnyH_done (by kernel_rfl) ?_ _
              clear hHeld
              have HFIN : Hid (Rows4 W4a1 wL.heap.size [(v20n0, chan Prod.fst (ws.take (j + 1))), (v41n1, chan Prod.snd (ws.take (j + 1))), (v20n2, chan latP (ws.take (j + 1))), (v41n3, chan widP (ws.take (j + 1)))] ∧ Below wL.heap.size wL W4a1) := by
                show _ ∧ _
                rw [HT1.out, HT2.out, HT3.out, HT4.out]
                exact ⟨RW4a1.out, BW4a1.out⟩
              go_wp2
              go_roundw
              case rel => exact ⟨j + 1, by omega, by go_num, _, _, _, _, rfl, rfl, rfl, rfl, HFIN.out⟩
              case measure => simp [intOf]; omega
            · go_simp
              refine hK.out _ _ ?_ (fun hHeld => ?_)
              · clear hK K; exact HQ16.out _ (BW1b0.out.alloc BW1b0.out.size _)
              clear hK K
              try simp only [List.getElem_toArray, List.getElem_cons_succ, List.getElem_cons_zero, Act.put, List.setIfInBounds_toArray, List.set_cons_zero, List.set_cons_succ]
              have RW2b1 := Lib.hid (RW1b0.out.alloc (.cells #[.int .i64 u] 3))
              have BW2b1 := Lib.hid (BW1b0.out.alloc BW1b0.out.size (.cells #[.int .i64 u] 3))
              have CW2b1 : Hid ((W1b0.alloc (.cells #[.int .i64 u] 3)).cell? ⟨W1b0.heap.size, 0, none⟩ = some (.int .i64 u)) := by show _ = _; simp [go_sem]
              have CW2b10 := Lib.hid (cellA (.cells #[.int .i64 u] 3) CW1b0.out)
              have NW2b1 : Hid (v3.ownBlock ≠ some W1b0.heap.size) := fun e => by have h := ((RW1b0.out.1 (v3, x3) (by simp)).lt _ e).2; omega
              obtain ⟨W2b1, hW2b1⟩ : ∃ W, W1b0.alloc (.cells #[.int .i64 u] 3) = W := ⟨_, rfl⟩
              rw [hW2b1] at RW2b1 BW2b1 CW2b1 CW2b10 hHeld ⊢
              clear hW2b1
              refine wpAnyH_ready (rs := [7]) (by kernel_rfl) (by simp) ?_
              refine (AllReadyH.cons rfl (fun K hK => ?_) AllReadyH.nil)
              refine step_append_at _ rfl (.tmp 110) (.tmp 116) 30 rfl wL.heap.size 3 i0 _ 1 8 Try.underlying30 hi0 hz0 hz1 hz2 rfl (by decide) _ x3.length _ rfl (RW2b1.out.1 (v3, x3) (by simp)) ⟨Wa.heap.size, 0, none⟩ 1 1 [.int .i64 s] rfl rfl (src1 CW2b10.out) (by simp [Value.oneCell']) (by simp only [maxLen]; omega) (by omega) BW2b1.out.size ?_
              intro v30n2 W3a0 hown' hgrow _ hat
              have BW3a0 := Lib.hid (BW2b1.out.grown hgrow BW2b1.out.size (fun z e => ((RW2b1.out.1 (v3, x3) (by simp)).lt z e).1))
              have RW3a0 : Hid (Rows4 W3a0 wL.heap.size [(v20n0, (x1 ++ [l])), (v41n1, (x2 ++ [r])), (v30n2, (x3 ++ [s])), (v4, x4)]) := Rows4.step (pre := [(v20n0, (x1 ++ [l])), (v41n1, (x2 ++ [r]))]) (post := [(v4, x4)]) RW2b1.out hown' hgrow hat
              have CW3a01 := Lib.hid (cellG CW2b1.out hgrow NW2b1.out)
              refine hK.out _ _ ?_ (fun hHeld => ?_)
              · clear hK K; exact HQ16.out _ BW3a0.out
              clear hK K hown' hgrow hat
              try simp only [List.getElem_toArray, List.getElem_cons_succ, List.getElem_cons_zero, Act.put, List.setIfInBounds_toArray, List.set_cons_zero, List.set_cons_succ]
              refine wpAnyH_ready (rs := [15]) (by kernel_rfl) (by simp) ?_
              refine (AllReadyH.cons rfl (fun K hK => ?_) AllReadyH.nil)
              refine step_append_at _ rfl (.tmp 118) (.tmp 124) 30 rfl wL.heap.size 3 i0 _ 1 8 Try.underlying30 hi0 hz0 hz1 hz2 rfl (by decide) _ x4.length _ rfl (RW3a0.out.1 (v4, x4) (by simp)) ⟨W1b0.heap.size, 0, none⟩ 1 1 [.int .i64 u] rfl rfl (src1 CW3a01.out) (by simp [Value.oneCell']) (by simp only [maxLen]; omega) (by omega) BW3a0.out.size ?_
              intro v41n3 W4a1 hown' hgrow _ hat
              have BW4a1 := Lib.hid (BW3a0.out.grown hgrow BW3a0.out.size (fun z e => ((RW3a0.out.1 (v4, x4) (by simp)).lt z e).1))
              have RW4a1 : Hid (Rows4 W4a1 wL.heap.size [(v20n0, (x1 ++ [l])), (v41n1, (x2 ++ [r])), (v30n2, (x3 ++ [s])), (v41n3, (x4 ++ [u]))]) := Rows4.step (pre := [(v20n0, (x1 ++ [l])), (v41n1, (x2 ++ [r])), (v30n2, (x3 ++ [s]))]) (post := []) RW3a0.out hown' hgrow hat
              refine hK.out _ _ ?_ (fun hHeld => ?_)
              · clear hK K; exact HQ16.out _ BW4a1.out
              clear hK K hown' hgrow hat
              try simp only [List.getElem_toArray, List.getElem_cons_succ, List.getElem_cons_zero, Act.put, List.setIfInBounds_toArray, List.set_cons_zero, List.set_cons_succ]
              refine wpAnyH_take (i := 16) (v := ?_) rfl (by kernel_rfl) (by kernel_rfl) (by kernel_rfl) (fun _ _ _ h => h) (Or.inl ⟨by rfl, ?_⟩) (by assumption) ?_
              rotate_left
              · intro w hSw; (try dsimp only at hSw); go_simp; (try (with_reducible rfl))
              try simp only [List.getElem_toArray, List.getElem_cons_succ, List.getElem_cons_zero, Act.put, List.setIfInBounds_toArray, List.set_cons_zero, List.set_cons_succ]
              refine wpAnyH_take (i := 17) (v := ?_) rfl (by kernel_rfl) (by kernel_rfl) (by kernel_rfl) (fun _ _ _ h => h) (Or.inl ⟨by rfl, ?_⟩) (by assumption) ?_
              rotate_left
              · intro w hSw; (try dsimp only at hSw); go_simp; (try (with_reducible rfl))
              try simp only [List.getElem_toArray, List.getElem_cons_succ, List.getElem_cons_zero, Act.put, List.setIfInBounds_toArray, List.set_cons_zero, List.set_cons_succ]
              refine wpAnyH_done (by kernel_rfl) ?_ _
              clear hHeld
              have HFIN : Hid (Rows4 W4a1 wL.heap.size [(v20n0, chan Prod.fst (ws.take (j + 1))), (v41n1, chan Prod.snd (ws.take (j + 1))), (v30n2, chan latP (ws.take (j + 1))), (v41n3, chan widP (ws.take (j + 1)))] ∧ Below wL.heap.size wL W4a1) := by
                show _ ∧ _
                rw [HT1.out, HT2.out, HT3.out, HT4.out]
                exact ⟨RW4a1.out, BW4a1.out⟩
              go_wp2
              go_roundw
              case rel => exact ⟨j + 1, by omega, by go_num, _, _, _, _, rfl, rfl, rfl, rfl, HFIN.out⟩
              case measure => simp [intOf]; omega
          · go_simp
            refine hK.out _ _ ?_ (fun hHeld => ?_)
            · clear hK K; exact HQ16.out _ (HBa.out.alloc HBa.out.size _)
            clear hK K
            try simp only [List.getElem_toArray, List.getElem_cons_succ, List.getElem_cons_zero, Act.put, List.setIfInBounds_toArray, List.set_cons_zero, List.set_cons_succ]
            have RW1b1 := Lib.hid (HRa.out.alloc (.cells #[.int .i64 u] 3))
            have BW1b1 := Lib.hid (HBa.out.alloc HBa.out.size (.cells #[.int .i64 u] 3))
            have CW1b1 : Hid ((Wa.alloc (.cells #[.int .i64 u] 3)).cell? ⟨Wa.heap.size, 0, none⟩ = some (.int .i64 u)) := by show _ = _; simp [go_sem]
            have NW1b1 : Hid (v3.ownBlock ≠ some Wa.heap.size) := fun e => by have h := ((HRa.out.1 (v3, x3) (by simp)).lt _ e).2; omega
            obtain ⟨W1b1, hW1b1⟩ : ∃ W, Wa.alloc (.cells #[.int .i64 u] 3) = W := ⟨_, rfl⟩
            rw [hW1b1] at RW1b1 BW1b1 CW1b1 hHeld ⊢
            clear hW1b1
            refine wpAnyH_ready (rs := [6]) (by kernel_rfl) (by simp) ?_
            refine (AllReadyH.cons rfl (fun K hK => ?_) AllReadyH.nil)
            go_simp
            refine hK.out _ _ ?_ (fun hHeld => ?_)
            · clear hK K; exact HQ16.out _ (BW1b1.out.alloc BW1b1.out.size _)
            clear hK K
            try simp only [List.getElem_toArray, List.getElem_cons_succ, List.getElem_cons_zero, Act.put, List.setIfInBounds_toArray, List.set_cons_zero, List.set_cons_succ]
            have RW2b0 := Lib.hid (RW1b1.out.alloc (.cells #[.int .i64 s] 3))
            have BW2b0 := Lib.hid (BW1b1.out.alloc BW1b1.out.size (.cells #[.int .i64 s] 3))
            have CW2b0 : Hid ((W1b1.alloc (.cells #[.int .i64 s] 3)).cell? ⟨W1b1.heap.size, 0, none⟩ = some (.int .i64 s)) := by show _ = _; simp [go_sem]
            have CW2b01 := Lib.hid (cellA (.cells #[.int .i64 s] 3) CW1b1.out)
            obtain ⟨W2b0, hW2b0⟩ : ∃ W, W1b1.alloc (.cells #[.int .i64 s] 3) = W := ⟨_, rfl⟩
            rw [hW2b0] at RW2b0 BW2b0 CW2b0 CW2b01 hHeld ⊢
            clear hW2b0
            refine wpAnyH_ready (rs := [7]) (by kernel_rfl) (by simp) ?_
            refine (AllReadyH.cons rfl (fun K hK => ?_) AllReadyH.nil)
            refine step_append_at _ rfl (.tmp 110) (.tmp 116) 30 rfl wL.heap.size 3 i0 _ 1 8 Try.underlying30 hi0 hz0 hz1 hz2 rfl (by decide) _ x3.length _ rfl (RW2b0.out.1 (v3, x3) (by simp)) ⟨W1b1.heap.size, 0, none⟩ 1 1 [.int .i64 s] rfl rfl (src1 CW2b0.out) (by simp [Value.oneCell']) (by simp only [maxLen]; omega) (by omega) BW2b0.out.size ?_
            intro v30n2 W3a0 hown' hgrow _ hat
            have BW3a0 := Lib.hid (BW2b0.out.grown hgrow BW2b0.out.size (fun z e => ((RW2b0.out.1 (v3, x3) (by simp)).lt z e).1))
            have RW3a0 : Hid (Rows4 W3a0 wL.heap.size [(v20n0, (x1 ++ [l])), (v41n1, (x2 ++ [r])), (v30n2, (x3 ++ [s])), (v4, x4)]) := Rows4.step (pre := [(v20n0, (x1 ++ [l])), (v41n1, (x2 ++ [r]))]) (post := [(v4, x4)]) RW2b0.out hown' hgrow hat
            have CW3a01 := Lib.hid (cellG CW2b01.out hgrow NW1b1.out)
            refine hK.out _ _ ?_ (fun hHeld => ?_)
            · clear hK K; exact HQ16.out _ BW3a0.out
            clear hK K hown' hgrow hat
            try simp only [List.getElem_toArray, List.getElem_cons_succ, List.getElem_cons_zero, Act.put, List.setIfInBounds_toArray, List.set_cons_zero, List.set_cons_succ]
            refine wpAnyH_ready (rs := [15]) (by kernel_rfl) (by simp) ?_
            refine (AllReadyH.cons rfl (fun K hK => ?_) AllReadyH.nil)
            refine step_append_at _ rfl (.tmp 118) (.tmp 124) 30 rfl wL.heap.size 3 i0 _ 1 8 Try.underlying30 hi0 hz0 hz1 hz2 rfl (by decide) _ x4.length _ rfl (RW3a0.out.1 (v4, x4) (by simp)) ⟨Wa.heap.size, 0, none⟩ 1 1 [.int .i64 u] rfl rfl (src1 CW3a01.out) (by simp [Value.oneCell']) (by simp only [maxLen]; omega) (by omega) BW3a0.out.size ?_
            intro v41n3 W4a1 hown' hgrow _ hat
            have BW4a1 := Lib.hid (BW3a0.out.grown hgrow BW3a0.out.size (fun z e => ((RW3a0.out.1 (v4, x4) (by simp)).lt z e).1))
            have RW4a1 : Hid (Rows4 W4a1 wL.heap.size [(v20n0, (x1 ++ [l])), (v41n1, (x2 ++ [r])), (v30n2, (x3 ++ [s])), (v41n3, (x4 ++ [u]))]) := Rows4.step (pre := [(v20n0, (x1 ++ [l])), (v41n1, (x2 ++ [r])), (v30n2, (x3 ++ [s]))]) (post := []) RW3a0.out hown' hgrow hat
            refine hK.out _ _ ?_ (fun hHeld => ?_)
            · clear hK K; exact HQ16.out _ BW4a1.out
            clear hK K hown' hgrow hat
            try simp only [List.getElem_toArray, List.getElem_cons_succ, List.getElem_cons_zero, Act.put, List.setIfInBounds_toArray, List.set_cons_zero, List.set_cons_succ]
            refine wpAnyH_take (i := 16) (v := ?_) rfl (by kernel_rfl) (by kernel_rfl) (by kernel_rfl) (fun _ _ _ h => h) (Or.inl ⟨by rfl, ?_⟩) (by assumption) ?_
            rotate_left
            · intro w hSw; (try dsimp only at hSw); go_simp; (try (with_reducible rfl))
            try simp only [List.getElem_toArray, List.getElem_cons_succ, List.getElem_cons_zero, Act.put, List.setIfInBounds_toArray, List.set_cons_zero, List.set_cons_succ]
            refine wpAnyH_take (i := 17) (v := ?_) rfl (by kernel_rfl) (by kernel_rfl) (by kernel_rfl) (fun _ _ _ h => h) (Or.inl ⟨by rfl, ?_⟩) (by assumption) ?_
            rotate_left
            · intro w hSw; (try dsimp only at hSw); go_simp; (try (with_reducible rfl))
            try simp only [List.getElem_toArray, List.getElem_cons_succ, List.getElem_cons_zero, Act.put, List.setIfInBounds_toArray, List.set_cons_zero, List.set_cons_succ]
            refine wpAnyH_done (by kernel_rfl) ?_ _
            clear hHeld
            have HFIN : Hid (Rows4 W4a1 wL.heap.size [(v20n0, chan Prod.fst (ws.take (j + 1))), (v41n1, chan Prod.snd (ws.take (j + 1))), (v30n2, chan latP (ws.take (j + 1))), (v41n3, chan widP (ws.take (j + 1)))] ∧ Below wL.heap.size wL W4a1) := by
              show _ ∧ _
              rw [HT1.out, HT2.out, HT3.out, HT4.out]
              exact ⟨RW4a1.out, BW4a1.out⟩
            go_wp2
            go_roundw
            case rel => exact ⟨j + 1, by omega, by go_num, _, _, _, _, rfl, rfl, rfl, rfl, HFIN.out⟩
            case measure => simp [intOf]; omega
        · go_simp
          refine hK.out _ _ ?_ (fun hHeld => ?_)
          · clear hK K; exact HQ15.out _ (BW1b0.out.alloc BW1b0.out.size _)
          clear hK K
          try simp only [List.getElem_toArray, List.getElem_cons_succ, List.getElem_cons_zero, Act.put, List.setIfInBounds_toArray, List.set_cons_zero, List.set_cons_succ]
          have RW2b1 := Lib.hid (RW1b0.out.alloc (.cells #[.int .i64 r] 3))
          have BW2b1 := Lib.hid (BW1b0.out.alloc BW1b0.out.size (.cells #[.int .i64 r] 3))
          have CW2b1 : Hid ((W1b0.alloc (.cells #[.int .i64 r] 3)).cell? ⟨W1b0.heap.size, 0, none⟩ = some (.int .i64 r)) := by show _ = _; simp [go_sem]
          have CW2b10 := Lib.hid (cellA (.cells #[.int .i64 r] 3) CW1b0.out)
          have NW2b1 : Hid (v1.ownBlock ≠ some W1b0.heap.size) := fun e => by have h := ((RW1b0.out.1 (v1, x1) (by simp)).lt _ e).2; omega
          obtain ⟨W2b1, hW2b1⟩ : ∃ W, W1b0.alloc (.cells #[.int .i64 r] 3) = W := ⟨_, rfl⟩
          rw [hW2b1] at RW2b1 BW2b1 CW2b1 CW2b10 hHeld ⊢
          clear hW2b1
          refine wpAnyH_ready (rs := [7]) (by kernel_rfl) (by simp) ?_
          refine (AllReadyH.cons rfl (fun K hK => ?_) AllReadyH.nil)
          refine step_append_at _ rfl (.tmp 94) (.tmp 100) 30 rfl wL.heap.size 3 i0 _ 1 8 Try.underlying30 hi0 hz0 hz1 hz2 rfl (by decide) _ x1.length _ rfl (RW2b1.out.1 (v1, x1) (by simp)) ⟨Wa.heap.size, 0, none⟩ 1 1 [.int .i64 l] rfl rfl (src1 CW2b10.out) (by simp [Value.oneCell']) (by simp only [maxLen]; omega) (by omega) BW2b1.out.size ?_
          intro v30n0 W3a0 hown' hgrow _ hat
          have BW3a0 := Lib.hid (BW2b1.out.grown hgrow BW2b1.out.size (fun z e => ((RW2b1.out.1 (v1, x1) (by simp)).lt z e).1))
          have RW3a0 : Hid (Rows4 W3a0 wL.heap.size [(v30n0, (x1 ++ [l])), (v2, x2), (v3, x3), (v4, x4)]) := Rows4.step (pre := []) (post := [(v2, x2), (v3, x3), (v4, x4)]) RW2b1.out hown' hgrow hat
          have CW3a01 := Lib.hid (cellG CW2b1.out hgrow NW2b1.out)
          refine hK.out _ _ ?_ (fun hHeld => ?_)
          · clear hK K; exact HQ15.out _ BW3a0.out
          clear hK K hown' hgrow hat
          try simp only [List.getElem_toArray, List.getElem_cons_succ, List.getElem_cons_zero, Act.put, List.setIfInBounds_toArray, List.set_cons_zero, List.set_cons_succ]
          refine wpAnyH_ready (rs := [15]) (by kernel_rfl) (by simp) ?_
          refine (AllReadyH.cons rfl (fun K hK => ?_) AllReadyH.nil)
          refine step_append_at _ rfl (.tmp 102) (.tmp 108) 30 rfl wL.heap.size 3 i0 _ 1 8 Try.underlying30 hi0 hz0 hz1 hz2 rfl (by decide) _ x2.length _ rfl (RW3a0.out.1 (v2, x2) (by simp)) ⟨W1b0.heap.size, 0, none⟩ 1 1 [.int .i64 r] rfl rfl (src1 CW3a01.out) (by simp [Value.oneCell']) (by simp only [maxLen]; omega) (by omega) BW3a0.out.size ?_
          intro v41n1 W4a1 hown' hgrow _ hat
          have BW4a1 := Lib.hid (BW3a0.out.grown hgrow BW3a0.out.size (fun z e => ((RW3a0.out.1 (v2, x2) (by simp)).lt z e).1))
          have RW4a1 : Hid (Rows4 W4a1 wL.heap.size [(v30n0, (x1 ++ [l])), (v41n1, (x2 ++ [r])), (v3, x3), (v4, x4)]) := Rows4.step (pre := [(v30n0, (x1 ++ [l]))]) (post := [(v3, x3), (v4, x4)]) RW3a0.out hown' hgrow hat
          refine hK.out _ _ ?_ (fun hHeld => ?_)
          · clear hK K; exact HQ15.out _ BW4a1.out
          clear hK K hown' hgrow hat
          try simp only [List.getElem_toArray, List.getElem_cons_succ, List.getElem_cons_zero, Act.put, List.setIfInBounds_toArray, List.set_cons_zero, List.set_cons_succ]
          refine wpAnyH_take (i := 16) (v := ?_) rfl (by kernel_rfl) (by kernel_rfl) (by kernel_rfl) (fun _ _ _ h => h) (Or.inl ⟨by rfl, ?_⟩) (by assumption) ?_
          rotate_left
          · intro w hSw; (try dsimp only at hSw); go_simp; (try (with_reducible rfl))
          try simp only [List.getElem_toArray, List.getElem_cons_succ, List.getElem_cons_zero, Act.put, List.setIfInBounds_toArray, List.set_cons_zero, List.set_cons_succ]
          refine wpAnyH_take (i := 17) (v := ?_) rfl (by kernel_rfl) (by kernel_rfl) (by kernel_rfl) (fun _ _ _ h => h) (Or.inl ⟨by rfl, ?_⟩) (by assumption) ?_
          rotate_left
          · intro w hSw; (try dsimp only at hSw); go_simp; (try (with_reducible rfl))
          try simp only [List.getElem_toArray, List.getElem_cons_succ, List.getElem_cons_zero, Act.put, List.setIfInBounds_toArray, List.set_cons_zero, List.set_cons_succ]
          refine wpAnyH_done (by kernel_rfl) ?_ _
          clear hHeld
          go_wp2_with fail
          have HRr := RW4a1
          have HBr := BW4a1
          refine wp_region_held_drew (S := (fun w' : World => w'.cell? ⟨gm, j * 2, none⟩ = some (.int .i64 s) ∧ w'.cell? ⟨gm, j * 2 + 1, none⟩ = some (.int .i64 u))) (by kernel_rfl) ?_ ?_
          · exact HQ16.out _ HBr.out.drew
          intro hHeld
          refine wpAnyH_take (i := 0) (v := ?_) rfl (by kernel_rfl) (by kernel_rfl) (by kernel_rfl) (fun _ _ _ h => h) (Or.inl ⟨by rfl, ?_⟩) (by assumption) ?_
          rotate_left
          · intro w hSw; (try dsimp only at hSw); go_simp; (try (with_reducible rfl))
          try simp only [List.getElem_toArray, List.getElem_cons_succ, List.getElem_cons_zero, Act.put, List.setIfInBounds_toArray, List.set_cons_zero, List.set_cons_succ]
          refine wpAnyH_take (i := 1) (v := ?_) rfl (by kernel_rfl) (by kernel_rfl) (by kernel_rfl) (fun _ _ _ h => h) (Or.inl ⟨by rfl, ?_⟩) (by assumption) ?_
          rotate_left
          · intro w hSw; (try dsimp only at hSw); go_simp; (try (with_reducible rfl))
          try simp only [List.getElem_toArray, List.getElem_cons_succ, List.getElem_cons_zero, Act.put, List.setIfInBounds_toArray, List.set_cons_zero, List.set_cons_succ]
          refine wpAnyH_take (i := 2) (v := ?_) rfl (by kernel_rfl) (by kernel_rfl) (by kernel_rfl) (fun _ _ _ h => h) (Or.inl ⟨by rfl, ?_⟩) (by assumption) ?_
          rotate_left
          · intro w hSw; (try dsimp only at hSw); go_simp; (try (with_reducible rfl))
          try simp only [List.getElem_toArray, List.getElem_cons_succ, List.getElem_cons_zero, Act.put, List.setIfInBounds_toArray, List.set_cons_zero, List.set_cons_succ]
          refine wpAnyH_take (i := 3) (v := ?_) rfl (by kernel_rfl) (by kernel_rfl) (by kernel_rfl) (fun _ _ _ h => h) (Or.inl ⟨by rfl, ?_⟩) (by assumption) ?_
          rotate_left
          · intro w hSw; (try dsimp only at hSw); go_simp; (try (with_reducible rfl))
          try simp only [List.getElem_toArray, List.getElem_cons_succ, List.getElem_cons_zero, Act.put, List.setIfInBounds_toArray, List.set_cons_zero, List.set_cons_succ]
          refine wpAnyH_take (i := 4) (v := ?_) rfl (by kernel_rfl) (by kernel_rfl) (by kernel_rfl) (fun _ _ _ h => h) (Or.inl ⟨by rfl, ?_⟩) (by assumption) ?_
          rotate_left
          · intro w hSw; (try dsimp only at hSw); go_simp; (try (with_reducible rfl))
          try simp only [List.getElem_toArray, List.getElem_cons_succ, List.getElem_cons_zero, Act.put, List.setIfInBounds_toArray, List.set_cons_zero, List.set_cons_succ]
          refine wpAnyH_take (i := 5) (v := ?_) rfl (by kernel_rfl) (by kernel_rfl) (by kernel_rfl) (fun _ _ _ h => h) (Or.inl ⟨by rfl, ?_⟩) (by assumption) ?_
          rotate_left
          · intro w hSw; (try dsimp only at hSw); go_simp; (try (with_reducible rfl))
          try simp only [List.getElem_toArray, List.getElem_cons_succ, List.getElem_cons_zero, Act.put, List.setIfInBounds_toArray, List.set_cons_zero, List.set_cons_succ]
          refine wpAnyH_take (i := 8) (v := ?_) rfl (by kernel_rfl) (by kernel_rfl) (by kernel_rfl) (fun _ _ _ h => h) (Or.inl ⟨by rfl, ?_⟩) (by assumption) ?_
          rotate_left
          · intro w hSw; (try dsimp only at hSw); go_simp; (try (with_reducible rfl))
          try simp only [List.getElem_toArray, List.getElem_cons_succ, List.getElem_cons_zero, Act.put, List.setIfInBounds_toArray, List.set_cons_zero, List.set_cons_succ]
          refine wpAnyH_take (i := 9) (v := ?_) rfl (by kernel_rfl) (by kernel_rfl) (by kernel_rfl) (fun _ _ _ h => h) (Or.inl ⟨by rfl, ?_⟩) (by assumption) ?_
          rotate_left
          · intro w hSw; (try dsimp only at hSw); go_simp; (try (with_reducible rfl))
          try simp only [List.getElem_toArray, List.getElem_cons_succ, List.getElem_cons_zero, Act.put, List.setIfInBounds_toArray, List.set_cons_zero, List.set_cons_succ]
          refine wpAnyH_take (i := 10) (v := ?_) rfl (by kernel_rfl) (by kernel_rfl) (by kernel_rfl) (fun _ _ _ h => h) (Or.inl ⟨by rfl, ?_⟩) (by assumption) ?_
          rotate_left
          · intro w hSw; (try dsimp only at hSw); go_simp; (try (with_reducible rfl))
          try simp only [List.getElem_toArray, List.getElem_cons_succ, List.getElem_cons_zero, Act.put, List.setIfInBounds_toArray, List.set_cons_zero, List.set_cons_succ]
          refine wpAnyH_take (i := 11) (v := ?_) rfl (by kernel_rfl) (by kernel_rfl) (by kernel_rfl) (fun _ _ _ h => h) (Or.inl ⟨by rfl, ?_⟩) (by assumption) ?_
          rotate_left
          · intro w hSw; (try dsimp only at hSw); go_simp; (try (with_reducible rfl))
          try simp only [List.getElem_toArray, List.getElem_cons_succ, List.getElem_cons_zero, Act.put, List.setIfInBounds_toArray, List.set_cons_zero, List.set_cons_succ]
          refine wpAnyH_take (i := 12) (v := ?_) rfl (by kernel_rfl) (by kernel_rfl) (by kernel_rfl) (fun _ _ _ h => h) (Or.inl ⟨by rfl, ?_⟩) (by assumption) ?_
          rotate_left
          · intro w hSw; (try dsimp only at hSw); go_simp; (try (with_reducible rfl))
          try simp only [List.getElem_toArray, List.getElem_cons_succ, List.getElem_cons_zero, Act.put, List.setIfInBounds_toArray, List.set_cons_zero, List.set_cons_succ]
          refine wpAnyH_take (i := 13) (v := ?_) rfl (by kernel_rfl) (by kernel_rfl) (by kernel_rfl) (fun _ _ _ h => h) (Or.inl ⟨by rfl, ?_⟩) (by assumption) ?_
          rotate_left
          · intro w hSw; (try dsimp only at hSw); go_simp; (try (with_reducible rfl))
          try simp only [List.getElem_toArray, List.getElem_cons_succ, List.getElem_cons_zero, Act.put, List.setIfInBounds_toArray, List.set_cons_zero, List.set_cons_succ]
          have HRa := Lib.hid HRr.out.drew
          have HBa := Lib.hid HBr.out.drew
          obtain ⟨Wa, hWa⟩ : ∃ W, (W4a1).drew = W := ⟨_, rfl⟩
          rw [hWa] at HRa HBa hHeld ⊢
          clear hWa
          refine wpAnyH_ready (rs := [6, 14]) (by kernel_rfl) (by simp) ?_
          refine (AllReadyH.cons rfl (fun K hK => ?_) (AllReadyH.cons rfl (fun K hK => ?_) AllReadyH.nil))
          · go_simp
            refine hK.out _ _ ?_ (fun hHeld => ?_)
            · clear hK K; exact HQ16.out _ (HBa.out.alloc HBa.out.size _)
            clear hK K
            try simp only [List.getElem_toArray, List.getElem_cons_succ, List.getElem_cons_zero, Act.put, List.setIfInBounds_toArray, List.set_cons_zero, List.set_cons_succ]
            have RW1b0 := Lib.hid (HRa.out.alloc (.cells #[.int .i64 s] 3))
            have BW1b0 := Lib.hid (HBa.out.alloc HBa.out.size (.cells #[.int .i64 s] 3))
            have CW1b0 : Hid ((Wa.alloc (.cells #[.int .i64 s] 3)).cell? ⟨Wa.heap.size, 0, none⟩ = some (.int .i64 s)) := by show _ = _; simp [go_sem]
            obtain ⟨W1b0, hW1b0⟩ : ∃ W, Wa.alloc (.cells #[.int .i64 s] 3) = W := ⟨_, rfl⟩
            rw [hW1b0] at RW1b0 BW1b0 CW1b0 hHeld ⊢
            clear hW1b0
            refine wpAnyH_ready (rs := [7, 14]) (by kernel_rfl) (by simp) ?_
            refine (AllReadyH.cons rfl (fun K hK => ?_) (AllReadyH.cons rfl (fun K hK => ?_) AllReadyH.nil))
            · refine step_append_at _ rfl (.tmp 110) (.tmp 116) 30 rfl wL.heap.size 3 i0 _ 1 8 Try.underlying30 hi0 hz0 hz1 hz2 rfl (by decide) _ x3.length _ rfl (RW1b0.out.1 (v3, x3) (by simp)) ⟨Wa.heap.size, 0, none⟩ 1 1 [.int .i64 s] rfl rfl (src1 CW1b0.out) (by simp [Value.oneCell']) (by simp only [maxLen]; omega) (by omega) BW1b0.out.size ?_
              intro v20n2 W2a0 hown' hgrow _ hat
              have BW2a0 := Lib.hid (BW1b0.out.grown hgrow BW1b0.out.size (fun z e => ((RW1b0.out.1 (v3, x3) (by simp)).lt z e).1))
              have RW2a0 : Hid (Rows4 W2a0 wL.heap.size [(v30n0, (x1 ++ [l])), (v41n1, (x2 ++ [r])), (v20n2, (x3 ++ [s])), (v4, x4)]) := Rows4.step (pre := [(v30n0, (x1 ++ [l])), (v41n1, (x2 ++ [r]))]) (post := [(v4, x4)]) RW1b0.out hown' hgrow hat
              refine hK.out _ _ ?_ (fun hHeld => ?_)
              · clear hK K; exact HQ16.out _ BW2a0.out
              clear hK K hown' hgrow hat
              try simp only [List.getElem_toArray, List.getElem_cons_succ, List.getElem_cons_zero, Act.put, List.setIfInBounds_toArray, List.set_cons_zero, List.set_cons_succ]
              refine wpAnyH_ready (rs := [14]) (by kernel_rfl) (by simp) ?_
              refine (AllReadyH.cons rfl (fun K hK => ?_) AllReadyH.nil)
              go_simp
              refine hK.out _ _ ?_ (fun hHeld => ?_)
              · clear hK K; exact HQ16.out _ (BW2a0.out.alloc BW2a0.out.size _)
              clear hK K
              try simp only [List.getElem_toArray, List.getElem_cons_succ, List.getElem_cons_zero, Act.put, List.setIfInBounds_toArray, List.set_cons_zero, List.set_cons_succ]
              have RW3b1 := Lib.hid (RW2a0.out.alloc (.cells #[.int .i64 u] 3))
              have BW3b1 := Lib.hid (BW2a0.out.alloc BW2a0.out.size (.cells #[.int .i64 u] 3))
              have CW3b1 : Hid ((W2a0.alloc (.cells #[.int .i64 u] 3)).cell? ⟨W2a0.heap.size, 0, none⟩ = some (.int .i64 u)) := by show _ = _; simp [go_sem]
              obtain ⟨W3b1, hW3b1⟩ : ∃ W, W2a0.alloc (.cells #[.int .i64 u] 3) = W := ⟨_, rfl⟩
              rw [hW3b1] at RW3b1 BW3b1 CW3b1 hHeld ⊢
              clear hW3b1
              refine wpAnyH_ready (rs := [15]) (by kernel_rfl) (by simp) ?_
              refine (AllReadyH.cons rfl (fun K hK => ?_) AllReadyH.nil)
              refine step_append_at _ rfl (.tmp 118) (.tmp 124) 30 rfl wL.heap.size 3 i0 _ 1 8 Try.underlying30 hi0 hz0 hz1 hz2 rfl (by decide) _ x4.length _ rfl (RW3b1.out.1 (v4, x4) (by simp)) ⟨W2a0.heap.size, 0, none⟩ 1 1 [.int .i64 u] rfl rfl (src1 CW3b1.out) (by simp [Value.oneCell']) (by simp only [maxLen]; omega) (by omega) BW3b1.out.size ?_
              intro v41n3 W4a1 hown' hgrow _ hat
              have BW4a1 := Lib.hid (BW3b1.out.grown hgrow BW3b1.out.size (fun z e => ((RW3b1.out.1 (v4, x4) (by simp)).lt z e).1))
              have RW4a1 : Hid (Rows4 W4a1 wL.heap.size [(v30n0, (x1 ++ [l])), (v41n1, (x2 ++ [r])), (v20n2, (x3 ++ [s])), (v41n3, (x4 ++ [u]))]) := Rows4.step (pre := [(v30n0, (x1 ++ [l])), (v41n1, (x2 ++ [r])), (v20n2, (x3 ++ [s]))]) (post := []) RW3b1.out hown' hgrow hat
              refine hK.out _ _ ?_ (fun hHeld => ?_)
              · clear hK K; exact HQ16.out _ BW4a1.out
              clear hK K hown' hgrow hat
              try simp only [List.getElem_toArray, List.getElem_cons_succ, List.getElem_cons_zero, Act.put, List.setIfInBounds_toArray, List.set_cons_zero, List.set_cons_succ]
              refine wpAnyH_take (i := 16) (v := ?_) rfl (by kernel_rfl) (by kernel_rfl) (by kernel_rfl) (fun _ _ _ h => h) (Or.inl ⟨by rfl, ?_⟩) (by assumption) ?_
              rotate_left
              · intro w hSw; (try dsimp only at hSw); go_simp; (try (with_reducible rfl))
              try simp only [List.getElem_toArray, List.getElem_cons_succ, List.getElem_cons_zero, Act.put, List.setIfInBounds_toArray, List.set_cons_zero, List.set_cons_succ]
              refine wpAnyH_take (i := 17) (v := ?_) rfl (by kernel_rfl) (by kernel_rfl) (by kernel_rfl) (fun _ _ _ h => h) (Or.inl ⟨by rfl, ?_⟩) (by assumption) ?_
              rotate_left
              · intro w hSw; (try dsimp only at hSw); go_simp; (try (with_reducible rfl))
              try simp only [List.getElem_toArray, List.getElem_cons_succ, List.getElem_cons_zero, Act.put, List.setIfInBounds_toArray, List.set_cons_zero, List.set_cons_succ]
              refine wpAnyH_done (by kernel_rfl) ?_ _
              clear hHeld
              have HFIN : Hid (Rows4 W4a1 wL.heap.size [(v30n0, chan Prod.fst (ws.take (j + 1))), (v41n1, chan Prod.snd (ws.take (j + 1))), (v20n2, chan latP (ws.take (j + 1))), (v41n3, chan widP (ws.take (j + 1)))] ∧ Below wL.heap.size wL W4a1) := by
                show _ ∧ _
                rw [HT1.out, HT2.out, HT3.out, HT4.out]
                exact ⟨RW4a1.out, BW4a1.out⟩
              go_wp2
              go_roundw
              case rel => exact ⟨j + 1, by omega, by go_num, _, _, _, _, rfl, rfl, rfl, rfl, HFIN.out⟩
              case measure => simp [intOf]; omega
            · go_simp
              refine hK.out _ _ ?_ (fun hHeld => ?_)
              · clear hK K; exact HQ16.out _ (BW1b0.out.alloc BW1b0.out.size _)
              clear hK K
              try simp only [List.getElem_toArray, List.getElem_cons_succ, List.getElem_cons_zero, Act.put, List.setIfInBounds_toArray, List.set_cons_zero, List.set_cons_succ]
              have RW2b1 := Lib.hid (RW1b0.out.alloc (.cells #[.int .i64 u] 3))
              have BW2b1 := Lib.hid (BW1b0.out.alloc BW1b0.out.size (.cells #[.int .i64 u] 3))
              have CW2b1 : Hid ((W1b0.alloc (.cells #[.int .i64 u] 3)).cell? ⟨W1b0.heap.size, 0, none⟩ = some (.int .i64 u)) := by show _ = _; simp [go_sem]
              have CW2b10 := Lib.hid (cellA (.cells #[.int .i64 u] 3) CW1b0.out)
              have NW2b1 : Hid (v3.ownBlock ≠ some W1b0.heap.size) := fun e => by have h := ((RW1b0.out.1 (v3, x3) (by simp)).lt _ e).2; omega
              obtain ⟨W2b1, hW2b1⟩ : ∃ W, W1b0.alloc (.cells #[.int .i64 u] 3) = W := ⟨_, rfl⟩
              rw [hW2b1] at RW2b1 BW2b1 CW2b1 CW2b10 hHeld ⊢
              clear hW2b1
              refine wpAnyH_ready (rs := [7]) (by kernel_rfl) (by simp) ?_
              refine (AllReadyH.cons rfl (fun K hK => ?_) AllReadyH.nil)
              refine step_append_at _ rfl (.tmp 110) (.tmp 116) 30 rfl wL.heap.size 3 i0 _ 1 8 Try.underlying30 hi0 hz0 hz1 hz2 rfl (by decide) _ x3.length _ rfl (RW2b1.out.1 (v3, x3) (by simp)) ⟨Wa.heap.size, 0, none⟩ 1 1 [.int .i64 s] rfl rfl (src1 CW2b10.out) (by simp [Value.oneCell']) (by simp only [maxLen]; omega) (by omega) BW2b1.out.size ?_
              intro v30n2 W3a0 hown' hgrow _ hat
              have BW3a0 := Lib.hid (BW2b1.out.grown hgrow BW2b1.out.size (fun z e => ((RW2b1.out.1 (v3, x3) (by simp)).lt z e).1))
              have RW3a0 : Hid (Rows4 W3a0 wL.heap.size [(v30n0, (x1 ++ [l])), (v41n1, (x2 ++ [r])), (v30n2, (x3 ++ [s])), (v4, x4)]) := Rows4.step (pre := [(v30n0, (x1 ++ [l])), (v41n1, (x2 ++ [r]))]) (post := [(v4, x4)]) RW2b1.out hown' hgrow hat
              have CW3a01 := Lib.hid (cellG CW2b1.out hgrow NW2b1.out)
              refine hK.out _ _ ?_ (fun hHeld => ?_)
              · clear hK K; exact HQ16.out _ BW3a0.out
              clear hK K hown' hgrow hat
              try simp only [List.getElem_toArray, List.getElem_cons_succ, List.getElem_cons_zero, Act.put, List.setIfInBounds_toArray, List.set_cons_zero, List.set_cons_succ]
              refine wpAnyH_ready (rs := [15]) (by kernel_rfl) (by simp) ?_
              refine (AllReadyH.cons rfl (fun K hK => ?_) AllReadyH.nil)
              refine step_append_at _ rfl (.tmp 118) (.tmp 124) 30 rfl wL.heap.size 3 i0 _ 1 8 Try.underlying30 hi0 hz0 hz1 hz2 rfl (by decide) _ x4.length _ rfl (RW3a0.out.1 (v4, x4) (by simp)) ⟨W1b0.heap.size, 0, none⟩ 1 1 [.int .i64 u] rfl rfl (src1 CW3a01.out) (by simp [Value.oneCell']) (by simp only [maxLen]; omega) (by omega) BW3a0.out.size ?_
              intro v41n3 W4a1 hown' hgrow _ hat
              have BW4a1 := Lib.hid (BW3a0.out.grown hgrow BW3a0.out.size (fun z e => ((RW3a0.out.1 (v4, x4) (by simp)).lt z e).1))
              have RW4a1 : Hid (Rows4 W4a1 wL.heap.size [(v30n0, (x1 ++ [l])), (v41n1, (x2 ++ [r])), (v30n2, (x3 ++ [s])), (v41n3, (x4 ++ [u]))]) := Rows4.step (pre := [(v30n0, (x1 ++ [l])), (v41n1, (x2 ++ [r])), (v30n2, (x3 ++ [s]))]) (post := []) RW3a0.out hown' hgrow hat
              refine hK.out _ _ ?_ (fun hHeld => ?_)
              · clear hK K; exact HQ16.out _ BW4a1.out
              clear hK K hown' hgrow hat
              try simp only [List.getElem_toArray, List.getElem_cons_succ, List.getElem_cons_zero, Act.put, List.setIfInBounds_toArray, List.set_cons_zero, List.set_cons_succ]
              refine wpAnyH_take (i := 16) (v := ?_) rfl (by kernel_rfl) (by kernel_rfl) (by kernel_rfl) (fun _ _ _ h => h) (Or.inl ⟨by rfl, ?_⟩) (by assumption) ?_
              rotate_left
              · intro w hSw; (try dsimp only at hSw); go_simp; (try (with_reducible rfl))
              try simp only [List.getElem_toArray, List.getElem_cons_succ, List.getElem_cons_zero, Act.put, List.setIfInBounds_toArray, List.set_cons_zero, List.set_cons_succ]
              refine wpAnyH_take (i := 17) (v := ?_) rfl (by kernel_rfl) (by kernel_rfl) (by kernel_rfl) (fun _ _ _ h => h) (Or.inl ⟨by rfl, ?_⟩) (by assumption) ?_
              rotate_left
              · intro w hSw; (try dsimp only at hSw); go_simp; (try (with_reducible rfl))
              try simp only [List.getElem_toArray, List.getElem_cons_succ, List.getElem_cons_zero, Act.put, List.setIfInBounds_toArray, List.set_cons_zero, List.set_cons_succ]
              refine wpAnyH_done (by kernel_rfl) ?_ _
              clear hHeld
              have HFIN : Hid (Rows4 W4a1 wL.heap.size [(v30n0, chan Prod.fst (ws.take (j + 1))), (v41n1, chan Prod.snd (ws.take (j + 1))), (v30n2, chan latP (ws.take (j + 1))), (v41n3, chan widP (ws.take (j + 1)))] ∧ Below wL.heap.size wL W4a1) := by
                show _ ∧ _
                rw [HT1.out, HT2.out, HT3.out, HT4.out]
                exact ⟨RW4a1.out, BW4a1.out⟩
              go_wp2
              go_roundw
              case rel => exact ⟨j + 1, by omega, by go_num, _, _, _, _, rfl, rfl, rfl, rfl, HFIN.out⟩
              case measure => simp [intOf]; omega
          · go_simp
            refine hK.out _ _ ?_ (fun hHeld => ?_)
            · clear hK K; exact HQ16.out _ (HBa.out.alloc HBa.out.size _)
            clear hK K
            try simp only [List.getElem_toArray, List.getElem_cons_succ, List.getElem_cons_zero, Act.put, List.setIfInBounds_toArray, List.set_cons_zero, List.set_cons_succ]
            have RW1b1 := Lib.hid (HRa.out.alloc (.cells #[.int .i64 u] 3))
            have BW1b1 := Lib.hid (HBa.out.alloc HBa.out.size (.cells #[.int .i64 u] 3))
            have CW1b1 : Hid ((Wa.alloc (.cells #[.int .i64 u] 3)).cell? ⟨Wa.heap.size, 0, none⟩ = some (.int .i64 u)) := by show _ = _; simp [go_sem]
            have NW1b1 : Hid (v3.ownBlock ≠ some Wa.heap.size) := fun e => by have h := ((HRa.out.1 (v3, x3) (by simp)).lt _ e).2; omega
            obtain ⟨W1b1, hW1b1⟩ : ∃ W, Wa.alloc (.cells #[.int .i64 u] 3) = W := ⟨_, rfl⟩
            rw [hW1b1] at RW1b1 BW1b1 CW1b1 hHeld ⊢
            clear hW1b1
            refine wpAnyH_ready (rs := [6]) (by kernel_rfl) (by simp) ?_
            refine (AllReadyH.cons rfl (fun K hK => ?_) AllReadyH.nil)
            go_simp
            refine hK.out _ _ ?_ (fun hHeld => ?_)
            · clear hK K; exact HQ16.out _ (BW1b1.out.alloc BW1b1.out.size _)
            clear hK K
            try simp only [List.getElem_toArray, List.getElem_cons_succ, List.getElem_cons_zero, Act.put, List.setIfInBounds_toArray, List.set_cons_zero, List.set_cons_succ]
            have RW2b0 := Lib.hid (RW1b1.out.alloc (.cells #[.int .i64 s] 3))
            have BW2b0 := Lib.hid (BW1b1.out.alloc BW1b1.out.size (.cells #[.int .i64 s] 3))
            have CW2b0 : Hid ((W1b1.alloc (.cells #[.int .i64 s] 3)).cell? ⟨W1b1.heap.size, 0, none⟩ = some (.int .i64 s)) := by show _ = _; simp [go_sem]
            have CW2b01 := Lib.hid (cellA (.cells #[.int .i64 s] 3) CW1b1.out)
            obtain ⟨W2b0, hW2b0⟩ : ∃ W, W1b1.alloc (.cells #[.int .i64 s] 3) = W := ⟨_, rfl⟩
            rw [hW2b0] at RW2b0 BW2b0 CW2b0 CW2b01 hHeld ⊢
            clear hW2b0
            refine wpAnyH_ready (rs := [7]) (by kernel_rfl) (by simp) ?_
            refine (AllReadyH.cons rfl (fun K hK => ?_) AllReadyH.nil)
            refine step_append_at _ rfl (.tmp 110) (.tmp 116) 30 rfl wL.heap.size 3 i0 _ 1 8 Try.underlying30 hi0 hz0 hz1 hz2 rfl (by decide) _ x3.length _ rfl (RW2b0.out.1 (v3, x3) (by simp)) ⟨W1b1.heap.size, 0, none⟩ 1 1 [.int .i64 s] rfl rfl (src1 CW2b0.out) (by simp [Value.oneCell']) (by simp only [maxLen]; omega) (by omega) BW2b0.out.size ?_
            intro v30n2 W3a0 hown' hgrow _ hat
            have BW3a0 := Lib.hid (BW2b0.out.grown hgrow BW2b0.out.size (fun z e => ((RW2b0.out.1 (v3, x3) (by simp)).lt z e).1))
            have RW3a0 : Hid (Rows4 W3a0 wL.heap.size [(v30n0, (x1 ++ [l])), (v41n1, (x2 ++ [r])), (v30n2, (x3 ++ [s])), (v4, x4)]) := Rows4.step (pre := [(v30n0, (x1 ++ [l])), (v41n1, (x2 ++ [r]))]) (post := [(v4, x4)]) RW2b0.out hown' hgrow hat
            have CW3a01 := Lib.hid (cellG CW2b01.out hgrow NW1b1.out)
            refine hK.out _ _ ?_ (fun hHeld => ?_)
            · clear hK K; exact HQ16.out _ BW3a0.out
            clear hK K hown' hgrow hat
            try simp only [List.getElem_toArray, List.getElem_cons_succ, List.getElem_cons_zero, Act.put, List.setIfInBounds_toArray, List.set_cons_zero, List.set_cons_succ]
            refine wpAnyH_ready (rs := [15]) (by kernel_rfl) (by simp) ?_
            refine (AllReadyH.cons rfl (fun K hK => ?_) AllReadyH.nil)
            refine step_append_at _ rfl (.tmp 118) (.tmp 124) 30 rfl wL.heap.size 3 i0 _ 1 8 Try.underlying30 hi0 hz0 hz1 hz2 rfl (by decide) _ x4.length _ rfl (RW3a0.out.1 (v4, x4) (by simp)) ⟨Wa.heap.size, 0, none⟩ 1 1 [.int .i64 u] rfl rfl (src1 CW3a01.out) (by simp [Value.oneCell']) (by simp only [maxLen]; omega) (by omega) BW3a0.out.size ?_
            intro v41n3 W4a1 hown' hgrow _ hat
            have BW4a1 := Lib.hid (BW3a0.out.grown hgrow BW3a0.out.size (fun z e => ((RW3a0.out.1 (v4, x4) (by simp)).lt z e).1))
            have RW4a1 : Hid (Rows4 W4a1 wL.heap.size [(v30n0, (x1 ++ [l])), (v41n1, (x2 ++ [r])), (v30n2, (x3 ++ [s])), (v41n3, (x4 ++ [u]))]) := Rows4.step (pre := [(v30n0, (x1 ++ [l])), (v41n1, (x2 ++ [r])), (v30n2, (x3 ++ [s]))]) (post := []) RW3a0.out hown' hgrow hat
            refine hK.out _ _ ?_ (fun hHeld => ?_)
            · clear hK K; exact HQ16.out _ BW4a1.out
            clear hK K hown' hgrow hat
            try simp only [List.getElem_toArray, List.getElem_cons_succ, List.getElem_cons_zero, Act.put, List.setIfInBounds_toArray, List.set_cons_zero, List.set_cons_succ]
            refine wpAnyH_take (i := 16) (v := ?_) rfl (by kernel_rfl) (by kernel_rfl) (by kernel_rfl) (fun _ _ _ h => h) (Or.inl ⟨by rfl, ?_⟩) (by assumption) ?_
            rotate_left
            · intro w hSw; (try dsimp only at hSw); go_simp; (try (with_reducible rfl))
            try simp only [List.getElem_toArray, List.getElem_cons_succ, List.getElem_cons_zero, Act.put, List.setIfInBounds_toArray, List.set_cons_zero, List.set_cons_succ]
            refine wpAnyH_take (i := 17) (v := ?_) rfl (by kernel_rfl) (by kernel_rfl) (by kernel_rfl) (fun _ _ _ h => h) (Or.inl ⟨by rfl, ?_⟩) (by assumption) ?_
            rotate_left
            · intro w hSw; (try dsimp only at hSw); go_simp; (try (with_reducible rfl))
            try simp only [List.getElem_toArray, List.getElem_cons_succ, List.getElem_cons_zero, Act.put, List.setIfInBounds_toArray, List.set_cons_zero, List.set_cons_succ]
            refine wpAnyH_done (by kernel_rfl) ?_ _
            clear hHeld
            have HFIN : Hid (Rows4 W4a1 wL.heap.size [(v30n0, chan Prod.fst (ws.take (j + 1))), (v41n1, chan Prod.snd (ws.take (j + 1))), (v30n2, chan latP (ws.take (j + 1))), (v41n3, chan widP (ws.take (j + 1)))] ∧ Below wL.heap.size wL W4a1) := by
              show _ ∧ _
              rw [HT1.out, HT2.out, HT3.out, HT4.out]
              exact ⟨RW4a1.out, BW4a1.out⟩
            go_wp2
            go_roundw
            case rel => exact ⟨j + 1, by omega, by go_num, _, _, _, _, rfl, rfl, rfl, rfl, HFIN.out⟩
            case measure => simp [intOf]; omega
      · go_simp
        refine hK.out _ _ ?_ (fun hHeld => ?_)
        · clear hK K; exact HQ15.out _ (HBa.out.alloc HBa.out.size _)
        clear hK K
        try simp only [List.getElem_toArray, List.getElem_cons_succ, List.getElem_cons_zero, Act.put, List.setIfInBounds_toArray, List.set_cons_zero, List.set_cons_succ]
        have RW1b1 := Lib.hid (HRa.out.alloc (.cells #[.int .i64 r] 3))
        have BW1b1 := Lib.hid (HBa.out.alloc HBa.out.size (.cells #[.int .i64 r] 3))
        have CW1b1 : Hid ((Wa.alloc (.cells #[.int .i64 r] 3)).cell? ⟨Wa.heap.size, 0, none⟩ = some (.int .i64 r)) := by show _ = _; simp [go_sem]
        have NW1b1 : Hid (v1.ownBlock ≠ some Wa.heap.size) := fun e => by have h := ((HRa.out.1 (v1, x1) (by simp)).lt _ e).2; omega
        obtain ⟨W1b1, hW1b1⟩ : ∃ W, Wa.alloc (.cells #[.int .i64 r] 3) = W := ⟨_, rfl⟩
        rw [hW1b1] at RW1b1 BW1b1 CW1b1 hHeld ⊢
        clear hW1b1
        refine wpAnyH_ready (rs := [6]) (by kernel_rfl) (by simp) ?_
        refine (AllReadyH.cons rfl (fun K hK => ?_) AllReadyH.nil)
        go_simp
        refine hK.out _ _ ?_ (fun hHeld => ?_)
        · clear hK K; exact HQ15.out _ (BW1b1.out.alloc BW1b1.out.size _)
        clear hK K
        try simp only [List.getElem_toArray, List.getElem_cons_succ, List.getElem_cons_zero, Act.put, List.setIfInBounds_toArray, List.set_cons_zero, List.set_cons_succ]
        have RW2b0 := Lib.hid (RW1b1.out.alloc (.cells #[.int .i64 l] 3))
        have BW2b0 := Lib.hid (BW1b1.out.alloc BW1b1.out.size (.cells #[.int .i64 l] 3))
        have CW2b0 : Hid ((W1b1.alloc (.cells #[.int .i64 l] 3)).cell? ⟨W1b1.heap.size, 0, none⟩ = some (.int .i64 l)) := by show _ = _; simp [go_sem]
        have CW2b01 := Lib.hid (cellA (.cells #[.int .i64 l] 3) CW1b1.out)
        obtain ⟨W2b0, hW2b0⟩ : ∃ W, W1b1.alloc (.cells #[.int .i64 l] 3) = W := ⟨_, rfl⟩
        rw [hW2b0] at RW2b0 BW2b0 CW2b0 CW2b01 hHeld ⊢
        clear hW2b0
        refine wpAnyH_ready (rs := [7]) (by kernel_rfl) (by simp) ?_
        refine (AllReadyH.cons rfl (fun K hK => ?_) AllReadyH.nil)
        refine step_append_at _ rfl (.tmp 94) (.tmp 100) 30 rfl wL.heap.size 3 i0 _ 1 8 Try.underlying30 hi0 hz0 hz1 hz2 rfl (by decide) _ x1.length _ rfl (RW2b0.out.1 (v1, x1) (by simp)) ⟨W1b1.heap.size, 0, none⟩ 1 1 [.int .i64 l] rfl rfl (src1 CW2b0.out) (by simp [Value.oneCell']) (by simp only [maxLen]; omega) (by omega) BW2b0.out.size ?_
        intro v30n0 W3a0 hown' hgrow _ hat
        have BW3a0 := Lib.hid (BW2b0.out.grown hgrow BW2b0.out.size (fun z e => ((RW2b0.out.1 (v1, x1) (by simp)).lt z e).1))
        have RW3a0 : Hid (Rows4 W3a0 wL.heap.size [(v30n0, (x1 ++ [l])), (v2, x2), (v3, x3), (v4, x4)]) := Rows4.step (pre := []) (post := [(v2, x2), (v3, x3), (v4, x4)]) RW2b0.out hown' hgrow hat
        have CW3a01 := Lib.hid (cellG CW2b01.out hgrow NW1b1.out)
        refine hK.out _ _ ?_ (fun hHeld => ?_)
        · clear hK K; exact HQ15.out _ BW3a0.out
        clear hK K hown' hgrow hat
        try simp only [List.getElem_toArray, List.getElem_cons_succ, List.getElem_cons_zero, Act.put, List.setIfInBounds_toArray, List.set_cons_zero, List.set_cons_succ]
        refine wpAnyH_ready (rs := [15]) (by kernel_rfl) (by simp) ?_
        refine (AllReadyH.cons rfl (fun K hK => ?_) AllReadyH.nil)
        refine step_append_at _ rfl (.tmp 102) (.tmp 108) 30 rfl wL.heap.size 3 i0 _ 1 8 Try.underlying30 hi0 hz0 hz1 hz2 rfl (by decide) _ x2.length _ rfl (RW3a0.out.1 (v2, x2) (by simp)) ⟨Wa.heap.size, 0, none⟩ 1 1 [.int .i64 r] rfl rfl (src1 CW3a01.out) (by simp [Value.oneCell']) (by simp only [maxLen]; omega) (by omega) BW3a0.out.size ?_
        intro v41n1 W4a1 hown' hgrow _ hat
        have BW4a1 := Lib.hid (BW3a0.out.grown hgrow BW3a0.out.size (fun z e => ((RW3a0.out.1 (v2, x2) (by simp)).lt z e).1))
        have RW4a1 : Hid (Rows4 W4a1 wL.heap.size [(v30n0, (x1 ++ [l])), (v41n1, (x2 ++ [r])), (v3, x3), (v4, x4)]) := Rows4.step (pre := [(v30n0, (x1 ++ [l]))]) (post := [(v3, x3), (v4, x4)]) RW3a0.out hown' hgrow hat
        refine hK.out _ _ ?_ (fun hHeld => ?_)
        · clear hK K; exact HQ15.out _ BW4a1.out
        clear hK K hown' hgrow hat
        try simp only [List.getElem_toArray, List.getElem_cons_succ, List.getElem_cons_zero, Act.put, List.setIfInBounds_toArray, List.set_cons_zero, List.set_cons_succ]
        refine wpAnyH_take (i := 16) (v := ?_) rfl (by kernel_rfl) (by kernel_rfl) (by kernel_rfl) (fun _ _ _ h => h) (Or.inl ⟨by rfl, ?_⟩) (by assumption) ?_
        rotate_left
        · intro w hSw; (try dsimp only at hSw); go_simp; (try (with_reducible rfl))
        try simp only [List.getElem_toArray, List.getElem_cons_succ, List.getElem_cons_zero, Act.put, List.setIfInBounds_toArray, List.set_cons_zero, List.set_cons_succ]
        refine wpAnyH_take (i := 17) (v := ?_) rfl (by kernel_rfl) (by kernel_rfl) (by kernel_rfl) (fun _ _ _ h => h) (Or.inl ⟨by rfl, ?_⟩) (by assumption) ?_
        rotate_left
        · intro w hSw; (try dsimp only at hSw); go_simp; (try (with_reducible rfl))
        try simp only [List.getElem_toArray, List.getElem_cons_succ, List.getElem_cons_zero, Act.put, List.setIfInBounds_toArray, List.set_cons_zero, List.set_cons_succ]
        refine wpAnyH_done (by kernel_rfl) ?_ _
        clear hHeld
        go_wp2_with fail
        have HRr := RW4a1
        have HBr := BW4a1
        refine wp_region_held_drew (S := (fun w' : World => w'.cell? ⟨gm, j * 2, none⟩ = some (.int .i64 s) ∧ w'.cell? ⟨gm, j * 2 + 1, none⟩ = some (.int .i64 u))) (by kernel_rfl) ?_ ?_
        · exact HQ16.out _ HBr.out.drew
        intro hHeld
        refine wpAnyH_take (i := 0) (v := ?_) rfl (by kernel_rfl) (by kernel_rfl) (by kernel_rfl) (fun _ _ _ h => h) (Or.inl ⟨by rfl, ?_⟩) (by assumption) ?_
        rotate_left
        · intro w hSw; (try dsimp only at hSw); go_simp; (try (with_reducible rfl))
        try simp only [List.getElem_toArray, List.getElem_cons_succ, List.getElem_cons_zero, Act.put, List.setIfInBounds_toArray, List.set_cons_zero, List.set_cons_succ]
        refine wpAnyH_take (i := 1) (v := ?_) rfl (by kernel_rfl) (by kernel_rfl) (by kernel_rfl) (fun _ _ _ h => h) (Or.inl ⟨by rfl, ?_⟩) (by assumption) ?_
        rotate_left
        · intro w hSw; (try dsimp only at hSw); go_simp; (try (with_reducible rfl))
        try simp only [List.getElem_toArray, List.getElem_cons_succ, List.getElem_cons_zero, Act.put, List.setIfInBounds_toArray, List.set_cons_zero, List.set_cons_succ]
        refine wpAnyH_take (i := 2) (v := ?_) rfl (by kernel_rfl) (by kernel_rfl) (by kernel_rfl) (fun _ _ _ h => h) (Or.inl ⟨by rfl, ?_⟩) (by assumption) ?_
        rotate_left
        · intro w hSw; (try dsimp only at hSw); go_simp; (try (with_reducible rfl))
        try simp only [List.getElem_toArray, List.getElem_cons_succ, List.getElem_cons_zero, Act.put, List.setIfInBounds_toArray, List.set_cons_zero, List.set_cons_succ]
        refine wpAnyH_take (i := 3) (v := ?_) rfl (by kernel_rfl) (by kernel_rfl) (by kernel_rfl) (fun _ _ _ h => h) (Or.inl ⟨by rfl, ?_⟩) (by assumption) ?_
        rotate_left
        · intro w hSw; (try dsimp only at hSw); go_simp; (try (with_reducible rfl))
        try simp only [List.getElem_toArray, List.getElem_cons_succ, List.getElem_cons_zero, Act.put, List.setIfInBounds_toArray, List.set_cons_zero, List.set_cons_succ]
        refine wpAnyH_take (i := 4) (v := ?_) rfl (by kernel_rfl) (by kernel_rfl) (by kernel_rfl) (fun _ _ _ h => h) (Or.inl ⟨by rfl, ?_⟩) (by assumption) ?_
        rotate_left
        · intro w hSw; (try dsimp only at hSw); go_simp; (try (with_reducible rfl))
        try simp only [List.getElem_toArray, List.getElem_cons_succ, List.getElem_cons_zero, Act.put, List.setIfInBounds_toArray, List.set_cons_zero, List.set_cons_succ]
        refine wpAnyH_take (i := 5) (v := ?_) rfl (by kernel_rfl) (by kernel_rfl) (by kernel_rfl) (fun _ _ _ h => h) (Or.inl ⟨by rfl, ?_⟩) (by assumption) ?_
        rotate_left
        · intro w hSw; (try dsimp only at hSw); go_simp; (try (with_reducible rfl))
        try simp only [List.getElem_toArray, List.getElem_cons_succ, List.getElem_cons_zero, Act.put, List.setIfInBounds_toArray, List.set_cons_zero, List.set_cons_succ]
        refine wpAnyH_take (i := 8) (v := ?_) rfl (by kernel_rfl) (by kernel_rfl) (by kernel_rfl) (fun _ _ _ h => h) (Or.inl ⟨by rfl, ?_⟩) (by assumption) ?_
        rotate_left
        · intro w hSw; (try dsimp only at hSw); go_simp; (try (with_reducible rfl))
        try simp only [List.getElem_toArray, List.getElem_cons_succ, List.getElem_cons_zero, Act.put, List.setIfInBounds_toArray, List.set_cons_zero, List.set_cons_succ]
        refine wpAnyH_take (i := 9) (v := ?_) rfl (by kernel_rfl) (by kernel_rfl) (by kernel_rfl) (fun _ _ _ h => h) (Or.inl ⟨by rfl, ?_⟩) (by assumption) ?_
        rotate_left
        · intro w hSw; (try dsimp only at hSw); go_simp; (try (with_reducible rfl))
        try simp only [List.getElem_toArray, List.getElem_cons_succ, List.getElem_cons_zero, Act.put, List.setIfInBounds_toArray, List.set_cons_zero, List.set_cons_succ]
        refine wpAnyH_take (i := 10) (v := ?_) rfl (by kernel_rfl) (by kernel_rfl) (by kernel_rfl) (fun _ _ _ h => h) (Or.inl ⟨by rfl, ?_⟩) (by assumption) ?_
        rotate_left
        · intro w hSw; (try dsimp only at hSw); go_simp; (try (with_reducible rfl))
        try simp only [List.getElem_toArray, List.getElem_cons_succ, List.getElem_cons_zero, Act.put, List.setIfInBounds_toArray, List.set_cons_zero, List.set_cons_succ]
        refine wpAnyH_take (i := 11) (v := ?_) rfl (by kernel_rfl) (by kernel_rfl) (by kernel_rfl) (fun _ _ _ h => h) (Or.inl ⟨by rfl, ?_⟩) (by assumption) ?_
        rotate_left
        · intro w hSw; (try dsimp only at hSw); go_simp; (try (with_reducible rfl))
        try simp only [List.getElem_toArray, List.getElem_cons_succ, List.getElem_cons_zero, Act.put, List.setIfInBounds_toArray, List.set_cons_zero, List.set_cons_succ]
        refine wpAnyH_take (i := 12) (v := ?_) rfl (by kernel_rfl) (by kernel_rfl) (by kernel_rfl) (fun _ _ _ h => h) (Or.inl ⟨by rfl, ?_⟩) (by assumption) ?_
        rotate_left
        · intro w hSw; (try dsimp only at hSw); go_simp; (try (with_reducible rfl))
        try simp only [List.getElem_toArray, List.getElem_cons_succ, List.getElem_cons_zero, Act.put, List.setIfInBounds_toArray, List.set_cons_zero, List.set_cons_succ]
        refine wpAnyH_take (i := 13) (v := ?_) rfl (by kernel_rfl) (by kernel_rfl) (by kernel_rfl) (fun _ _ _ h => h) (Or.inl ⟨by rfl, ?_⟩) (by assumption) ?_
        rotate_left
        · intro w hSw; (try dsimp only at hSw); go_simp; (try (with_reducible rfl))
        try simp only [List.getElem_toArray, List.getElem_cons_succ, List.getElem_cons_zero, Act.put, List.setIfInBounds_toArray, List.set_cons_zero, List.set_cons_succ]
        have HRa := Lib.hid HRr.out.drew
        have HBa := Lib.hid HBr.out.drew
        obtain ⟨Wa, hWa⟩ : ∃ W, (W4a1).drew = W := ⟨_, rfl⟩
        rw [hWa] at HRa HBa hHeld ⊢
        clear hWa
        refine wpAnyH_ready (rs := [6, 14]) (by kernel_rfl) (by simp) ?_
        refine (AllReadyH.cons rfl (fun K hK => ?_) (AllReadyH.cons rfl (fun K hK => ?_) AllReadyH.nil))
        · go_simp
          refine hK.out _ _ ?_ (fun hHeld => ?_)
          · clear hK K; exact HQ16.out _ (HBa.out.alloc HBa.out.size _)
          clear hK K
          try simp only [List.getElem_toArray, List.getElem_cons_succ, List.getElem_cons_zero, Act.put, List.setIfInBounds_toArray, List.set_cons_zero, List.set_cons_succ]
          have RW1b0 := Lib.hid (HRa.out.alloc (.cells #[.int .i64 s] 3))
          have BW1b0 := Lib.hid (HBa.out.alloc HBa.out.size (.cells #[.int .i64 s] 3))
          have CW1b0 : Hid ((Wa.alloc (.cells #[.int .i64 s] 3)).cell? ⟨Wa.heap.size, 0, none⟩ = some (.int .i64 s)) := by show _ = _; simp [go_sem]
          obtain ⟨W1b0, hW1b0⟩ : ∃ W, Wa.alloc (.cells #[.int .i64 s] 3) = W := ⟨_, rfl⟩
          rw [hW1b0] at RW1b0 BW1b0 CW1b0 hHeld ⊢
          clear hW1b0
          refine wpAnyH_ready (rs := [7, 14]) (by kernel_rfl) (by simp) ?_
          refine (AllReadyH.cons rfl (fun K hK => ?_) (AllReadyH.cons rfl (fun K hK => ?_) AllReadyH.nil))
          · refine step_append_at _ rfl (.tmp 110) (.tmp 116) 30 rfl wL.heap.size 3 i0 _ 1 8 Try.underlying30 hi0 hz0 hz1 hz2 rfl (by decide) _ x3.length _ rfl (RW1b0.out.1 (v3, x3) (by simp)) ⟨Wa.heap.size, 0, none⟩ 1 1 [.int .i64 s] rfl rfl (src1 CW1b0.out) (by simp [Value.oneCell']) (by simp only [maxLen]; omega) (by omega) BW1b0.out.size ?_
            intro v20n2 W2a0 hown' hgrow _ hat
            have BW2a0 := Lib.hid (BW1b0.out.grown hgrow BW1b0.out.size (fun z e => ((RW1b0.out.1 (v3, x3) (by simp)).lt z e).1))
            have RW2a0 : Hid (Rows4 W2a0 wL.heap.size [(v30n0, (x1 ++ [l])), (v41n1, (x2 ++ [r])), (v20n2, (x3 ++ [s])), (v4, x4)]) := Rows4.step (pre := [(v30n0, (x1 ++ [l])), (v41n1, (x2 ++ [r]))]) (post := [(v4, x4)]) RW1b0.out hown' hgrow hat
            refine hK.out _ _ ?_ (fun hHeld => ?_)
            · clear hK K; exact HQ16.out _ BW2a0.out
            clear hK K hown' hgrow hat
            try simp only [List.getElem_toArray, List.getElem_cons_succ, List.getElem_cons_zero, Act.put, List.setIfInBounds_toArray, List.set_cons_zero, List.set_cons_succ]
            refine wpAnyH_ready (rs := [14]) (by kernel_rfl) (by simp) ?_
            refine (AllReadyH.cons rfl (fun K hK => ?_) AllReadyH.nil)
            go_simp
            refine hK.out _ _ ?_ (fun hHeld => ?_)
            · clear hK K; exact HQ16.out _ (BW2a0.out.alloc BW2a0.out.size _)
            clear hK K
            try simp only [List.getElem_toArray, List.getElem_cons_succ, List.getElem_cons_zero, Act.put, List.setIfInBounds_toArray, List.set_cons_zero, List.set_cons_succ]
            have RW3b1 := Lib.hid (RW2a0.out.alloc (.cells #[.int .i64 u] 3))
            have BW3b1 := Lib.hid (BW2a0.out.alloc BW2a0.out.size (.cells #[.int .i64 u] 3))
            have CW3b1 : Hid ((W2a0.alloc (.cells #[.int .i64 u] 3)).cell? ⟨W2a0.heap.size, 0, none⟩ = some (.int .i64 u)) := by show _ = _; simp [go_sem]
            obtain ⟨W3b1, hW3b1⟩ : ∃ W, W2a0.alloc (.cells #[.int .i64 u] 3) = W := ⟨_, rfl⟩
            rw [hW3b1] at RW3b1 BW3b1 CW3b1 hHeld ⊢
            clear hW3b1
            refine wpAnyH_ready (rs := [15]) (by kernel_rfl) (by simp) ?_
            refine (AllReadyH.cons rfl (fun K hK => ?_) AllReadyH.nil)
            refine step_append_at _ rfl (.tmp 118) (.tmp 124) 30 rfl wL.heap.size 3 i0 _ 1 8 Try.underlying30 hi0 hz0 hz1 hz2 rfl (by decide) _ x4.length _ rfl (RW3b1.out.1 (v4, x4) (by simp)) ⟨W2a0.heap.size, 0, none⟩ 1 1 [.int .i64 u] rfl rfl (src1 CW3b1.out) (by simp [Value.oneCell']) (by simp only [maxLen]; omega) (by omega) BW3b1.out.size ?_
            intro v41n3 W4a1 hown' hgrow _ hat
            have BW4a1 := Lib.hid (BW3b1.out.grown hgrow BW3b1.out.size (fun z e => ((RW3b1.out.1 (v4, x4) (by simp)).lt z e).1))
            have RW4a1 : Hid (Rows4 W4a1 wL.heap.size [(v30n0, (x1 ++ [l])), (v41n1, (x2 ++ [r])), (v20n2, (x3 ++ [s])), (v41n3, (x4 ++ [u]))]) := Rows4.step (pre := [(v30n0, (x1 ++ [l])), (v41n1, (x2 ++ [r])), (v20n2, (x3 ++ [s]))]) (post := []) RW3b1.out hown' hgrow hat
            refine hK.out _ _ ?_ (fun hHeld => ?_)
            · clear hK K; exact HQ16.out _ BW4a1.out
            clear hK K hown' hgrow hat
            try simp only [List.getElem_toArray, List.getElem_cons_succ, List.getElem_cons_zero, Act.put, List.setIfInBounds_toArray, List.set_cons_zero, List.set_cons_succ]
            refine wpAnyH_take (i := 16) (v := ?_) rfl (by kernel_rfl) (by kernel_rfl) (by kernel_rfl) (fun _ _ _ h => h) (Or.inl ⟨by rfl, ?_⟩) (by assumption) ?_
            rotate_left
            · intro w hSw; (try dsimp only at hSw); go_simp; (try (with_reducible rfl))
            try simp only [List.getElem_toArray, List.getElem_cons_succ, List.getElem_cons_zero, Act.put, List.setIfInBounds_toArray, List.set_cons_zero, List.set_cons_succ]
            refine wpAnyH_take (i := 17) (v := ?_) rfl (by kernel_rfl) (by kernel_rfl) (by kernel_rfl) (fun _ _ _ h => h) (Or.inl ⟨by rfl, ?_⟩) (by assumption) ?_
            rotate_left
            · intro w hSw; (try dsimp only at hSw); go_simp; (try (with_reducible rfl))
            try simp only [List.getElem_toArray, List.getElem_cons_succ, List.getElem_cons_zero, Act.put, List.setIfInBounds_toArray, List.set_cons_zero, List.set_cons_succ]
            refine wpAnyH_done (by kernel_rfl) ?_ _
            clear hHeld
            have HFIN : Hid (Rows4 W4a1 wL.heap.size [(v30n0, chan Prod.fst (ws.take (j + 1))), (v41n1, chan Prod.snd (ws.take (j + 1))), (v20n2, chan latP (ws.take (j + 1))), (v41n3, chan widP (ws.take (j + 1)))] ∧ Below wL.heap.size wL W4a1) := by
              show _ ∧ _
              rw [HT1.out, HT2.out, HT3.out, HT4.out]
              exact ⟨RW4a1.out, BW4a1.out⟩
            go_wp2
            go_roundw
            case rel => exact ⟨j + 1, by omega, by go_num, _, _, _, _, rfl, rfl, rfl, rfl, HFIN.out⟩
            case measure => simp [intOf]; omega
          · go_simp
            refine hK.out _ _ ?_ (fun hHeld => ?_)
            · clear hK K; exact HQ16.out _ (BW1b0.out.alloc BW1b0.out.size _)
            clear hK K
            try simp only [List.getElem_toArray, List.getElem_cons_succ, List.getElem_cons_zero, Act.put, List.setIfInBounds_toArray, List.set_cons_zero, List.set_cons_succ]
            have RW2b1 := Lib.hid (RW1b0.out.alloc (.cells #[.int .i64 u] 3))
            have BW2b1 := Lib.hid (BW1b0.out.alloc BW1b0.out.size (.cells #[.int .i64 u] 3))
            have CW2b1 : Hid ((W1b0.alloc (.cells #[.int .i64 u] 3)).cell? ⟨W1b0.heap.size, 0, none⟩ = some (.int .i64 u)) := by show _ = _; simp [go_sem]
            have CW2b10 := Lib.hid (cellA (.cells #[.int .i64 u] 3) CW1b0.out)
            have NW2b1 : Hid (v3.ownBlock ≠ some W1b0.heap.size) := fun e => by have h := ((RW1b0.out.1 (v3, x3) (by simp)).lt _ e).2; omega
            obtain ⟨W2b1, hW2b1⟩ : ∃ W, W1b0.alloc (.cells #[.int .i64 u] 3) = W := ⟨_, rfl⟩
            rw [hW2b1] at RW2b1 BW2b1 CW2b1 CW2b10 hHeld ⊢
            clear hW2b1
            refine wpAnyH_ready (rs := [7]) (by kernel_rfl) (by simp) ?_
            refine (AllReadyH.cons rfl (fun K hK => ?_) AllReadyH.nil)
            refine step_append_at _ rfl (.tmp 110) (.tmp 116) 30 rfl wL.heap.size 3 i0 _ 1 8 Try.underlying30 hi0 hz0 hz1 hz2 rfl (by decide) _ x3.length _ rfl (RW2b1.out.1 (v3, x3) (by simp)) ⟨Wa.heap.size, 0, none⟩ 1 1 [.int .i64 s] rfl rfl (src1 CW2b10.out) (by simp [Value.oneCell']) (by simp only [maxLen]; omega) (by omega) BW2b1.out.size ?_
            intro v30n2 W3a0 hown' hgrow _ hat
            have BW3a0 := Lib.hid (BW2b1.out.grown hgrow BW2b1.out.size (fun z e => ((RW2b1.out.1 (v3, x3) (by simp)).lt z e).1))
            have RW3a0 : Hid (Rows4 W3a0 wL.heap.size [(v30n0, (x1 ++ [l])), (v41n1, (x2 ++ [r])), (v30n2, (x3 ++ [s])), (v4, x4)]) := Rows4.step (pre := [(v30n0, (x1 ++ [l])), (v41n1, (x2 ++ [r]))]) (post := [(v4, x4)]) RW2b1.out hown' hgrow hat
            have CW3a01 := Lib.hid (cellG CW2b1.out hgrow NW2b1.out)
            refine hK.out _ _ ?_ (fun hHeld => ?_)
            · clear hK K; exact HQ16.out _ BW3a0.out
            clear hK K hown' hgrow hat
            try simp only [List.getElem_toArray, List.getElem_cons_succ, List.getElem_cons_zero, Act.put, List.setIfInBounds_toArray, List.set_cons_zero, List.set_cons_succ]
            refine wpAnyH_ready (rs := [15]) (by kernel_rfl) (by simp) ?_
            refine (AllReadyH.cons rfl (fun K hK => ?_) AllReadyH.nil)
            refine step_append_at _ rfl (.tmp 118) (.tmp 124) 30 rfl wL.heap.size 3 i0 _ 1 8 Try.underlying30 hi0 hz0 hz1 hz2 rfl (by decide) _ x4.length _ rfl (RW3a0.out.1 (v4, x4) (by simp)) ⟨W1b0.heap.size, 0, none⟩ 1 1 [.int .i64 u] rfl rfl (src1 CW3a01.out) (by simp [Value.oneCell']) (by simp only [maxLen]; omega) (by omega) BW3a0.out.size ?_
            intro v41n3 W4a1 hown' hgrow _ hat
            have BW4a1 := Lib.hid (BW3a0.out.grown hgrow BW3a0.out.size (fun z e => ((RW3a0.out.1 (v4, x4) (by simp)).lt z e).1))
            have RW4a1 : Hid (Rows4 W4a1 wL.heap.size [(v30n0, (x1 ++ [l])), (v41n1, (x2 ++ [r])), (v30n2, (x3 ++ [s])), (v41n3, (x4 ++ [u]))]) := Rows4.step (pre := [(v30n0, (x1 ++ [l])), (v41n1, (x2 ++ [r])), (v30n2, (x3 ++ [s]))]) (post := []) RW3a0.out hown' hgrow hat
            refine hK.out _ _ ?_ (fun hHeld => ?_)
            · clear hK K; exact HQ16.out _ BW4a1.out
            clear hK K hown' hgrow hat
            try simp only [List.getElem_toArray, List.getElem_cons_succ, List.getElem_cons_zero, Act.put, List.setIfInBounds_toArray, List.set_cons_zero, List.set_cons_succ]
            refine wpAnyH_take (i := 16) (v := ?_) rfl (by kernel_rfl) (by kernel_rfl) (by kernel_rfl) (fun _ _ _ h => h) (Or.inl ⟨by rfl, ?_⟩) (by assumption) ?_
            rotate_left
            · intro w hSw; (try dsimp only at hSw); go_simp; (try (with_reducible rfl))
            try simp only [List.getElem_toArray, List.getElem_cons_succ, List.getElem_cons_zero, Act.put, List.setIfInBounds_toArray, List.set_cons_zero, List.set_cons_succ]
            refine wpAnyH_take (i := 17) (v := ?_) rfl (by kernel_rfl) (by kernel_rfl) (by kernel_rfl) (fun _ _ _ h => h) (Or.inl ⟨by rfl, ?_⟩) (by assumption) ?_
            rotate_left
            · intro w hSw; (try dsimp only at hSw); go_simp; (try (with_reducible rfl))
            try simp only [List.getElem_toArray, List.getElem_cons_succ, List.getElem_cons_zero, Act.put, List.setIfInBounds_toArray, List.set_cons_zero, List.set_cons_succ]
            refine wpAnyH_done (by kernel_rfl) ?_ _
            clear hHeld
            have HFIN : Hid (Rows4 W4a1 wL.heap.size [(v30n0, chan Prod.fst (ws.take (j + 1))), (v41n1, chan Prod.snd (ws.take (j + 1))), (v30n2, chan latP (ws.take (j + 1))), (v41n3, chan widP (ws.take (j + 1)))] ∧ Below wL.heap.size wL W4a1) := by
              show _ ∧ _
              rw [HT1.out, HT2.out, HT3.out, HT4.out]
              exact ⟨RW4a1.out, BW4a1.out⟩
            go_wp2
            go_roundw
            case rel => exact ⟨j + 1, by omega, by go_num, _, _, _, _, rfl, rfl, rfl, rfl, HFIN.out⟩
            case measure => simp [intOf]; omega
        · go_simp
          refine hK.out _ _ ?_ (fun hHeld => ?_)
          · clear hK K; exact HQ16.out _ (HBa.out.alloc HBa.out.size _)
          clear hK K
          try simp only [List.getElem_toArray, List.getElem_cons_succ, List.getElem_cons_zero, Act.put, List.setIfInBounds_toArray, List.set_cons_zero, List.set_cons_succ]
          have RW1b1 := Lib.hid (HRa.out.alloc (.cells #[.int .i64 u] 3))
          have BW1b1 := Lib.hid (HBa.out.alloc HBa.out.size (.cells #[.int .i64 u] 3))
          have CW1b1 : Hid ((Wa.alloc (.cells #[.int .i64 u] 3)).cell? ⟨Wa.heap.size, 0, none⟩ = some (.int .i64 u)) := by show _ = _; simp [go_sem]
          have NW1b1 : Hid (v3.ownBlock ≠ some Wa.heap.size) := fun e => by have h := ((HRa.out.1 (v3, x3) (by simp)).lt _ e).2; omega
          obtain ⟨W1b1, hW1b1⟩ : ∃ W, Wa.alloc (.cells #[.int .i64 u] 3) = W := ⟨_, rfl⟩
          rw [hW1b1] at RW1b1 BW1b1 CW1b1 hHeld ⊢
          clear hW1b1
          refine wpAnyH_ready (rs := [6]) (by kernel_rfl) (by simp) ?_
          refine (AllReadyH.cons rfl (fun K hK => ?_) AllReadyH.nil)
          go_simp
          refine hK.out _ _ ?_ (fun hHeld => ?_)
          · clear hK K; exact HQ16.out _ (BW1b1.out.alloc BW1b1.out.size _)
          clear hK K
          try simp only [List.getElem_toArray, List.getElem_cons_succ, List.getElem_cons_zero, Act.put, List.setIfInBounds_toArray, List.set_cons_zero, List.set_cons_succ]
          have RW2b0 := Lib.hid (RW1b1.out.alloc (.cells #[.int .i64 s] 3))
          have BW2b0 := Lib.hid (BW1b1.out.alloc BW1b1.out.size (.cells #[.int .i64 s] 3))
          have CW2b0 : Hid ((W1b1.alloc (.cells #[.int .i64 s] 3)).cell? ⟨W1b1.heap.size, 0, none⟩ = some (.int .i64 s)) := by show _ = _; simp [go_sem]
          have CW2b01 := Lib.hid (cellA (.cells #[.int .i64 s] 3) CW1b1.out)
          obtain ⟨W2b0, hW2b0⟩ : ∃ W, W1b1.alloc (.cells #[.int .i64 s] 3) = W := ⟨_, rfl⟩
          rw [hW2b0] at RW2b0 BW2b0 CW2b0 CW2b01 hHeld ⊢
          clear hW2b0
          refine wpAnyH_ready (rs := [7]) (by kernel_rfl) (by simp) ?_
          refine (AllReadyH.cons rfl (fun K hK => ?_) AllReadyH.nil)
          refine step_append_at _ rfl (.tmp 110) (.tmp 116) 30 rfl wL.heap.size 3 i0 _ 1 8 Try.underlying30 hi0 hz0 hz1 hz2 rfl (by decide) _ x3.length _ rfl (RW2b0.out.1 (v3, x3) (by simp)) ⟨W1b1.heap.size, 0, none⟩ 1 1 [.int .i64 s] rfl rfl (src1 CW2b0.out) (by simp [Value.oneCell']) (by simp only [maxLen]; omega) (by omega) BW2b0.out.size ?_
          intro v30n2 W3a0 hown' hgrow _ hat
          have BW3a0 := Lib.hid (BW2b0.out.grown hgrow BW2b0.out.size (fun z e => ((RW2b0.out.1 (v3, x3) (by simp)).lt z e).1))
          have RW3a0 : Hid (Rows4 W3a0 wL.heap.size [(v30n0, (x1 ++ [l])), (v41n1, (x2 ++ [r])), (v30n2, (x3 ++ [s])), (v4, x4)]) := Rows4.step (pre := [(v30n0, (x1 ++ [l])), (v41n1, (x2 ++ [r]))]) (post := [(v4, x4)]) RW2b0.out hown' hgrow hat
          have CW3a01 := Lib.hid (cellG CW2b01.out hgrow NW1b1.out)
          refine hK.out _ _ ?_ (fun hHeld => ?_)
          · clear hK K; exact HQ16.out _ BW3a0.out
          clear hK K hown' hgrow hat
          try simp only [List.getElem_toArray, List.getElem_cons_succ, List.getElem_cons_zero, Act.put, List.setIfInBounds_toArray, List.set_cons_zero, List.set_cons_succ]
          refine wpAnyH_ready (rs := [15]) (by kernel_rfl) (by simp) ?_
          refine (AllReadyH.cons rfl (fun K hK => ?_) AllReadyH.nil)
          refine step_append_at _ rfl (.tmp 118) (.tmp 124) 30 rfl wL.heap.size 3 i0 _ 1 8 Try.underlying30 hi0 hz0 hz1 hz2 rfl (by decide) _ x4.length _ rfl (RW3a0.out.1 (v4, x4) (by simp)) ⟨Wa.heap.size, 0, none⟩ 1 1 [.int .i64 u] rfl rfl (src1 CW3a01.out) (by simp [Value.oneCell']) (by simp only [maxLen]; omega) (by omega) BW3a0.out.size ?_
          intro v41n3 W4a1 hown' hgrow _ hat
          have BW4a1 := Lib.hid (BW3a0.out.grown hgrow BW3a0.out.size (fun z e => ((RW3a0.out.1 (v4, x4) (by simp)).lt z e).1))
          have RW4a1 : Hid (Rows4 W4a1 wL.heap.size [(v30n0, (x1 ++ [l])), (v41n1, (x2 ++ [r])), (v30n2, (x3 ++ [s])), (v41n3, (x4 ++ [u]))]) := Rows4.step (pre := [(v30n0, (x1 ++ [l])), (v41n1, (x2 ++ [r])), (v30n2, (x3 ++ [s]))]) (post := []) RW3a0.out hown' hgrow hat
          refine hK.out _ _ ?_ (fun hHeld => ?_)
          · clear hK K; exact HQ16.out _ BW4a1.out
          clear hK K hown' hgrow hat
          try simp only [List.getElem_toArray, List.getElem_cons_succ, List.getElem_cons_zero, Act.put, List.setIfInBounds_toArray, List.set_cons_zero, List.set_cons_succ]
          refine wpAnyH_take (i := 16) (v := ?_) rfl (by kernel_rfl) (by kernel_rfl) (by kernel_rfl) (fun _ _ _ h => h) (Or.inl ⟨by rfl, ?_⟩) (by assumption) ?_
          rotate_left
          · intro w hSw; (try dsimp only at hSw); go_simp; (try (with_reducible rfl))
          try simp only [List.getElem_toArray, List.getElem_cons_succ, List.getElem_cons_zero, Act.put, List.setIfInBounds_toArray, List.set_cons_zero, List.set_cons_succ]
          refine wpAnyH_take (i := 17) (v := ?_) rfl (by kernel_rfl) (by kernel_rfl) (by kernel_rfl) (fun _ _ _ h => h) (Or.inl ⟨by rfl, ?_⟩) (by assumption) ?_
          rotate_left
          · intro w hSw; (try dsimp only at hSw); go_simp; (try (with_reducible rfl))
          try simp only [List.getElem_toArray, List.getElem_cons_succ, List.getElem_cons_zero, Act.put, List.setIfInBounds_toArray, List.set_cons_zero, List.set_cons_succ]
          refine wpAnyH_done (by kernel_rfl) ?_ _
          clear hHeld
          have HFIN : Hid (Rows4 W4a1 wL.heap.size [(v30n0, chan Prod.fst (ws.take (j + 1))), (v41n1, chan Prod.snd (ws.take (j + 1))), (v30n2, chan latP (ws.take (j + 1))), (v41n3, chan widP (ws.take (j + 1)))] ∧ Below wL.heap.size wL W4a1) := by
            show _ ∧ _
            rw [HT1.out, HT2.out, HT3.out, HT4.out]
            exact ⟨RW4a1.out, BW4a1.out⟩
          go_wp2
          go_roundw
          case rel => exact ⟨j + 1, by omega, by go_num, _, _, _, _, rfl, rfl, rfl, rfl, HFIN.out⟩
          case measure => simp [intOf]; omega
    · obtain rfl : n = j := by omega
      rw [List.take_of_length_le (by rw [HWL.out]; exact Nat.le_refl _)] at HI
      obtain ⟨wM, hwM⟩ : ∃ W, W = wr := ⟨_, rfl⟩
      subst hwM
      have hb7 := HI.out.2
      have ho0 := HI.out.1.1 (v1, chan Prod.fst ws) (by simp)
      dsimp only at ho0
      rw [HCL.out] at ho0
      obtain ⟨A0, c0, rfl, _, hr0, _⟩ := rd_ownN ho0
      have ho1 := HI.out.1.1 (v2, chan Prod.snd ws) (by simp)
      dsimp only at ho1
      rw [HCL.out] at ho1
      obtain ⟨A1, c1, rfl, _, hr1, _⟩ := rd_ownN ho1
      have ho2 := HI.out.1.1 (v3, chan latP ws) (by simp)
      dsimp only at ho2
      rw [HCL.out] at ho2
      obtain ⟨A2, c2, rfl, _, hr2, _⟩ := rd_ownN ho2
      have ho3 := HI.out.1.1 (v4, chan widP ws) (by simp)
      dsimp only at ho3
      rw [HCL.out] at ho3
      obtain ⟨A3, c3, rfl, _, hr3, _⟩ := rd_ownN ho3
      have Fx7 := Lib.hid (Fx6.out.below hb7)
      have Fm7 := Lib.hid (Fm6.out.below hb7)
      have Fw7 := Lib.hid (Fw.out.below hb7)
      have low7 := Lib.hid (low6.out.trans (hb7.mono low6.out.size))
      have Fr0 := Lib.hid hr0
      have Fr1 := Lib.hid hr1
      have Fr2 := Lib.hid hr2
      have Fr3 := Lib.hid hr3
      clear HI hlt hj hb7 ho0 hr0 ho1 hr1 ho2 hr2 ho3 hr3 Fx6 Fm6 Fw low6
      by_cases hpa : posE (chan latP ws) = 0
      · skip
        by_cases hpb : posE (chan widP ws) = 0
        · have CPA : Hid (∀ W A c, RdI W A n (chan latP ws) → Calls Try.prog 9 #[.slice A n c] W fun e w' => e = .returned (.int .i64 0) ∧ W = w') := fun W A c h => by
            have h1 := refPosErr_any A n c (chan latP ws) W h (by omega)
            rw [hpa] at h1
            exact h1
          have CPB : Hid (∀ W A c, RdI W A n (chan widP ws) → Calls Try.prog 9 #[.slice A n c] W fun e w' => e = .returned (.int .i64 0) ∧ W = w') := fun W A c h => by
            have h1 := refPosErr_any A n c (chan widP ws) W h (by omega)
            rw [hpb] at h1
            exact h1
          have CV : Hid (∀ f, posE (chan f ws) = 0 → ∀ W A c, RdI W A n (chan f ws) → Calls Try.prog 10 #[.slice A n c] W (OwnRes W 0 (velL (chan f ws)))) := fun f hf W A c h => by
            have h1 := VelocitiesOf_any A n c (chan f ws) W h HN.out
            rw [turn_of hf (by rw [HCL.out]; exact hn0), vel_of hf (by rw [HCL.out]; exact hn0)] at h1
            exact h1
          obtain ⟨nv, hnv⟩ : ∃ q, n - 1 = q := ⟨_, rfl⟩
          have HVL : Hid (∀ f, (velL (chan f ws)).length = nv) := fun f => by rw [velL_length, HCL.out]; exact hnv
          have hnq : IntKind.i64.wrap ((n : Int) - 1) = (nv : Int) := by rw [show (n : Int) - 1 = (nv : Int) by omega]; exact IntWalk.i64_in _ (by omega)
          have hvv : ((nv : Int) != (nv : Int)) = false := bne_self_eq_false' _
          have hnvb : nv ≤ 60 := by omega
          have HNV : Hid (nv ≤ 1000000) := by show _ ≤ _; omega
          have HSUM : Hid (∀ i, i < nv → _) := fun i hi => vel_sum ws i (by rw [HWL.out, hnv]; exact hi)
          have HVB1 : Hid (∀ i, i < nv → _) := fun i hi => vel_bd HP1.out i (by rw [HCL.out, hnv]; exact hi)
          have HVB2 : Hid (∀ i, i < nv → _) := fun i hi => vel_bd HP2.out i (by rw [HCL.out, hnv]; exact hi)
          have CPS : Hid (∀ f, posE (chan f ws) = 0 → ∀ W A c, RdI W A nv (velL (chan f ws)) → Calls Try.prog 11 #[.int .i64 (f (ws.getD 0 (0, 0))), .slice A nv c] W (OwnRes W 0 (chan f ws))) := fun f hf W A c h => by
            have h1 := PositionsOf_any (f (ws.getD 0 (0, 0))) A nv c (velL (chan f ws)) W h HNV.out
            have h2 := psE_vel hf (by rw [HCL.out]; exact hn0)
            rw [chan_at f ws 0 (by rw [HWL.out]; exact hn0)] at h2
            rw [h2.1, h2.2] at h1
            exact h1
          have CP3 := Lib.hid (CPS.out latP hpa)
          have CP4 := Lib.hid (CPS.out widP hpb)
          have CV1 := Lib.hid (CV.out Prod.fst HP1.out)
          have CV2 := Lib.hid (CV.out Prod.snd HP2.out)
          have CV3 := Lib.hid (CV.out latP hpa)
          have CV4 := Lib.hid (CV.out widP hpb)
          clear hpa hpb hnv CPS CV
          go_wp2_with fail
          refine (CPA.out _ _ _ Fr2.out).mono ?_
          rintro e w' ⟨rfl, rfl⟩
          go_wp2_with fail
          refine (CPB.out _ _ _ Fr3.out).mono ?_
          rintro e w' ⟨rfl, rfl⟩
          go_wp2_with fail
          refine (CV1.out _ _ _ Fr0.out).mono ?_
          rintro e w8 ⟨⟨v8, rfl, ho8⟩, hb8⟩
          have Fx8 := Lib.hid (Fx7.out.below hb8)
          have Fm8 := Lib.hid (Fm7.out.below hb8)
          have Fw8 := Lib.hid (Fw7.out.below hb8)
          have Fr18 := Lib.hid (Fr1.out.below hb8)
          have Fr28 := Lib.hid (Fr2.out.below hb8)
          have Fr38 := Lib.hid (Fr3.out.below hb8)
          have low8 := Lib.hid (low7.out.trans (hb8.mono low7.out.size))
          rw [HVL.out] at ho8
          obtain ⟨Aa, ca, rfl, _, hra, na⟩ := rd_ownN ho8
          have Fa := Lib.hid hra
          clear hb8 Fx7 Fm7 Fw7 Fr0 Fr1 Fr2 Fr3 low7 ho8 hra na
          go_wp2_with fail
          refine (CV2.out _ _ _ Fr18.out).mono ?_
          rintro e w9 ⟨⟨v9, rfl, ho9⟩, hb9⟩
          have Fx9 := Lib.hid (Fx8.out.below hb9)
          have Fm9 := Lib.hid (Fm8.out.below hb9)
          have Fw9 := Lib.hid (Fw8.out.below hb9)
          have Fr29 := Lib.hid (Fr28.out.below hb9)
          have Fr39 := Lib.hid (Fr38.out.below hb9)
          have Fa9 := Lib.hid (Fa.out.below hb9)
          have low9 := Lib.hid (low8.out.trans (hb9.mono low8.out.size))
          rw [HVL.out] at ho9
          obtain ⟨Ab, cb, rfl, _, hrb, nb⟩ := rd_ownN ho9
          have Fb := Lib.hid hrb
          clear hb9 Fx8 Fm8 Fw8 Fr18 Fr28 Fr38 Fa low8 ho9 hrb nb
          go_wp2_with fail
          refine (CV3.out _ _ _ Fr29.out).mono ?_
          rintro e w10 ⟨⟨v10, rfl, ho10⟩, hb10⟩
          have Fx10 := Lib.hid (Fx9.out.below hb10)
          have Fm10 := Lib.hid (Fm9.out.below hb10)
          have Fw10 := Lib.hid (Fw9.out.below hb10)
          have Fr310 := Lib.hid (Fr39.out.below hb10)
          have Fa10 := Lib.hid (Fa9.out.below hb10)
          have Fb10 := Lib.hid (Fb.out.below hb10)
          have low10 := Lib.hid (low9.out.trans (hb10.mono low9.out.size))
          rw [HVL.out] at ho10
          obtain ⟨Ac, cc, rfl, _, hrc, nc⟩ := rd_ownN ho10
          have Fc := Lib.hid hrc
          clear hb10 Fx9 Fm9 Fw9 Fr29 Fr39 Fa9 Fb low9 ho10 hrc nc
          go_wp2_with fail
          refine (CV4.out _ _ _ Fr310.out).mono ?_
          rintro e w11 ⟨⟨v11, rfl, ho11⟩, hb11⟩
          have Fx11 := Lib.hid (Fx10.out.below hb11)
          have Fm11 := Lib.hid (Fm10.out.below hb11)
          have Fw11 := Lib.hid (Fw10.out.below hb11)
          have Fa11 := Lib.hid (Fa10.out.below hb11)
          have Fb11 := Lib.hid (Fb10.out.below hb11)
          have Fc11 := Lib.hid (Fc.out.below hb11)
          have low11 := Lib.hid (low10.out.trans (hb11.mono low10.out.size))
          rw [HVL.out] at ho11
          obtain ⟨Ad, cd, rfl, _, hrd, nd⟩ := rd_ownN ho11
          have Fd := Lib.hid hrd
          clear hb11 Fx10 Fm10 Fw10 Fr310 Fa10 Fb10 Fc low10 ho11 hrd nd
          obtain ⟨wV, hwV⟩ : ∃ W, W = w11 := ⟨_, rfl⟩
          subst hwV
          go_wp2
          go_loopw [21] (fun i wr => ∃ j : Nat, j ≤ nv ∧ i = .int .i64 j ∧ Hid (Below wV.heap.size wV wr)) (fun i _ => nv - (intOf i).toNat)
          case atStart => exact ⟨0, Nat.zero_le _, rfl, Below.refl _ _⟩
          case round =>
            obtain ⟨j, hj, rfl, HX⟩ := hrel
            by_cases hlt : j < nv
            · have hjI : (j : Int) < (nv : Int) := by omega
              have hj0 : (0 : Int) ≤ (j : Int) := by omega
              obtain ⟨pa, ha1, _, ha2⟩ := (Fa11.out.below HX.out).2 (by omega)
              have ea := ha2 j hlt
              clear ha2
              cases ha1
              obtain ⟨pb, hb1, _, hb2⟩ := (Fb11.out.below HX.out).2 (by omega)
              have eb := hb2 j hlt
              clear hb2
              cases hb1
              obtain ⟨pc, hc1, _, hc2⟩ := (Fc11.out.below HX.out).2 (by omega)
              have ec := hc2 j hlt
              clear hc2
              cases hc1
              obtain ⟨pd, hd1, _, hd2⟩ := (Fd.out.below HX.out).2 (by omega)
              have ed := hd2 j hlt
              clear hd2
              cases hd1
              have hsm := HSUM.out j hlt
              have hv1 := HVB1.out j hlt
              have hv2 := HVB2.out j hlt
              obtain ⟨ya, hya⟩ : ∃ y, (velL (chan Prod.fst ws)).getD j 0 = y := ⟨_, rfl⟩
              rw [hya] at ea
              obtain ⟨yb, hyb⟩ : ∃ y, (velL (chan Prod.snd ws)).getD j 0 = y := ⟨_, rfl⟩
              rw [hyb] at eb
              obtain ⟨yc, hyc⟩ : ∃ y, (velL (chan latP ws)).getD j 0 = y := ⟨_, rfl⟩
              rw [hyc] at ec
              obtain ⟨yd, hyd⟩ : ∃ y, (velL (chan widP ws)).getD j 0 = y := ⟨_, rfl⟩
              rw [hyd] at ed
              rw [hya, hyb, hyc, hyd] at hsm
              rw [hya] at hv1
              rw [hyb] at hv2
              have hw1 : IntKind.i64.wrap (yb + ya) = yc := by rw [hsm.1]; exact IntWalk.i64_in _ (by omega)
              have hw2 : IntKind.i64.wrap (yb - ya) = yd := by rw [hsm.2]; exact IntWalk.i64_in _ (by omega)
              have hcc : (yc != yc) = false := bne_self_eq_false' _
              have hdd : (yd != yd) = false := bne_self_eq_false' _
              have HS2 : Hid ((fun w' : World => w'.cell? (pc.add j) = some (.int .i64 yc) ∧ w'.cell? (pb.add j) = some (.int .i64 yb) ∧ w'.cell? (pa.add j) = some (.int .i64 ya) ∧ w'.cell? (pd.add j) = some (.int .i64 yd)) wr.drew) := ⟨ec, eb, ea, ed⟩
              clear ea eb ec ed hya hyb hyc hyd hsm hv1 hv2
              go_wp2_with fail
              refine wp_region_held_drew (S := (fun w' : World => w'.cell? (pc.add j) = some (.int .i64 yc) ∧ w'.cell? (pb.add j) = some (.int .i64 yb) ∧ w'.cell? (pa.add j) = some (.int .i64 ya) ∧ w'.cell? (pd.add j) = some (.int .i64 yd))) (by kernel_rfl) ?_ ?_
              · exact HS2.out
              intro hHeld
              refine wpAnyH_take (i := 0) (v := ?_) rfl (by kernel_rfl) (by kernel_rfl) (by kernel_rfl) (fun _ _ _ h => h) (Or.inl ⟨by rfl, ?_⟩) (by assumption) ?_
              rotate_left
              · intro w hSw; (try dsimp only at hSw); go_simp; (try (with_reducible rfl))
              try simp only [List.getElem_toArray, List.getElem_cons_succ, List.getElem_cons_zero, Act.put, List.setIfInBounds_toArray, List.set_cons_zero, List.set_cons_succ]
              refine wpAnyH_take (i := 1) (v := ?_) rfl (by kernel_rfl) (by kernel_rfl) (by kernel_rfl) (fun _ _ _ h => h) (Or.inl ⟨by rfl, ?_⟩) (by assumption) ?_
              rotate_left
              · intro w hSw; (try dsimp only at hSw); go_simp; (try (with_reducible rfl))
              try simp only [List.getElem_toArray, List.getElem_cons_succ, List.getElem_cons_zero, Act.put, List.setIfInBounds_toArray, List.set_cons_zero, List.set_cons_succ]
              refine wpAnyH_take (i := 2) (v := ?_) rfl (by kernel_rfl) (by kernel_rfl) (by kernel_rfl) (fun _ _ _ h => h) (Or.inl ⟨by rfl, ?_⟩) (by assumption) ?_
              rotate_left
              · intro w hSw; (try dsimp only at hSw); go_simp; (try (with_reducible rfl))
              try simp only [List.getElem_toArray, List.getElem_cons_succ, List.getElem_cons_zero, Act.put, List.setIfInBounds_toArray, List.set_cons_zero, List.set_cons_succ]
              refine wpAnyH_take (i := 3) (v := ?_) rfl (by kernel_rfl) (by kernel_rfl) (by kernel_rfl) (fun _ _ _ h => h) (Or.inl ⟨by rfl, ?_⟩) (by assumption) ?_
              rotate_left
              · intro w hSw; (try dsimp only at hSw); go_simp; (try (with_reducible rfl))
              try simp only [List.getElem_toArray, List.getElem_cons_succ, List.getElem_cons_zero, Act.put, List.setIfInBounds_toArray, List.set_cons_zero, List.set_cons_succ]
              refine wpAnyH_take (i := 4) (v := ?_) rfl (by kernel_rfl) (by kernel_rfl) (by kernel_rfl) (fun _ _ _ h => h) (Or.inl ⟨by rfl, ?_⟩) (by assumption) ?_
              rotate_left
              · intro w hSw; (try dsimp only at hSw); go_simp; (try (with_reducible rfl))
              try simp only [List.getElem_toArray, List.getElem_cons_succ, List.getElem_cons_zero, Act.put, List.setIfInBounds_toArray, List.set_cons_zero, List.set_cons_succ]
              refine wpAnyH_take (i := 5) (v := ?_) rfl (by kernel_rfl) (by kernel_rfl) (by kernel_rfl) (fun _ _ _ h => h) (Or.inl ⟨by rfl, ?_⟩) (by assumption) ?_
              rotate_left
              · intro w hSw; (try dsimp only at hSw); go_simp; (try (with_reducible rfl))
              try simp only [List.getElem_toArray, List.getElem_cons_succ, List.getElem_cons_zero, Act.put, List.setIfInBounds_toArray, List.set_cons_zero, List.set_cons_succ]
              refine wpAnyH_take (i := 6) (v := ?_) rfl (by kernel_rfl) (by kernel_rfl) (by kernel_rfl) (fun _ _ _ h => h) (Or.inl ⟨by rfl, ?_⟩) (by assumption) ?_
              rotate_left
              · intro w hSw; (try dsimp only at hSw); go_simp; (try (with_reducible rfl))
              try simp only [List.getElem_toArray, List.getElem_cons_succ, List.getElem_cons_zero, Act.put, List.setIfInBounds_toArray, List.set_cons_zero, List.set_cons_succ]
              refine wpAnyH_take (i := 7) (v := ?_) rfl (by kernel_rfl) (by kernel_rfl) (by kernel_rfl) (fun _ _ _ h => h) (Or.inl ⟨by rfl, ?_⟩) (by assumption) ?_
              rotate_left
              · intro w hSw; (try dsimp only at hSw); go_simp; (try (with_reducible rfl))
              try simp only [List.getElem_toArray, List.getElem_cons_succ, List.getElem_cons_zero, Act.put, List.setIfInBounds_toArray, List.set_cons_zero, List.set_cons_succ]
              refine wpAnyH_take (i := 8) (v := ?_) rfl (by kernel_rfl) (by kernel_rfl) (by kernel_rfl) (fun _ _ _ h => h) (Or.inl ⟨by rfl, ?_⟩) (by assumption) ?_
              rotate_left
              · intro w hSw; (try dsimp only at hSw); go_simp; (try (with_reducible rfl))
              try simp only [List.getElem_toArray, List.getElem_cons_succ, List.getElem_cons_zero, Act.put, List.setIfInBounds_toArray, List.set_cons_zero, List.set_cons_succ]
              refine wpAnyH_take (i := 9) (v := ?_) rfl (by kernel_rfl) (by kernel_rfl) (by kernel_rfl) (fun _ _ _ h => h) (Or.inl ⟨by rfl, ?_⟩) (by assumption) ?_
              rotate_left
              · intro w hSw; (try dsimp only at hSw); go_simp; (try (with_reducible rfl))
              try simp only [List.getElem_toArray, List.getElem_cons_succ, List.getElem_cons_zero, Act.put, List.setIfInBounds_toArray, List.set_cons_zero, List.set_cons_succ]
              refine wpAnyH_take (i := 10) (v := ?_) rfl (by kernel_rfl) (by kernel_rfl) (by kernel_rfl) (fun _ _ _ h => h) (Or.inl ⟨by rfl, ?_⟩) (by assumption) ?_
              rotate_left
              · intro w hSw; (try dsimp only at hSw); go_simp; (try (with_reducible rfl))
              try simp only [List.getElem_toArray, List.getElem_cons_succ, List.getElem_cons_zero, Act.put, List.setIfInBounds_toArray, List.set_cons_zero, List.set_cons_succ]
              refine wpAnyH_take (i := 11) (v := ?_) rfl (by kernel_rfl) (by kernel_rfl) (by kernel_rfl) (fun _ _ _ h => h) (Or.inl ⟨by rfl, ?_⟩) (by assumption) ?_
              rotate_left
              · intro w hSw; (try dsimp only at hSw); go_simp; (try (with_reducible rfl))
              try simp only [List.getElem_toArray, List.getElem_cons_succ, List.getElem_cons_zero, Act.put, List.setIfInBounds_toArray, List.set_cons_zero, List.set_cons_succ]
              refine wpAnyH_take (i := 12) (v := ?_) rfl (by kernel_rfl) (by kernel_rfl) (by kernel_rfl) (fun _ _ _ h => h) (Or.inl ⟨by rfl, ?_⟩) (by assumption) ?_
              rotate_left
              · intro w hSw; (try dsimp only at hSw); go_simp; (try (with_reducible rfl))
              try simp only [List.getElem_toArray, List.getElem_cons_succ, List.getElem_cons_zero, Act.put, List.setIfInBounds_toArray, List.set_cons_zero, List.set_cons_succ]
              refine wpAnyH_take (i := 13) (v := ?_) rfl (by kernel_rfl) (by kernel_rfl) (by kernel_rfl) (fun _ _ _ h => h) (Or.inl ⟨by rfl, ?_⟩) (by assumption) ?_
              rotate_left
              · intro w hSw; (try dsimp only at hSw); go_simp; (try (with_reducible rfl))
              try simp only [List.getElem_toArray, List.getElem_cons_succ, List.getElem_cons_zero, Act.put, List.setIfInBounds_toArray, List.set_cons_zero, List.set_cons_succ]
              refine wpAnyH_take (i := 14) (v := ?_) rfl (by kernel_rfl) (by kernel_rfl) (by kernel_rfl) (fun _ _ _ h => h) (Or.inl ⟨by rfl, ?_⟩) (by assumption) ?_
              rotate_left
              · intro w hSw; (try dsimp only at hSw); go_simp; (try (with_reducible rfl))
              try simp only [List.getElem_toArray, List.getElem_cons_succ, List.getElem_cons_zero, Act.put, List.setIfInBounds_toArray, List.set_cons_zero, List.set_cons_succ]
              refine wpAnyH_take (i := 15) (v := ?_) rfl (by kernel_rfl) (by kernel_rfl) (by kernel_rfl) (fun _ _ _ h => h) (Or.inl ⟨by rfl, ?_⟩) (by assumption) ?_
              rotate_left
              · intro w hSw; (try dsimp only at hSw); go_simp; (try (with_reducible rfl))
              try simp only [List.getElem_toArray, List.getElem_cons_succ, List.getElem_cons_zero, Act.put, List.setIfInBounds_toArray, List.set_cons_zero, List.set_cons_succ]
              refine wpAnyH_take (i := 16) (v := ?_) rfl (by kernel_rfl) (by kernel_rfl) (by kernel_rfl) (fun _ _ _ h => h) (Or.inl ⟨by rfl, ?_⟩) (by assumption) ?_
              rotate_left
              · intro w hSw; (try dsimp only at hSw); go_simp; (try (with_reducible rfl))
              try simp only [List.getElem_toArray, List.getElem_cons_succ, List.getElem_cons_zero, Act.put, List.setIfInBounds_toArray, List.set_cons_zero, List.set_cons_succ]
              refine wpAnyH_take (i := 17) (v := ?_) rfl (by kernel_rfl) (by kernel_rfl) (by kernel_rfl) (fun _ _ _ h => h) (Or.inl ⟨by rfl, ?_⟩) (by assumption) ?_
              rotate_left
              · intro w hSw; (try dsimp only at hSw); go_simp; (try (with_reducible rfl))
              try simp only [List.getElem_toArray, List.getElem_cons_succ, List.getElem_cons_zero, Act.put, List.setIfInBounds_toArray, List.set_cons_zero, List.set_cons_succ]
              refine wpAnyH_take (i := 18) (v := ?_) rfl (by kernel_rfl) (by kernel_rfl) (by kernel_rfl) (fun _ _ _ h => h) (Or.inl ⟨by rfl, ?_⟩) (by assumption) ?_
              rotate_left
              · intro w hSw; (try dsimp only at hSw); go_simp; (try (with_reducible rfl))
              try simp only [List.getElem_toArray, List.getElem_cons_succ, List.getElem_cons_zero, Act.put, List.setIfInBounds_toArray, List.set_cons_zero, List.set_cons_succ]
              refine wpAnyH_take (i := 19) (v := ?_) rfl (by kernel_rfl) (by kernel_rfl) (by kernel_rfl) (fun _ _ _ h => h) (Or.inl ⟨by rfl, ?_⟩) (by assumption) ?_
              rotate_left
              · intro w hSw; (try dsimp only at hSw); go_simp; (try (with_reducible rfl))
              try simp only [List.getElem_toArray, List.getElem_cons_succ, List.getElem_cons_zero, Act.put, List.setIfInBounds_toArray, List.set_cons_zero, List.set_cons_succ]
              refine wpAnyH_take (i := 20) (v := ?_) rfl (by kernel_rfl) (by kernel_rfl) (by kernel_rfl) (fun _ _ _ h => h) (Or.inl ⟨by rfl, ?_⟩) (by assumption) ?_
              rotate_left
              · intro w hSw; (try dsimp only at hSw); go_simp; (try (with_reducible rfl))
              try simp only [List.getElem_toArray, List.getElem_cons_succ, List.getElem_cons_zero, Act.put, List.setIfInBounds_toArray, List.set_cons_zero, List.set_cons_succ]
              refine wpAnyH_take (i := 21) (v := ?_) rfl (by kernel_rfl) (by kernel_rfl) (by kernel_rfl) (fun _ _ _ h => h) (Or.inl ⟨by rfl, ?_⟩) (by assumption) ?_
              rotate_left
              · intro w hSw; (try dsimp only at hSw); go_simp; (try (with_reducible rfl))
              try simp only [List.getElem_toArray, List.getElem_cons_succ, List.getElem_cons_zero, Act.put, List.setIfInBounds_toArray, List.set_cons_zero, List.set_cons_succ]
              refine wpAnyH_take (i := 22) (v := ?_) rfl (by kernel_rfl) (by kernel_rfl) (by kernel_rfl) (fun _ _ _ h => h) (Or.inl ⟨by rfl, ?_⟩) (by assumption) ?_
              rotate_left
              · intro w hSw; (try dsimp only at hSw); go_simp; (try (with_reducible rfl))
              try simp only [List.getElem_toArray, List.getElem_cons_succ, List.getElem_cons_zero, Act.put, List.setIfInBounds_toArray, List.set_cons_zero, List.set_cons_succ]
              refine wpAnyH_take (i := 23) (v := ?_) rfl (by kernel_rfl) (by kernel_rfl) (by kernel_rfl) (fun _ _ _ h => h) (Or.inl ⟨by rfl, ?_⟩) (by assumption) ?_
              rotate_left
              · intro w hSw; (try dsimp only at hSw); go_simp; (try (with_reducible rfl))
              try simp only [List.getElem_toArray, List.getElem_cons_succ, List.getElem_cons_zero, Act.put, List.setIfInBounds_toArray, List.set_cons_zero, List.set_cons_succ]
              refine wpAnyH_take (i := 24) (v := ?_) rfl (by kernel_rfl) (by kernel_rfl) (by kernel_rfl) (fun _ _ _ h => h) (Or.inl ⟨by rfl, ?_⟩) (by assumption) ?_
              rotate_left
              · intro w hSw; (try dsimp only at hSw); go_simp; (try (with_reducible rfl))
              try simp only [List.getElem_toArray, List.getElem_cons_succ, List.getElem_cons_zero, Act.put, List.setIfInBounds_toArray, List.set_cons_zero, List.set_cons_succ]
              refine wpAnyH_take (i := 25) (v := ?_) rfl (by kernel_rfl) (by kernel_rfl) (by kernel_rfl) (fun _ _ _ h => h) (Or.inl ⟨by rfl, ?_⟩) (by assumption) ?_
              rotate_left
              · intro w hSw; (try dsimp only at hSw); go_simp; (try (with_reducible rfl))
              try simp only [List.getElem_toArray, List.getElem_cons_succ, List.getElem_cons_zero, Act.put, List.setIfInBounds_toArray, List.set_cons_zero, List.set_cons_succ]
              refine wpAnyH_take (i := 26) (v := ?_) rfl (by kernel_rfl) (by kernel_rfl) (by kernel_rfl) (fun _ _ _ h => h) (Or.inl ⟨by rfl, ?_⟩) (by assumption) ?_
              rotate_left
              · intro w hSw; (try dsimp only at hSw); go_simp; (try (with_reducible rfl))
              try simp only [List.getElem_toArray, List.getElem_cons_succ, List.getElem_cons_zero, Act.put, List.setIfInBounds_toArray, List.set_cons_zero, List.set_cons_succ]
              refine wpAnyH_take (i := 27) (v := ?_) rfl (by kernel_rfl) (by kernel_rfl) (by kernel_rfl) (fun _ _ _ h => h) (Or.inl ⟨by rfl, ?_⟩) (by assumption) ?_
              rotate_left
              · intro w hSw; (try dsimp only at hSw); go_simp; (try (with_reducible rfl))
              try simp only [List.getElem_toArray, List.getElem_cons_succ, List.getElem_cons_zero, Act.put, List.setIfInBounds_toArray, List.set_cons_zero, List.set_cons_succ]
              refine wpAnyH_take (i := 28) (v := ?_) rfl (by kernel_rfl) (by kernel_rfl) (by kernel_rfl) (fun _ _ _ h => h) (Or.inl ⟨by rfl, ?_⟩) (by assumption) ?_
              rotate_left
              · intro w hSw; (try dsimp only at hSw); go_simp; (try (with_reducible rfl))
              try simp only [List.getElem_toArray, List.getElem_cons_succ, List.getElem_cons_zero, Act.put, List.setIfInBounds_toArray, List.set_cons_zero, List.set_cons_succ]
              refine wpAnyH_take (i := 29) (v := ?_) rfl (by kernel_rfl) (by kernel_rfl) (by kernel_rfl) (fun _ _ _ h => h) (Or.inl ⟨by rfl, ?_⟩) (by assumption) ?_
              rotate_left
              · intro w hSw; (try dsimp only at hSw); go_simp; (try (with_reducible rfl))
              try simp only [List.getElem_toArray, List.getElem_cons_succ, List.getElem_cons_zero, Act.put, List.setIfInBounds_toArray, List.set_cons_zero, List.set_cons_succ]
              refine wpAnyH_done (by kernel_rfl) ?_ _
              clear hHeld HS2 hw1 hw2 hcc hdd
              go_wp2
              go_roundw
              case rel => exact ⟨j + 1, by omega, by go_num, HX.out.drew⟩
              case measure => simp [intOf]; omega
            · obtain rfl : nv = j := by omega
              obtain ⟨wP, hwP⟩ : ∃ W, W = wr := ⟨_, rfl⟩
              subst hwP
              have hb12 := HX.out
              have Fx12 := Lib.hid (Fx11.out.below hb12)
              have Fm12 := Lib.hid (Fm11.out.below hb12)
              have Fw12 := Lib.hid (Fw11.out.below hb12)
              have Fc12 := Lib.hid (Fc11.out.below hb12)
              have Fd12 := Lib.hid (Fd.out.below hb12)
              have low12 := Lib.hid (low11.out.trans (hb12.mono low11.out.size))
              clear HX hlt hj hb12 Fx11 Fm11 Fw11 Fa11 Fb11 Fc11 Fd low11
              obtain ⟨k0, k1⟩ := Fm12.out.2.2 0 hn0
              rw [map_at matP ws (0, 0) (0, 0) 0 (by rw [HWL.out]; exact hn0)] at k0 k1
              simp only [Nat.zero_mul, Nat.zero_add] at k0 k1
              have k0' : _ = some (Value.int .i64 (latP (ws.getD 0 (0, 0)))) := k0
              have k1' : _ = some (Value.int .i64 (widP (ws.getD 0 (0, 0)))) := k1
              obtain ⟨s0, hs0⟩ : ∃ s, latP (ws.getD 0 (0, 0)) = s := ⟨_, rfl⟩
              obtain ⟨u0, hu0⟩ : ∃ s, widP (ws.getD 0 (0, 0)) = s := ⟨_, rfl⟩
              rw [hs0] at k0'
              rw [hu0] at k1'
              have CPX := CP3
              rw [hs0] at CPX
              clear hs0 hu0 k0 k1 k1'
              go_wp2_with fail
              refine (CPX.out _ _ _ Fc12.out).mono ?_
              rintro e w13 ⟨⟨v13, rfl, ho13⟩, hb13⟩
              have Fx13 := Lib.hid (Fx12.out.below hb13)
              have Fm13 := Lib.hid (Fm12.out.below hb13)
              have Fw13 := Lib.hid (Fw12.out.below hb13)
              have Fd13 := Lib.hid (Fd12.out.below hb13)
              have low13 := Lib.hid (low12.out.trans (hb13.mono low12.out.size))
              rw [HCL.out] at ho13
              obtain ⟨Ay, cy, rfl, _, hry, ny⟩ := rd_ownN ho13
              have Fy := Lib.hid hry
              clear k0'
              clear hb13 Fx12 Fm12 Fw12 Fc12 Fd12 low12 ho13 hry ny CPX
              obtain ⟨k0, k1⟩ := Fm13.out.2.2 0 hn0
              rw [map_at matP ws (0, 0) (0, 0) 0 (by rw [HWL.out]; exact hn0)] at k0 k1
              simp only [Nat.zero_mul, Nat.zero_add] at k0 k1
              have k0' : _ = some (Value.int .i64 (latP (ws.getD 0 (0, 0)))) := k0
              have k1' : _ = some (Value.int .i64 (widP (ws.getD 0 (0, 0)))) := k1
              obtain ⟨s0, hs0⟩ : ∃ s, latP (ws.getD 0 (0, 0)) = s := ⟨_, rfl⟩
              obtain ⟨u0, hu0⟩ : ∃ s, widP (ws.getD 0 (0, 0)) = s := ⟨_, rfl⟩
              rw [hs0] at k0'
              rw [hu0] at k1'
              have CPX := CP4
              rw [hu0] at CPX
              clear hs0 hu0 k0 k1 k0'
              go_wp2_with fail
              refine (CPX.out _ _ _ Fd13.out).mono ?_
              rintro e w14 ⟨⟨v14, rfl, ho14⟩, hb14⟩
              have Fx14 := Lib.hid (Fx13.out.below hb14)
              have Fm14 := Lib.hid (Fm13.out.below hb14)
              have Fw14 := Lib.hid (Fw13.out.below hb14)
              have Fy14 := Lib.hid (Fy.out.below hb14)
              have low14 := Lib.hid (low13.out.trans (hb14.mono low13.out.size))
              rw [HCL.out] at ho14
              obtain ⟨Az, cz, rfl, _, hrz, nz⟩ := rd_ownN ho14
              have Fz := Lib.hid hrz
              clear k1'
              clear hb14 Fx13 Fm13 Fw13 Fd13 Fy low13 ho14 hrz nz CPX
              obtain ⟨wN, hwN⟩ : ∃ W, W = w14 := ⟨_, rfl⟩
              subst hwN
              go_wp2
              go_loopw [26, 27] (fun p i wr => ∃ j : Nat, j ≤ n ∧ i = .int .i64 j ∧ ∃ v : Value, v = p ∧ Hid (wr.ownsRow wN.heap.size 34 2 v j (pairCells ((ws.map matP).take j)) ∧ Below wN.heap.size wN wr)) (fun _ i _ => n - (intOf i).toNat)
              case atStart => exact ⟨0, Nat.zero_le _, rfl, _, rfl, World.ownsRow_nil _ _ _ _, Below.refl _ _⟩
              case round =>
                obtain ⟨j, hj, rfl, v, rfl, HI⟩ := hrel
                by_cases hlt : j < n
                · have hjI : (j : Int) < (n : Int) := by omega
                  have hj0 : (0 : Int) ≤ (j : Int) := by omega
                  have hlw : j < ws.length := by rw [HWL.out]; exact hlt
                  obtain ⟨py, hpy, hpyb, hcy⟩ := Fy14.out.2 hn0
                  have e1 := hcy j hlt
                  cases hpy
                  obtain ⟨pz, hpz, hpzb, hcz⟩ := Fz.out.2 hn0
                  have e2 := hcz j hlt
                  cases hpz
                  rw [chan_at _ _ _ hlw] at e1 e2
                  have htk : (ws.map matP).take (j + 1) = (ws.map matP).take j ++ [(latP (ws.getD j (0, 0)), widP (ws.getD j (0, 0)))] := by
                    rw [List.take_succ_eq_append_getElem (by rw [List.length_map]; exact hlw)]
                    simp [List.getD_eq_getElem?_getD, List.getElem?_eq_getElem hlw, matP, latP, widP]
                  obtain ⟨s, hs⟩ : ∃ s, latP (ws.getD j (0, 0)) = s := ⟨_, rfl⟩
                  obtain ⟨u, hu⟩ : ∃ u, widP (ws.getD j (0, 0)) = u := ⟨_, rfl⟩
                  rw [hs] at e1 htk
                  rw [hu] at e2 htk
                  have HTK : Hid (pairCells ((ws.map matP).take (j + 1)) = pairCells ((ws.map matP).take j) ++ [.int .i64 s, .int .i64 u]) := by show _ = _; rw [htk, pairCells_snoc]
                  have HQ39 : Hid (∀ W, Below wN.heap.size wN W → (fun w' : World => w'.cell? (py.add j) = some (.int .i64 s) ∧ w'.cell? (pz.add j) = some (.int .i64 u)) W) := fun W hb => ⟨(hb.cell (by rw [addBlock]; exact hpyb)).trans e1, (hb.cell (by rw [addBlock]; exact hpzb)).trans e2⟩
                  have HRa := Lib.hid HI.out.1.drew
                  have HBa := Lib.hid HI.out.2.drew
                  have HS2 : Hid ((fun w' : World => w'.cell? (py.add j) = some (.int .i64 s) ∧ w'.cell? (pz.add j) = some (.int .i64 u)) wr.drew) := HQ39.out _ HBa.out
                  clear hcy hcz e1 e2 hpyb hpzb hs hu htk hlw HI
                  go_wp2_with fail
                  refine wp_region_held_drew (S := (fun w' : World => w'.cell? (py.add j) = some (.int .i64 s) ∧ w'.cell? (pz.add j) = some (.int .i64 u))) (by kernel_rfl) ?_ ?_
                  · exact HS2.out
                  intro hHeld
                  refine wpAnyH_take (i := 0) (v := ?_) rfl (by kernel_rfl) (by kernel_rfl) (by kernel_rfl) (fun _ _ _ h => h) (Or.inl ⟨by rfl, ?_⟩) (by assumption) ?_
                  rotate_left
                  · intro w hSw; (try dsimp only at hSw); go_simp; (try (with_reducible rfl))
                  try simp only [List.getElem_toArray, List.getElem_cons_succ, List.getElem_cons_zero, Act.put, List.setIfInBounds_toArray, List.set_cons_zero, List.set_cons_succ]
                  refine wpAnyH_take (i := 1) (v := ?_) rfl (by kernel_rfl) (by kernel_rfl) (by kernel_rfl) (fun _ _ _ h => h) (Or.inl ⟨by rfl, ?_⟩) (by assumption) ?_
                  rotate_left
                  · intro w hSw; (try dsimp only at hSw); go_simp; (try (with_reducible rfl))
                  try simp only [List.getElem_toArray, List.getElem_cons_succ, List.getElem_cons_zero, Act.put, List.setIfInBounds_toArray, List.set_cons_zero, List.set_cons_succ]
                  refine wpAnyH_take (i := 2) (v := ?_) rfl (by kernel_rfl) (by kernel_rfl) (by kernel_rfl) (fun _ _ _ h => h) (Or.inl ⟨by rfl, ?_⟩) (by assumption) ?_
                  rotate_left
                  · intro w hSw; (try dsimp only at hSw); go_simp; (try (with_reducible rfl))
                  try simp only [List.getElem_toArray, List.getElem_cons_succ, List.getElem_cons_zero, Act.put, List.setIfInBounds_toArray, List.set_cons_zero, List.set_cons_succ]
                  refine wpAnyH_take (i := 3) (v := ?_) rfl (by kernel_rfl) (by kernel_rfl) (by kernel_rfl) (fun _ _ _ h => h) (Or.inl ⟨by rfl, ?_⟩) (by assumption) ?_
                  rotate_left
                  · intro w hSw; (try dsimp only at hSw); go_simp; (try (with_reducible rfl))
                  try simp only [List.getElem_toArray, List.getElem_cons_succ, List.getElem_cons_zero, Act.put, List.setIfInBounds_toArray, List.set_cons_zero, List.set_cons_succ]
                  refine wpAnyH_take (i := 4) (v := ?_) rfl (by kernel_rfl) (by kernel_rfl) (by kernel_rfl) (fun _ _ _ h => h) (Or.inl ⟨by rfl, ?_⟩) (by assumption) ?_
                  rotate_left
                  · intro w hSw; (try dsimp only at hSw); go_simp; (try (with_reducible rfl))
                  try simp only [List.getElem_toArray, List.getElem_cons_succ, List.getElem_cons_zero, Act.put, List.setIfInBounds_toArray, List.set_cons_zero, List.set_cons_succ]
                  refine wpAnyH_take (i := 5) (v := ?_) rfl (by kernel_rfl) (by kernel_rfl) (by kernel_rfl) (fun _ _ _ h => h) (Or.inl ⟨by rfl, ?_⟩) (by assumption) ?_
                  rotate_left
                  · intro w hSw; (try dsimp only at hSw); go_simp; (try (with_reducible rfl))
                  try simp only [List.getElem_toArray, List.getElem_cons_succ, List.getElem_cons_zero, Act.put, List.setIfInBounds_toArray, List.set_cons_zero, List.set_cons_succ]
                  refine wpAnyH_take (i := 6) (v := ?_) rfl (by kernel_rfl) (by kernel_rfl) (by kernel_rfl) (fun _ _ _ h => h) (Or.inl ⟨by rfl, ?_⟩) (by assumption) ?_
                  rotate_left
                  · intro w hSw; (try dsimp only at hSw); go_simp; (try (with_reducible rfl))
                  try simp only [List.getElem_toArray, List.getElem_cons_succ, List.getElem_cons_zero, Act.put, List.setIfInBounds_toArray, List.set_cons_zero, List.set_cons_succ]
                  refine wpAnyH_take (i := 7) (v := ?_) rfl (by kernel_rfl) (by kernel_rfl) (by kernel_rfl) (fun _ _ _ h => h) (Or.inl ⟨by rfl, ?_⟩) (by assumption) ?_
                  rotate_left
                  · intro w hSw; (try dsimp only at hSw); go_simp; (try (with_reducible rfl))
                  try simp only [List.getElem_toArray, List.getElem_cons_succ, List.getElem_cons_zero, Act.put, List.setIfInBounds_toArray, List.set_cons_zero, List.set_cons_succ]
                  refine wpAnyH_take (i := 8) (v := ?_) rfl (by kernel_rfl) (by kernel_rfl) (by kernel_rfl) (fun _ _ _ h => h) (Or.inl ⟨by rfl, ?_⟩) (by assumption) ?_
                  rotate_left
                  · intro w hSw; (try dsimp only at hSw); go_simp; (try (with_reducible rfl))
                  try simp only [List.getElem_toArray, List.getElem_cons_succ, List.getElem_cons_zero, Act.put, List.setIfInBounds_toArray, List.set_cons_zero, List.set_cons_succ]
                  refine wpAnyH_take (i := 9) (v := ?_) rfl (by kernel_rfl) (by kernel_rfl) (by kernel_rfl) (fun _ _ _ h => h) (Or.inl ⟨by rfl, ?_⟩) (by assumption) ?_
                  rotate_left
                  · intro w hSw; (try dsimp only at hSw); go_simp; (try (with_reducible rfl))
                  try simp only [List.getElem_toArray, List.getElem_cons_succ, List.getElem_cons_zero, Act.put, List.setIfInBounds_toArray, List.set_cons_zero, List.set_cons_succ]
                  obtain ⟨Wa, hWa⟩ : ∃ W, wr.drew = W := ⟨_, rfl⟩
                  rw [hWa] at HRa HBa HS2 hHeld ⊢
                  clear hWa HS2
                  refine wpAnyH_ready (rs := [10]) (by kernel_rfl) (by simp) ?_
                  refine AllReadyH.cons rfl (fun K hK => ?_) AllReadyH.nil
                  go_simp
                  refine hK.out _ _ ?_ (fun hHeld => ?_)
                  · clear hK K; exact HQ39.out _ (HBa.out.alloc HBa.out.size _)
                  clear hK K
                  try simp only [List.getElem_toArray, List.getElem_cons_succ, List.getElem_cons_zero, Act.put, List.setIfInBounds_toArray, List.set_cons_zero, List.set_cons_succ]
                  refine wpAnyH_ready (rs := [11]) (by kernel_rfl) (by simp) ?_
                  refine AllReadyH.cons rfl (fun K hK => ?_) AllReadyH.nil
                  refine step_append_at _ rfl (.tmp 274) (.tmp 284) 25 rfl wN.heap.size 34 m0 _ 2 16 Try.underlying25 hm0 mz0 mz1 mz2 rfl (by decide) _ j _ rfl (HRa.out.alloc (.cells #[.int .i64 s, .int .i64 u] 34)) ⟨Wa.heap.size, 0, none⟩ 1 1 [.int .i64 s, .int .i64 u] rfl rfl (two_new Wa _ _ _) (by simp [Value.oneCell']) (by simp only [maxLen]; omega) (by omega) (HBa.out.alloc HBa.out.size (.cells #[.int .i64 s, .int .i64 u] 34)).size ?_
                  intro v' Wb hown' hgrow _ hat
                  have HBb := Lib.hid ((HBa.out.alloc HBa.out.size (.cells #[.int .i64 s, .int .i64 u] 34)).grown hgrow (HBa.out.alloc HBa.out.size (.cells #[.int .i64 s, .int .i64 u] 34)).size (fun z e => (HRa.out.lt z e).1))
                  have HRb : Hid (Wb.ownsRow wN.heap.size 34 2 v' (j + 1) (pairCells ((ws.map matP).take (j + 1)))) := by show World.ownsRow _ _ _ _ _ _ _; rw [HTK.out]; exact hown'
                  refine hK.out _ _ ?_ (fun hHeld => ?_)
                  · clear hK K; exact HQ39.out _ HBb.out
                  clear hK K hown' hgrow hat HRa HBa
                  try simp only [List.getElem_toArray, List.getElem_cons_succ, List.getElem_cons_zero, Act.put, List.setIfInBounds_toArray, List.set_cons_zero, List.set_cons_succ]
                  refine wpAnyH_take (i := 12) (v := ?_) rfl (by kernel_rfl) (by kernel_rfl) (by kernel_rfl) (fun _ _ _ h => h) (Or.inl ⟨by rfl, ?_⟩) (by assumption) ?_
                  rotate_left
                  · intro w hSw; (try dsimp only at hSw); go_simp; (try (with_reducible rfl))
                  try simp only [List.getElem_toArray, List.getElem_cons_succ, List.getElem_cons_zero, Act.put, List.setIfInBounds_toArray, List.set_cons_zero, List.set_cons_succ]
                  refine wpAnyH_done (by kernel_rfl) ?_ _
                  clear hHeld
                  go_wp2
                  go_roundw
                  case rel => exact ⟨j + 1, by omega, by go_num, _, rfl, HRb.out, HBb.out⟩
                  case measure => simp [intOf]; omega
                · obtain rfl : n = j := by omega
                  rw [List.take_of_length_le (by rw [HML.out]; exact Nat.le_refl _)] at HI
                  obtain ⟨wQ, hwQ⟩ : ∃ W, W = wr := ⟨_, rfl⟩
                  subst hwQ
                  have hb15 := HI.out.2
                  obtain ⟨Aq, cq, rfl, hrq, nq⟩ := rdO_own HI.out.1 HML.out
                  obtain ⟨ga, hga, hra⟩ := hrq.2 hn0
                  cases hga
                  have Fa_ := Lib.hid hra
                  have Fx15 := Lib.hid (Fx14.out.below hb15)
                  have low15 := Lib.hid (low14.out.trans (hb15.mono low14.out.size))
                  clear HI hlt hj hrq nq hra hb15 Fx14 Fm14 Fw14 Fy14 Fz low14
                  go_wp2_with fail
                  refine (CWLB.out _ _ _ Fa_.out).mono ?_
                  rintro e w16 ⟨⟨v16, rfl, ho16⟩, hb16⟩
                  have Fx16 := Lib.hid (Fx15.out.below hb16)
                  have low16 := Lib.hid (low15.out.trans (hb16.mono low15.out.size))
                  rw [HWL.out] at ho16
                  obtain ⟨Ae, ce, rfl, hre, nne⟩ := rdO_own ho16 HWL.out
                  obtain ⟨gz, hgz, hrz⟩ := hre.2 hn0
                  cases hgz
                  have Fe := Lib.hid hrz
                  clear hb16 Fx15 low15 ho16 hre nne hrz Fa_
                  obtain ⟨wR, hwR⟩ : ∃ W, W = w16 := ⟨_, rfl⟩
                  subst hwR
                  go_wp2
                  go_loopw [30] (fun i wr => ∃ j : Nat, j ≤ n ∧ i = .int .i64 j ∧ Hid (Below wR.heap.size wR wr)) (fun i _ => n - (intOf i).toNat)
                  case atStart => exact ⟨0, Nat.zero_le _, rfl, Below.refl _ _⟩
                  case round =>
                    obtain ⟨j, hj, rfl, HX⟩ := hrel
                    by_cases hlt : j < n
                    · have hjI : (j : Int) < (n : Int) := by omega
                      have hj0 : (0 : Int) ≤ (j : Int) := by omega
                      obtain ⟨ax', hax, _, hcx⟩ := (Fx16.out.below HX.out).2 hn0
                      obtain ⟨q1, q2⟩ := hcx j hlt
                      clear hcx
                      cases hax
                      obtain ⟨q4, q5⟩ := (Fe.out.below HX.out).2.2 j hlt
                      obtain ⟨⟨l, r⟩, hxy⟩ : ∃ p, ws.getD j (0, 0) = p := ⟨_, rfl⟩
                      rw [hxy] at q1 q2 q4 q5
                      dsimp only at q1 q2 q4 q5
                      obtain ⟨ak, hak⟩ : ∃ x, ax.add (j * 2) = x := ⟨_, rfl⟩
                      rw [hak] at q1 q2
                      obtain ⟨ak1, hak1⟩ : ∃ x, ak.add 1 = x := ⟨_, rfl⟩
                      rw [hak1] at q2
                      have HS2 : Hid ((fun w' : World => w'.cell? ak = some (.int .i64 l) ∧ w'.cell? ak1 = some (.int .i64 r) ∧ w'.cell? ⟨gz, j * 2, none⟩ = some (.int .i64 l) ∧ w'.cell? ⟨gz, j * 2 + 1, none⟩ = some (.int .i64 r)) wr.drew) := ⟨q1, q2, q4, q5⟩
                      clear q1 q2 q4 q5 hxy
                      go_wp2_with fail
                      refine wp_region_held_drew (S := (fun w' : World => w'.cell? ak = some (.int .i64 l) ∧ w'.cell? ak1 = some (.int .i64 r) ∧ w'.cell? ⟨gz, j * 2, none⟩ = some (.int .i64 l) ∧ w'.cell? ⟨gz, j * 2 + 1, none⟩ = some (.int .i64 r))) (by kernel_rfl) ?_ ?_
                      · exact HS2.out
                      intro hHeld
                      refine wpAnyH_take (i := 0) (v := ?_) rfl (by kernel_rfl) (by kernel_rfl) (by kernel_rfl) (fun _ _ _ h => h) (Or.inl ⟨by rfl, ?_⟩) (by assumption) ?_
                      rotate_left
                      · intro w hSw; (try dsimp only at hSw); go_simp; (try (with_reducible rfl))
                      try simp only [List.getElem_toArray, List.getElem_cons_succ, List.getElem_cons_zero, Act.put, List.setIfInBounds_toArray, List.set_cons_zero, List.set_cons_succ]
                      refine wpAnyH_take (i := 1) (v := ?_) rfl (by kernel_rfl) (by kernel_rfl) (by kernel_rfl) (fun _ _ _ h => h) (Or.inl ⟨by rfl, ?_⟩) (by assumption) ?_
                      rotate_left
                      · intro w hSw; (try dsimp only at hSw); go_simp; (try (with_reducible rfl))
                      try simp only [List.getElem_toArray, List.getElem_cons_succ, List.getElem_cons_zero, Act.put, List.setIfInBounds_toArray, List.set_cons_zero, List.set_cons_succ]
                      refine wpAnyH_take (i := 2) (v := ?_) rfl (by kernel_rfl) (by kernel_rfl) (by kernel_rfl) (fun _ _ _ h => h) (Or.inl ⟨by rfl, ?_⟩) (by assumption) ?_
                      rotate_left
                      · intro w hSw; (try dsimp only at hSw); go_simp; (try (with_reducible rfl))
                      try simp only [List.getElem_toArray, List.getElem_cons_succ, List.getElem_cons_zero, Act.put, List.setIfInBounds_toArray, List.set_cons_zero, List.set_cons_succ]
                      refine wpAnyH_take (i := 3) (v := ?_) rfl (by kernel_rfl) (by kernel_rfl) (by kernel_rfl) (fun _ _ _ h => h) (Or.inl ⟨by rfl, ?_⟩) (by assumption) ?_
                      rotate_left
                      · intro w hSw; (try dsimp only at hSw); go_simp; (try (with_reducible rfl))
                      try simp only [List.getElem_toArray, List.getElem_cons_succ, List.getElem_cons_zero, Act.put, List.setIfInBounds_toArray, List.set_cons_zero, List.set_cons_succ]
                      refine wpAnyH_take (i := 4) (v := ?_) rfl (by kernel_rfl) (by kernel_rfl) (by kernel_rfl) (fun _ _ _ h => h) (Or.inl ⟨by rfl, ?_⟩) (by assumption) ?_
                      rotate_left
                      · intro w hSw; (try dsimp only at hSw); go_simp; (try (with_reducible rfl))
                      try simp only [List.getElem_toArray, List.getElem_cons_succ, List.getElem_cons_zero, Act.put, List.setIfInBounds_toArray, List.set_cons_zero, List.set_cons_succ]
                      refine wpAnyH_take (i := 5) (v := ?_) rfl (by kernel_rfl) (by kernel_rfl) (by kernel_rfl) (fun _ _ _ h => h) (Or.inl ⟨by rfl, ?_⟩) (by assumption) ?_
                      rotate_left
                      · intro w hSw; (try dsimp only at hSw); go_simp; (try (with_reducible rfl))
                      try simp only [List.getElem_toArray, List.getElem_cons_succ, List.getElem_cons_zero, Act.put, List.setIfInBounds_toArray, List.set_cons_zero, List.set_cons_succ]
                      refine wpAnyH_take (i := 6) (v := ?_) rfl (by kernel_rfl) (by kernel_rfl) (by kernel_rfl) (fun _ _ _ h => h) (Or.inl ⟨by rfl, ?_⟩) (by assumption) ?_
                      rotate_left
                      · intro w hSw; (try dsimp only at hSw); go_simp; (try (with_reducible rfl))
                      try simp only [List.getElem_toArray, List.getElem_cons_succ, List.getElem_cons_zero, Act.put, List.setIfInBounds_toArray, List.set_cons_zero, List.set_cons_succ]
                      refine wpAnyH_take (i := 7) (v := ?_) rfl (by kernel_rfl) (by kernel_rfl) (by kernel_rfl) (fun _ _ _ h => h) (Or.inl ⟨by rfl, ?_⟩) (by assumption) ?_
                      rotate_left
                      · intro w hSw; (try dsimp only at hSw); go_simp; (try (with_reducible rfl))
                      try simp only [List.getElem_toArray, List.getElem_cons_succ, List.getElem_cons_zero, Act.put, List.setIfInBounds_toArray, List.set_cons_zero, List.set_cons_succ]
                      refine wpAnyH_take (i := 8) (v := ?_) rfl (by kernel_rfl) (by kernel_rfl) (by kernel_rfl) (fun _ _ _ h => h) (Or.inl ⟨by rfl, ?_⟩) (by assumption) ?_
                      rotate_left
                      · intro w hSw; (try dsimp only at hSw); go_simp; (try (with_reducible rfl))
                      try simp only [List.getElem_toArray, List.getElem_cons_succ, List.getElem_cons_zero, Act.put, List.setIfInBounds_toArray, List.set_cons_zero, List.set_cons_succ]
                      refine wpAnyH_done (by kernel_rfl) ?_ _
                      clear hHeld HS2
                      go_wp2
                      go_roundw
                      case rel => exact ⟨j + 1, by omega, by go_num, HX.out.drew⟩
                      case measure => simp [intOf]; omega
                    · obtain rfl : n = j := by omega
                      have lw := Lib.hid (low16.out.trans (HX.out.mono low16.out.size))
                      go_wp2
                      go_ret
                      exact ⟨rfl, lw.out⟩
        · obtain ⟨d, hd⟩ : ∃ d, posE (chan widP ws) = d := ⟨_, rfl⟩
          have hd0 : (d != 0) = true := by rw [← hd]; simpa using hpb
          have CPA : Hid (∀ W A c, RdI W A n (chan latP ws) → Calls Try.prog 9 #[.slice A n c] W fun e w' => e = .returned (.int .i64 0) ∧ W = w') := fun W A c h => by
            have h1 := refPosErr_any A n c (chan latP ws) W h (by omega)
            rw [hpa] at h1
            exact h1
          have CPB : Hid (∀ W A c, RdI W A n (chan widP ws) → Calls Try.prog 9 #[.slice A n c] W fun e w' => e = .returned (.int .i64 d) ∧ W = w') := fun W A c h => by
            have h1 := refPosErr_any A n c (chan widP ws) W h (by omega)
            rw [hd] at h1
            exact h1
          clear hd hpa hpb
          go_wp2_with fail
          refine (CPA.out _ _ _ Fr2.out).mono ?_
          rintro e w' ⟨rfl, rfl⟩
          go_wp2_with fail
          refine (CPB.out _ _ _ Fr3.out).mono ?_
          rintro e w' ⟨rfl, rfl⟩
          go_wp2
          go_ret
          exact ⟨rfl, low7.out⟩
      · obtain ⟨d, hd⟩ : ∃ d, posE (chan latP ws) = d := ⟨_, rfl⟩
        have hd0 : (d != 0) = true := by rw [← hd]; simpa using hpa
        have CPA : Hid (∀ W A c, RdI W A n (chan latP ws) → Calls Try.prog 9 #[.slice A n c] W fun e w' => e = .returned (.int .i64 d) ∧ W = w') := fun W A c h => by
          have h1 := refPosErr_any A n c (chan latP ws) W h (by omega)
          rw [hd] at h1
          exact h1
        clear hd hpa
        go_wp2_with fail
        refine (CPA.out _ _ _ Fr2.out).mono ?_
        rintro e w' ⟨rfl, rfl⟩
        go_wp2
        go_ret
        exact ⟨rfl, low7.out⟩

end Go.Proofs.Ytnmfeonagigkeaa
