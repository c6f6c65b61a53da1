import Derived.Test.YtnmfeonagigkeaaDoorG1
import Derived.Test.YtnmfeonagigkeaaDoorS5
namespace Go.Proofs.YtnmfeonagigkeaaDoor
open Go.RowKit

theorem lerp_same (b t T : Int) : lerp b b t T = b := by simp [lerp]
theorem floor_any (n d : Int) (hn : -4611686018427387904 ≤ n ∧ n ≤ 4611686018427387904) (hd : 0 < d ∧ d ≤ 4611686018427387904) (w : World) :
    Calls Tryd.prog 57 #[.int .i64 n, .int .i64 d] w fun e w' => e = .returned (.int .i64 (n / d)) ∧ w = w' := by
  have hf := Lib.hid (tdiv_floor n d hd.1)
  have hq : -4611686018427387904 ≤ n.tdiv d ∧ n.tdiv d ≤ 4611686018427387904 := by
    have h1 := Int.natAbs_tdiv_le_natAbs n d
    omega
  have HQ := Lib.hid hq
  clear hq
  have hd0 : d ≠ 0 := by omega
  have hd1 : (d == 0) = false := by simpa using hd0
  go_enter Tryd.func57, Tryd.ntmps57
  go_wp2
  all_goals go_ret
  · have h : n.tmod d < 0 := by assumption
    have h2 := hf.out
    have h3 := HQ.out
    rw [if_pos h] at h2
    refine ⟨?_, rfl⟩
    show Ending.returned (Value.int .i64 (wrap64 (n.tdiv d - 1))) = _
    rw [IntWalk.wrap64_in _ ⟨by omega, by omega⟩, h2]
  · have h : 0 ≤ n.tmod d := by assumption
    have h2 := hf.out
    rw [if_neg (by omega)] at h2
    refine ⟨?_, rfl⟩
    show Ending.returned (Value.int .i64 (n.tdiv d)) = _
    rw [h2]
theorem lerp_floor (a b t T : Int) (hT : 0 < T) : (a * T + (b - a) * t) / T = lerp a b t T := by
  unfold lerp
  rw [Int.add_comm (a * T), Int.add_mul_ediv_right _ _ (by omega), Int.add_comm]
theorem cell_far {W : World} {p : Addr} {a : Addr} {v u : Value} (h : W.cell? a = some u) (hne : a.block ≠ p.block) : (W.setCell p v).cell? a = some u := (World.cell?_of_block (heap_setCell_other W p a.block v hne)).trans h

set_option maxRecDepth 100000 in
set_option maxHeartbeats 8000000 in
theorem refBridged_any (A : Option Addr) (n c : Nat) (xs : List Int) (B : Option Addr) (k cB : Nat) (gs : List (Int × Int)) (w : World) (hA : A = none → n = 0 ∧ c = 0) (hx : RdI w A n xs) (hr : RdP w B k gs) (hn : n ≤ 203) (hk : k ≤ 1000) (hsm : Small xs) (hg : gapsE (xs.length : Nat) gs = 0) (hn0 : 0 < n) :
    Calls Tryd.prog 31 #[.slice A n c, .slice B k cB] w (OwnS w (refL xs gs)) := by
  have HX := Lib.hid hx
  have HR := Lib.hid hr
  have HLN : Hid (xs.length = n) := hx.1
  have HGL : Hid (gs.length = k) := hr.1
  have HSM : Hid (True ∧ Small xs) := ⟨trivial, hsm⟩
  have hg0 : gapsF (xs.length : Nat) none gs = 0 ∧ (0, ((xs.length : Nat) : Int) - 1) ∉ gs := by
    unfold gapsE at hg
    by_cases h : gapsF (xs.length : Nat) none gs = 0
    · rw [if_pos h] at hg
      refine ⟨h, fun hm => ?_⟩
      rw [if_pos hm] at hg; omega
    · rw [if_neg h] at hg; exact absurd hg h
  have HG := Lib.hid hg0
  have CC := Lib.hid (copyInts_any A n c xs w hA hx (by omega))
  obtain ⟨ax, hax, haxb, hxc⟩ := hx.2 hn0
  have HXC : Hid (∀ j, j < n → w.cell? (ax.add j) = some (.int .i64 (xs.getD j 0))) := hxc
  subst hax
  clear hx hr hsm hg hg0 hA hxc
  go_enter Tryd.func31, Tryd.ntmps31
  go_wp2_with fail
  refine CC.out.mono ?_
  rintro e w1 ⟨⟨v, rfl, ho⟩, hb1⟩
  rw [HLN.out] at ho
  obtain ⟨g, cap, rfl⟩ : ∃ g cap, v = .slice (some ⟨g, 0, none⟩) n cap := by
    rcases ho.2 with ⟨_, h0⟩ | ⟨g, cap, cur, e, _⟩
    · omega
    · exact ⟨g, cap, e⟩
  have HO1 := Lib.hid ho
  have HB1 := Lib.hid hb1
  have hgw : w.heap.size ≤ g := (ho.lt g rfl).1
  clear ho hb1 CC
  go_wp2
  go_loopw [6] (fun i wr => ∃ j : Nat, j ≤ k ∧ i = .int .i64 j ∧ Hid (wr.ownsRow w.heap.size 3 1 (.slice (some ⟨g, 0, none⟩) n cap) n ((refL xs (gs.take j)).map (Value.int .i64)) ∧ Below w.heap.size w wr)) (fun i _ => k - (intOf i).toNat)
  case atStart => exact ⟨0, Nat.zero_le _, rfl, HO1.out, HB1.out⟩
  case round =>
    obtain ⟨j, hj, rfl, HI⟩ := hrel
    by_cases hlt : j < k
    · have hjI : (j : Int) < (k : Int) := by omega
      have hj0 : (0 : Int) ≤ (j : Int) := by omega
      obtain ⟨ad, ha, hadb, hc⟩ := HR.out.2 (by omega)
      obtain ⟨q1, q2⟩ := hc j hlt
      clear hc
      subst ha
      have hmem : gs.getD j (0, 0) ∈ gs := by rw [List.getD_eq_getElem?_getD, List.getElem?_eq_getElem (by rw [HGL.out]; exact hlt)]; exact List.getElem_mem _
      have hok := gapsF_ok HG.out.1 _ hmem
      have hnot : gs.getD j (0, 0) ≠ (0, (n : Int) - 1) := fun e => HG.out.2 (by rw [HLN.out, ← e]; exact hmem)
      have htk : gs.take (j + 1) = gs.take j ++ [gs.getD j (0, 0)] := by
        rw [List.take_succ_eq_append_getElem (by rw [HGL.out]; exact hlt)]
        simp [List.getD_eq_getElem?_getD, List.getElem?_eq_getElem (show j < gs.length by rw [HGL.out]; exact hlt)]
      obtain ⟨⟨lo', hi'⟩, hxy⟩ : ∃ p, gs.getD j (0, 0) = p := ⟨_, rfl⟩
      rw [hxy] at q1 q2 hok hnot htk
      dsimp only at q1 q2 hok
      rw [HLN.out] at hok
      obtain ⟨lo, rfl⟩ : ∃ m : Nat, lo' = (m : Int) := ⟨lo'.toNat, by omega⟩
      obtain ⟨hi, rfl⟩ : ∃ m : Nat, hi' = (m : Int) := ⟨hi'.toNat, by omega⟩
      have h1 : lo ≤ hi := by omega
      have h2 : hi < n := by omega
      have h3 : ¬ (lo = 0 ∧ hi + 1 = n) := fun h => hnot (by rw [h.1, ← h.2]; simp)
      have HTK : Hid (refL xs (gs.take (j + 1)) = bridgeTo (endsL xs lo hi) (refL xs (gs.take j)) lo hi (hi + 1 - lo)) := by
        show _ = _
        rw [htk, refL_snoc]
        unfold refStep
        simp
      clear hxy hmem hok hnot htk
      obtain ⟨L, hLe⟩ : ∃ L, refL xs (gs.take j) = L := ⟨_, rfl⟩
      have HLL : Hid (L.length = n) := by show _ = _; rw [← hLe, refL_length, HLN.out]
      rw [hLe] at HI HTK
      clear hLe
      obtain ⟨ak, hak⟩ : ∃ x, ad.add (j * 2) = x := ⟨_, rfl⟩
      have hakb : ak.block < w.heap.size := by rw [← hak, addBlock]; exact hadb
      rw [hak] at q1 q2
      obtain ⟨ak1, hak1⟩ : ∃ x, ak.add 1 = x := ⟨_, rfl⟩
      have hak1b : ak1.block < w.heap.size := by rw [← hak1, addBlock]; exact hakb
      rw [hak1] at q2
      have HQ : Hid (∀ W, Below w.heap.size w W → W.cell? ak = some (.int .i64 lo) ∧ W.cell? ak1 = some (.int .i64 hi)) := fun W hb => ⟨(hb.cell hakb).trans q1, (hb.cell hak1b).trans q2⟩
      have HXQ : Hid (∀ W, Below w.heap.size w W → ∀ m, m < n → W.cell? (ax.add m) = some (.int .i64 (xs.getD m 0))) := fun W hb m hm => (hb.cell (by rw [addBlock]; exact haxb)).trans (HXC.out m hm)
      have HS1 : Hid ((fun w' : World => w'.cell? ak = some (.int .i64 lo) ∧ w'.cell? ak1 = some (.int .i64 hi)) wr.drew) := HQ.out _ HI.out.2.drew
      obtain ⟨P, hP⟩ : ∃ P : Int, (lo : Int) - 1 = P := ⟨_, rfl⟩
      obtain ⟨en, hen⟩ : ∃ en : Nat, hi + 1 = en := ⟨_, rfl⟩
      have hw1 : IntKind.i64.wrap ((lo : Int) - 1) = P := by rw [hP]; exact IntWalk.i64_in _ (by omega)
      have hw2 : IntKind.i64.wrap ((hi : Int) + 1) = (en : Int) := by rw [show (hi : Int) + 1 = (en : Int) by omega]; exact IntWalk.i64_in _ (by omega)
      have HPE : Hid ((lo : Int) - 1 = P ∧ hi + 1 = en) := ⟨hP, hen⟩
      clear hP hen
      clear q1 q2 hakb hak1b
      go_wp2_with fail
      refine wp_region_held_drew (S := (fun w' : World => w'.cell? ak = some (.int .i64 lo) ∧ w'.cell? ak1 = some (.int .i64 hi))) (by kernel_rfl) ?_ ?_
      · exact HS1.out
      intro hHeld
      refine wpAnyH_take (i := 0) (v := ?_) rfl (by kernel_rfl) (by kernel_rfl) (by kernel_rfl) (fun _ _ _ h => h) (Or.inl ⟨by rfl, ?_⟩) (by assumption) ?_
      rotate_left
      · intro w hSw; (try dsimp only at hSw); go_simp; (try (with_reducible rfl))
      try simp only [List.getElem_toArray, List.getElem_cons_succ, List.getElem_cons_zero, Act.put, List.setIfInBounds_toArray, List.set_cons_zero, List.set_cons_succ]
      refine wpAnyH_take (i := 1) (v := ?_) rfl (by kernel_rfl) (by kernel_rfl) (by kernel_rfl) (fun _ _ _ h => h) (Or.inl ⟨by rfl, ?_⟩) (by assumption) ?_
      rotate_left
      · intro w hSw; (try dsimp only at hSw); go_simp; (try (with_reducible rfl))
      try simp only [List.getElem_toArray, List.getElem_cons_succ, List.getElem_cons_zero, Act.put, List.setIfInBounds_toArray, List.set_cons_zero, List.set_cons_succ]
      refine wpAnyH_take (i := 2) (v := ?_) rfl (by kernel_rfl) (by kernel_rfl) (by kernel_rfl) (fun _ _ _ h => h) (Or.inl ⟨by rfl, ?_⟩) (by assumption) ?_
      rotate_left
      · intro w hSw; (try dsimp only at hSw); go_simp; (try (with_reducible rfl))
      try simp only [List.getElem_toArray, List.getElem_cons_succ, List.getElem_cons_zero, Act.put, List.setIfInBounds_toArray, List.set_cons_zero, List.set_cons_succ]
      refine wpAnyH_take (i := 3) (v := ?_) rfl (by kernel_rfl) (by kernel_rfl) (by kernel_rfl) (fun _ _ _ h => h) (Or.inl ⟨by rfl, ?_⟩) (by assumption) ?_
      rotate_left
      · intro w hSw; (try dsimp only at hSw); go_simp; (try (with_reducible rfl))
      try simp only [List.getElem_toArray, List.getElem_cons_succ, List.getElem_cons_zero, Act.put, List.setIfInBounds_toArray, List.set_cons_zero, List.set_cons_succ]
      refine wpAnyH_take (i := 4) (v := ?_) rfl (by kernel_rfl) (by kernel_rfl) (by kernel_rfl) (fun _ _ _ h => h) (Or.inl ⟨by rfl, ?_⟩) (by assumption) ?_
      rotate_left
      · intro w hSw; (try dsimp only at hSw); go_simp; (try (with_reducible rfl))
      try simp only [List.getElem_toArray, List.getElem_cons_succ, List.getElem_cons_zero, Act.put, List.setIfInBounds_toArray, List.set_cons_zero, List.set_cons_succ]
      refine wpAnyH_take (i := 5) (v := ?_) rfl (by kernel_rfl) (by kernel_rfl) (by kernel_rfl) (fun _ _ _ h => h) (Or.inl ⟨by rfl, ?_⟩) (by assumption) ?_
      rotate_left
      · intro w hSw; (try dsimp only at hSw); go_simp; (try (with_reducible rfl))
      try simp only [List.getElem_toArray, List.getElem_cons_succ, List.getElem_cons_zero, Act.put, List.setIfInBounds_toArray, List.set_cons_zero, List.set_cons_succ]
      refine wpAnyH_take (i := 6) (v := ?_) rfl (by kernel_rfl) (by kernel_rfl) (by kernel_rfl) (fun _ _ _ h => h) (Or.inl ⟨by rfl, ?_⟩) (by assumption) ?_
      rotate_left
      · intro w hSw; (try dsimp only at hSw); go_simp; (try (with_reducible rfl))
      try simp only [List.getElem_toArray, List.getElem_cons_succ, List.getElem_cons_zero, Act.put, List.setIfInBounds_toArray, List.set_cons_zero, List.set_cons_succ]
      refine wpAnyH_take (i := 7) (v := ?_) rfl (by kernel_rfl) (by kernel_rfl) (by kernel_rfl) (fun _ _ _ h => h) (Or.inl ⟨by rfl, ?_⟩) (by assumption) ?_
      rotate_left
      · intro w hSw; (try dsimp only at hSw); go_simp; (try (with_reducible rfl))
      try simp only [List.getElem_toArray, List.getElem_cons_succ, List.getElem_cons_zero, Act.put, List.setIfInBounds_toArray, List.set_cons_zero, List.set_cons_succ]
      refine wpAnyH_take (i := 8) (v := ?_) rfl (by kernel_rfl) (by kernel_rfl) (by kernel_rfl) (fun _ _ _ h => h) (Or.inl ⟨by rfl, ?_⟩) (by assumption) ?_
      rotate_left
      · intro w hSw; (try dsimp only at hSw); go_simp; (try (with_reducible rfl))
      try simp only [List.getElem_toArray, List.getElem_cons_succ, List.getElem_cons_zero, Act.put, List.setIfInBounds_toArray, List.set_cons_zero, List.set_cons_succ]
      refine wpAnyH_take (i := 9) (v := ?_) rfl (by kernel_rfl) (by kernel_rfl) (by kernel_rfl) (fun _ _ _ h => h) (Or.inl ⟨by rfl, ?_⟩) (by assumption) ?_
      rotate_left
      · intro w hSw; (try dsimp only at hSw); go_simp; (try (with_reducible rfl))
      try simp only [List.getElem_toArray, List.getElem_cons_succ, List.getElem_cons_zero, Act.put, List.setIfInBounds_toArray, List.set_cons_zero, List.set_cons_succ]
      refine wpAnyH_take (i := 10) (v := ?_) rfl (by kernel_rfl) (by kernel_rfl) (by kernel_rfl) (fun _ _ _ h => h) (Or.inl ⟨by rfl, ?_⟩) (by assumption) ?_
      rotate_left
      · intro w hSw; (try dsimp only at hSw); go_simp; (try (with_reducible rfl))
      try simp only [List.getElem_toArray, List.getElem_cons_succ, List.getElem_cons_zero, Act.put, List.setIfInBounds_toArray, List.set_cons_zero, List.set_cons_succ]
      refine wpAnyH_take (i := 11) (v := ?_) rfl (by kernel_rfl) (by kernel_rfl) (by kernel_rfl) (fun _ _ _ h => h) (Or.inl ⟨by rfl, ?_⟩) (by assumption) ?_
      rotate_left
      · intro w hSw; (try dsimp only at hSw); go_simp; (try (with_reducible rfl))
      try simp only [List.getElem_toArray, List.getElem_cons_succ, List.getElem_cons_zero, Act.put, List.setIfInBounds_toArray, List.set_cons_zero, List.set_cons_succ]
      refine wpAnyH_take (i := 12) (v := ?_) rfl (by kernel_rfl) (by kernel_rfl) (by kernel_rfl) (fun _ _ _ h => h) (Or.inl ⟨by rfl, ?_⟩) (by assumption) ?_
      rotate_left
      · intro w hSw; (try dsimp only at hSw); go_simp; (try (with_reducible rfl))
      try simp only [List.getElem_toArray, List.getElem_cons_succ, List.getElem_cons_zero, Act.put, List.setIfInBounds_toArray, List.set_cons_zero, List.set_cons_succ]
      refine wpAnyH_take (i := 13) (v := ?_) rfl (by kernel_rfl) (by kernel_rfl) (by kernel_rfl) (fun _ _ _ h => h) (Or.inl ⟨by rfl, ?_⟩) (by assumption) ?_
      rotate_left
      · intro w hSw; (try dsimp only at hSw); go_simp; (try (with_reducible rfl))
      try simp only [List.getElem_toArray, List.getElem_cons_succ, List.getElem_cons_zero, Act.put, List.setIfInBounds_toArray, List.set_cons_zero, List.set_cons_succ]
      refine wpAnyH_done (by kernel_rfl) ?_ _
      clear hHeld HS1
      obtain ⟨s1, _⟩ := HQ.out wr.drew HI.out.2.drew
      have HI0 : Hid (wr.drew.ownsRow w.heap.size 3 1 (.slice (some ⟨g, 0, none⟩) n cap) n (L.map (Value.int .i64)) ∧ Below w.heap.size w wr.drew) := ⟨HI.out.1.drew, HI.out.2.drew⟩
      obtain ⟨w2, hw2e⟩ : ∃ W, wr.drew = W := ⟨_, rfl⟩
      rw [hw2e] at s1 HI0 ⊢
      clear hw2e HI
      go_wp2
      clear s1
      go_loopw [9] (fun i wr => ∃ t : Nat, lo ≤ t ∧ t ≤ hi + 1 ∧ i = .int .i64 t ∧ Hid (wr.ownsRow w.heap.size 3 1 (.slice (some ⟨g, 0, none⟩) n cap) n ((bridgeTo (endsL xs lo hi) L lo hi (t - lo)).map (Value.int .i64)) ∧ Below w.heap.size w wr)) (fun i _ => hi + 1 - (intOf i).toNat)
      case atStart => exact ⟨lo, Nat.le_refl _, by omega, rfl, by show _ ∧ _; rw [Nat.sub_self, bridgeTo_zero]; exact HI0.out⟩
      case round =>
        obtain ⟨t, ht1, ht2, rfl, HT⟩ := hrel
        obtain ⟨c0, c1⟩ := HQ.out wr HT.out.2
        by_cases hth : t ≤ hi
        · have hthI : (t : Int) ≤ (hi : Int) := by omega
          have hset := bridgeTo_set (endsL xs lo hi) L lo hi (t - lo)
          rw [show lo + (t - lo) = t by omega, show t - lo + 1 = t + 1 - lo by omega] at hset
          obtain ⟨y, hy⟩ : ∃ y, bridgeAt (endsL xs lo hi) lo hi t = y := ⟨_, rfl⟩
          rw [hy] at hset
          have HSET := Lib.hid hset
          have hold := HT.out.1.cellAt t (by omega)
          have hfz := HT.out.1.frozenAt t
          rw [List.getElem?_map, List.getElem?_eq_getElem (by rw [bridgeTo_length, HLL.out]; omega)] at hold
          obtain ⟨o, hoo⟩ : ∃ o, (bridgeTo (endsL xs lo hi) L lo hi (t - lo))[t]'(by rw [bridgeTo_length, HLL.out]; omega) = o := ⟨_, rfl⟩
          rw [hoo] at hold
          have htn : (t : Int) < (n : Int) := by omega
          have ht0 : (0 : Int) ≤ (t : Int) := by omega
          clear hoo hset
          have HF : Hid ((wr.setCell ⟨g, t, none⟩ (.int .i64 y)).ownsRow w.heap.size 3 1 (.slice (some ⟨g, 0, none⟩) n cap) n ((bridgeTo (endsL xs lo hi) L lo hi (t + 1 - lo)).map (Value.int .i64)) ∧ Below w.heap.size w (wr.setCell ⟨g, t, none⟩ (.int .i64 y))) := by
            obtain ⟨k1, k2⟩ := HT.out.1.stored t (.int .i64 y)
            have e : ((bridgeTo (endsL xs lo hi) L lo hi (t - lo)).map (Value.int .i64)).set t (.int .i64 y) = (bridgeTo (endsL xs lo hi) L lo hi (t + 1 - lo)).map (Value.int .i64) := by rw [← HSET.out, List.map_set]
            rw [e] at k1
            exact ⟨k1, HT.out.2.grown k2 HT.out.2.size (fun z e => by cases e; exact hgw)⟩
          by_cases hlo0 : lo = 0
          · have hPn : P < 0 := by have := HPE.out.1; omega
            have hen : en < n := by have := HPE.out.2; omega
            have henI : (en : Int) < (n : Int) := by omega
            have hen0 : (0 : Int) ≤ (en : Int) := by omega
            have l1 := HXQ.out wr HT.out.2 en hen
            have hyv : xs.getD en 0 = y := by rw [← hy]; unfold endsL bridgeAt; rw [if_pos hlo0]; dsimp only; rw [lerp_same, ← HPE.out.2]
            rw [hyv] at l1
            clear hy hyv hlo0
            go_wp2
            go_roundw
            case rel => exact ⟨t + 1, by omega, by omega, by go_num, HF.out⟩
            case measure => simp [intOf]; omega
          · obtain ⟨p, hp⟩ : ∃ p : Nat, P = (p : Int) := ⟨P.toNat, by have := HPE.out.1; omega⟩
            subst hp
            have hpl : p = lo - 1 := by have := HPE.out.1; omega
            have hpn : ¬ (p : Int) < 0 := by omega
            have hp0 : (0 : Int) ≤ (p : Int) := by omega
            have hpnI : (p : Int) < (n : Int) := by omega
            have l1 := HXQ.out wr HT.out.2 p (by omega)
            by_cases hen : en = n
            · have henb : ((en : Int) == (n : Int)) = true := by rw [hen]; simp
              have hyv : xs.getD p 0 = y := by
                rw [← hy]
                unfold endsL bridgeAt
                rw [if_neg hlo0, if_pos (by rw [HLN.out, ← hen]; exact HPE.out.2)]
                dsimp only
                rw [lerp_same, ← hpl]
              rw [hyv] at l1
              clear hy hyv hlo0 hen hpl
              go_wp2
              go_roundw
              case rel => exact ⟨t + 1, by omega, by omega, by go_num, HF.out⟩
              case measure => simp [intOf]; omega
            · have henb : ((en : Int) == (n : Int)) = false := by rw [beq_eq_false_iff_ne]; omega
              have he2 := HPE.out.2
              have henI : (en : Int) < (n : Int) := by omega
              have hen0 : (0 : Int) ≤ (en : Int) := by omega
              have l2 := HXQ.out wr HT.out.2 en (by omega)
              have hbx := HSM.out.2.at_ p
              have hbz := HSM.out.2.at_ en
              obtain ⟨x, hxe⟩ : ∃ x, xs.getD p 0 = x := ⟨_, rfl⟩
              obtain ⟨z, hze⟩ : ∃ z, xs.getD en 0 = z := ⟨_, rfl⟩
              rw [hxe] at l1 hbx
              rw [hze] at l2 hbz
              obtain ⟨T, hT⟩ : ∃ T : Int, (en : Int) - (p : Int) = T := ⟨_, rfl⟩
              obtain ⟨U, hU⟩ : ∃ U : Int, (t : Int) - (p : Int) = U := ⟨_, rfl⟩
              obtain ⟨D, hD⟩ : ∃ D : Int, z - x = D := ⟨_, rfl⟩
              have hmb := mul_bd (x := D) (t := U) (M := 2000000) (T := 2000) (by omega) (by omega) (by omega) (by omega) (by omega)
              have hmc := mul_bd (x := x) (t := T) (M := 2000000) (T := 2000) (by omega) (by omega) (by omega) (by omega) (by omega)
              have hyv : (x * T + D * U) / T = y := by
                rw [← hy, ← hD, lerp_floor _ _ _ _ (by omega)]
                unfold endsL bridgeAt
                rw [if_neg hlo0, if_neg (by rw [HLN.out]; omega)]
                dsimp only
                rw [← hpl, hxe, he2, hze, show (t : Int) - ((lo : Int) - 1) = U by omega, show (hi : Int) + 1 - ((lo : Int) - 1) = T by omega]
              obtain ⟨M1, hM1⟩ : ∃ M1, x * T = M1 := ⟨_, rfl⟩
              obtain ⟨M2, hM2⟩ : ∃ M2, D * U = M2 := ⟨_, rfl⟩
              obtain ⟨N1, hN1⟩ : ∃ N1, M1 + M2 = N1 := ⟨_, rfl⟩
              rw [hM1, hM2, hN1] at hyv
              rw [hM2] at hmb
              rw [hM1] at hmc
              have v1 : IntKind.i64.wrap ((en : Int) - (p : Int)) = T := by rw [hT]; exact IntWalk.i64_in _ (by omega)
              have v2 : IntKind.i64.wrap (x * T) = M1 := by rw [hM1]; exact IntWalk.i64_in _ (by omega)
              have v3 : IntKind.i64.wrap (z - x) = D := by rw [hD]; exact IntWalk.i64_in _ (by omega)
              have v4 : IntKind.i64.wrap ((t : Int) - (p : Int)) = U := by rw [hU]; exact IntWalk.i64_in _ (by omega)
              have v5 : IntKind.i64.wrap (D * U) = M2 := by rw [hM2]; exact IntWalk.i64_in _ (by omega)
              have v6 : IntKind.i64.wrap (M1 + M2) = N1 := by rw [hN1]; exact IntWalk.i64_in _ (by omega)
              have CF : Hid (∀ W, Calls Tryd.prog 57 #[.int .i64 N1, .int .i64 T] W fun e w' => e = .returned (.int .i64 y) ∧ W = w') := fun W => by rw [← hyv]; exact floor_any N1 T (by omega) (by omega) W
              have hgb : ∀ m, (ax.add m).block ≠ g := fun m => by rw [addBlock]; omega
              have HS3 : Hid ((fun w' : World => w'.cell? (ax.add p) = some (.int .i64 x) ∧ w'.cell? (ax.add en) = some (.int .i64 z)) wr.drew) := ⟨l1, l2⟩
              have HSC : Hid ((fun w' : World => w'.cell? (ax.add p) = some (.int .i64 x) ∧ w'.cell? (ax.add en) = some (.int .i64 z)) (wr.setCell ⟨g, t, none⟩ (.int .i64 y)).drew) := ⟨cell_far l1 (hgb p), cell_far l2 (hgb en)⟩
              have hold' : wr.drew.cell? ⟨g, t, none⟩ = some (.int .i64 o) := hold
              have hfz' : wr.drew.frozen? ⟨g, t, none⟩ = false := hfz
              clear hy hyv hxe hze hT hU hD hM1 hM2 hN1 hmb hmc hbx hbz he2 hpl hlo0 l1 l2 hgb hen
              go_wp2_with fail
              refine wp_region_held_drew (S := (fun w' : World => w'.cell? (ax.add p) = some (.int .i64 x) ∧ w'.cell? (ax.add en) = some (.int .i64 z))) (by kernel_rfl) ?_ ?_
              · first | (with_reducible assumption) | exact HS3.out | exact HSC.out
              intro hHeld
              refine wpAnyH_take (i := 0) (v := ?_) rfl (by kernel_rfl) (by kernel_rfl) (by kernel_rfl) (fun _ _ _ h => h) (Or.inl ⟨by rfl, ?_⟩) (by assumption) ?_
              rotate_left
              · intro w hSw; (try dsimp only at hSw); go_simp; (try (with_reducible rfl))
              try simp only [List.getElem_toArray, List.getElem_cons_succ, List.getElem_cons_zero, Act.put, List.setIfInBounds_toArray, List.set_cons_zero, List.set_cons_succ]
              refine wpAnyH_take (i := 1) (v := ?_) rfl (by kernel_rfl) (by kernel_rfl) (by kernel_rfl) (fun _ _ _ h => h) (Or.inl ⟨by rfl, ?_⟩) (by assumption) ?_
              rotate_left
              · intro w hSw; (try dsimp only at hSw); go_simp; (try (with_reducible rfl))
              try simp only [List.getElem_toArray, List.getElem_cons_succ, List.getElem_cons_zero, Act.put, List.setIfInBounds_toArray, List.set_cons_zero, List.set_cons_succ]
              refine wpAnyH_take (i := 2) (v := ?_) rfl (by kernel_rfl) (by kernel_rfl) (by kernel_rfl) (fun _ _ _ h => h) (Or.inl ⟨by rfl, ?_⟩) (by assumption) ?_
              rotate_left
              · intro w hSw; (try dsimp only at hSw); go_simp; (try (with_reducible rfl))
              try simp only [List.getElem_toArray, List.getElem_cons_succ, List.getElem_cons_zero, Act.put, List.setIfInBounds_toArray, List.set_cons_zero, List.set_cons_succ]
              refine wpAnyH_take (i := 3) (v := ?_) rfl (by kernel_rfl) (by kernel_rfl) (by kernel_rfl) (fun _ _ _ h => h) (Or.inl ⟨by rfl, ?_⟩) (by assumption) ?_
              rotate_left
              · intro w hSw; (try dsimp only at hSw); go_simp; (try (with_reducible rfl))
              try simp only [List.getElem_toArray, List.getElem_cons_succ, List.getElem_cons_zero, Act.put, List.setIfInBounds_toArray, List.set_cons_zero, List.set_cons_succ]
              refine wpAnyH_take (i := 4) (v := ?_) rfl (by kernel_rfl) (by kernel_rfl) (by kernel_rfl) (fun _ _ _ h => h) (Or.inl ⟨by rfl, ?_⟩) (by assumption) ?_
              rotate_left
              · intro w hSw; (try dsimp only at hSw); go_simp; (try (with_reducible rfl))
              try simp only [List.getElem_toArray, List.getElem_cons_succ, List.getElem_cons_zero, Act.put, List.setIfInBounds_toArray, List.set_cons_zero, List.set_cons_succ]
              refine wpAnyH_take (i := 5) (v := ?_) rfl (by kernel_rfl) (by kernel_rfl) (by kernel_rfl) (fun _ _ _ h => h) (Or.inl ⟨by rfl, ?_⟩) (by assumption) ?_
              rotate_left
              · intro w hSw; (try dsimp only at hSw); go_simp; (try (with_reducible rfl))
              try simp only [List.getElem_toArray, List.getElem_cons_succ, List.getElem_cons_zero, Act.put, List.setIfInBounds_toArray, List.set_cons_zero, List.set_cons_succ]
              refine wpAnyH_take (i := 6) (v := ?_) rfl (by kernel_rfl) (by kernel_rfl) (by kernel_rfl) (fun _ _ _ h => h) (Or.inl ⟨by rfl, ?_⟩) (by assumption) ?_
              rotate_left
              · intro w hSw; (try dsimp only at hSw); go_simp; (try (with_reducible rfl))
              try simp only [List.getElem_toArray, List.getElem_cons_succ, List.getElem_cons_zero, Act.put, List.setIfInBounds_toArray, List.set_cons_zero, List.set_cons_succ]
              refine wpAnyH_take (i := 7) (v := ?_) rfl (by kernel_rfl) (by kernel_rfl) (by kernel_rfl) (fun _ _ _ h => h) (Or.inl ⟨by rfl, ?_⟩) (by assumption) ?_
              rotate_left
              · intro w hSw; (try dsimp only at hSw); go_simp; (try (with_reducible rfl))
              try simp only [List.getElem_toArray, List.getElem_cons_succ, List.getElem_cons_zero, Act.put, List.setIfInBounds_toArray, List.set_cons_zero, List.set_cons_succ]
              refine wpAnyH_take (i := 8) (v := ?_) rfl (by kernel_rfl) (by kernel_rfl) (by kernel_rfl) (fun _ _ _ h => h) (Or.inl ⟨by rfl, ?_⟩) (by assumption) ?_
              rotate_left
              · intro w hSw; (try dsimp only at hSw); go_simp; (try (with_reducible rfl))
              try simp only [List.getElem_toArray, List.getElem_cons_succ, List.getElem_cons_zero, Act.put, List.setIfInBounds_toArray, List.set_cons_zero, List.set_cons_succ]
              refine wpAnyH_take (i := 9) (v := ?_) rfl (by kernel_rfl) (by kernel_rfl) (by kernel_rfl) (fun _ _ _ h => h) (Or.inl ⟨by rfl, ?_⟩) (by assumption) ?_
              rotate_left
              · intro w hSw; (try dsimp only at hSw); go_simp; (try (with_reducible rfl))
              try simp only [List.getElem_toArray, List.getElem_cons_succ, List.getElem_cons_zero, Act.put, List.setIfInBounds_toArray, List.set_cons_zero, List.set_cons_succ]
              refine wpAnyH_take (i := 10) (v := ?_) rfl (by kernel_rfl) (by kernel_rfl) (by kernel_rfl) (fun _ _ _ h => h) (Or.inl ⟨by rfl, ?_⟩) (by assumption) ?_
              rotate_left
              · intro w hSw; (try dsimp only at hSw); go_simp; (try (with_reducible rfl))
              try simp only [List.getElem_toArray, List.getElem_cons_succ, List.getElem_cons_zero, Act.put, List.setIfInBounds_toArray, List.set_cons_zero, List.set_cons_succ]
              refine wpAnyH_take (i := 11) (v := ?_) rfl (by kernel_rfl) (by kernel_rfl) (by kernel_rfl) (fun _ _ _ h => h) (Or.inl ⟨by rfl, ?_⟩) (by assumption) ?_
              rotate_left
              · intro w hSw; (try dsimp only at hSw); go_simp; (try (with_reducible rfl))
              try simp only [List.getElem_toArray, List.getElem_cons_succ, List.getElem_cons_zero, Act.put, List.setIfInBounds_toArray, List.set_cons_zero, List.set_cons_succ]
              refine wpAnyH_take (i := 12) (v := ?_) rfl (by kernel_rfl) (by kernel_rfl) (by kernel_rfl) (fun _ _ _ h => h) (Or.inl ⟨by rfl, ?_⟩) (by assumption) ?_
              rotate_left
              · intro w hSw; (try dsimp only at hSw); go_simp; (try (with_reducible rfl))
              try simp only [List.getElem_toArray, List.getElem_cons_succ, List.getElem_cons_zero, Act.put, List.setIfInBounds_toArray, List.set_cons_zero, List.set_cons_succ]
              refine wpAnyH_take (i := 13) (v := ?_) rfl (by kernel_rfl) (by kernel_rfl) (by kernel_rfl) (fun _ _ _ h => h) (Or.inl ⟨by rfl, ?_⟩) (by assumption) ?_
              rotate_left
              · intro w hSw; (try dsimp only at hSw); go_simp; (try (with_reducible rfl))
              try simp only [List.getElem_toArray, List.getElem_cons_succ, List.getElem_cons_zero, Act.put, List.setIfInBounds_toArray, List.set_cons_zero, List.set_cons_succ]
              refine wpAnyH_take (i := 14) (v := ?_) rfl (by kernel_rfl) (by kernel_rfl) (by kernel_rfl) (fun _ _ _ h => h) (Or.inl ⟨by rfl, ?_⟩) (by assumption) ?_
              rotate_left
              · intro w hSw; (try dsimp only at hSw); go_simp; (try (with_reducible rfl))
              try simp only [List.getElem_toArray, List.getElem_cons_succ, List.getElem_cons_zero, Act.put, List.setIfInBounds_toArray, List.set_cons_zero, List.set_cons_succ]
              refine wpAnyH_take (i := 15) (v := ?_) rfl (by kernel_rfl) (by kernel_rfl) (by kernel_rfl) (fun _ _ _ h => h) (Or.inl ⟨by rfl, ?_⟩) (by assumption) ?_
              rotate_left
              · intro w hSw; (try dsimp only at hSw); go_simp; (try (with_reducible rfl))
              try simp only [List.getElem_toArray, List.getElem_cons_succ, List.getElem_cons_zero, Act.put, List.setIfInBounds_toArray, List.set_cons_zero, List.set_cons_succ]
              refine wpAnyH_take (i := 16) (v := ?_) rfl (by kernel_rfl) (by kernel_rfl) (by kernel_rfl) (fun _ _ _ h => h) (Or.inl ⟨by rfl, ?_⟩) (by assumption) ?_
              rotate_left
              · intro w hSw; (try dsimp only at hSw); go_simp; (try (with_reducible rfl))
              try simp only [List.getElem_toArray, List.getElem_cons_succ, List.getElem_cons_zero, Act.put, List.setIfInBounds_toArray, List.set_cons_zero, List.set_cons_succ]
              refine wpAnyH_take (i := 17) (v := ?_) rfl (by kernel_rfl) (by kernel_rfl) (by kernel_rfl) (fun _ _ _ h => h) (Or.inl ⟨by rfl, ?_⟩) (by assumption) ?_
              rotate_left
              · intro w hSw; (try dsimp only at hSw); go_simp; (try (with_reducible rfl))
              try simp only [List.getElem_toArray, List.getElem_cons_succ, List.getElem_cons_zero, Act.put, List.setIfInBounds_toArray, List.set_cons_zero, List.set_cons_succ]
              refine wpAnyH_take (i := 18) (v := ?_) rfl (by kernel_rfl) (by kernel_rfl) (by kernel_rfl) (fun _ _ _ h => h) (Or.inl ⟨by rfl, ?_⟩) (by assumption) ?_
              rotate_left
              · intro w hSw; (try dsimp only at hSw); go_simp; (try (with_reducible rfl))
              try simp only [List.getElem_toArray, List.getElem_cons_succ, List.getElem_cons_zero, Act.put, List.setIfInBounds_toArray, List.set_cons_zero, List.set_cons_succ]
              refine wpAnyH_take (i := 19) (v := ?_) rfl (by kernel_rfl) (by kernel_rfl) (by kernel_rfl) (fun _ _ _ h => h) (Or.inl ⟨by rfl, ?_⟩) (by assumption) ?_
              rotate_left
              · intro w hSw; (try dsimp only at hSw); go_simp; (try (with_reducible rfl))
              try simp only [List.getElem_toArray, List.getElem_cons_succ, List.getElem_cons_zero, Act.put, List.setIfInBounds_toArray, List.set_cons_zero, List.set_cons_succ]
              refine wpAnyH_take (i := 20) (v := ?_) rfl (by kernel_rfl) (by kernel_rfl) (by kernel_rfl) (fun _ _ _ h => h) (Or.inl ⟨by rfl, ?_⟩) (by assumption) ?_
              rotate_left
              · intro w hSw; (try dsimp only at hSw); go_simp; (try (with_reducible rfl))
              try simp only [List.getElem_toArray, List.getElem_cons_succ, List.getElem_cons_zero, Act.put, List.setIfInBounds_toArray, List.set_cons_zero, List.set_cons_succ]
              refine wpAnyH_take (i := 21) (v := ?_) rfl (by kernel_rfl) (by kernel_rfl) (by kernel_rfl) (fun _ _ _ h => h) (Or.inl ⟨by rfl, ?_⟩) (by assumption) ?_
              rotate_left
              · intro w hSw; (try dsimp only at hSw); go_simp; (try (with_reducible rfl))
              try simp only [List.getElem_toArray, List.getElem_cons_succ, List.getElem_cons_zero, Act.put, List.setIfInBounds_toArray, List.set_cons_zero, List.set_cons_succ]
              refine wpAnyH_take (i := 22) (v := ?_) rfl (by kernel_rfl) (by kernel_rfl) (by kernel_rfl) (fun _ _ _ h => h) (Or.inl ⟨by rfl, ?_⟩) (by assumption) ?_
              rotate_left
              · intro w hSw; (try dsimp only at hSw); go_simp; (try (with_reducible rfl))
              try simp only [List.getElem_toArray, List.getElem_cons_succ, List.getElem_cons_zero, Act.put, List.setIfInBounds_toArray, List.set_cons_zero, List.set_cons_succ]
              refine wpAnyH_take (i := 23) (v := ?_) rfl (by kernel_rfl) (by kernel_rfl) (by kernel_rfl) (fun _ _ _ h => h) (Or.inl ⟨by rfl, ?_⟩) (by assumption) ?_
              rotate_left
              · intro w hSw; (try dsimp only at hSw); go_simp; (try (with_reducible rfl))
              try simp only [List.getElem_toArray, List.getElem_cons_succ, List.getElem_cons_zero, Act.put, List.setIfInBounds_toArray, List.set_cons_zero, List.set_cons_succ]
              refine wpAnyH_take (i := 24) (v := ?_) rfl (by kernel_rfl) (by kernel_rfl) (by kernel_rfl) (fun _ _ _ h => h) (Or.inl ⟨by rfl, ?_⟩) (by assumption) ?_
              rotate_left
              · intro w hSw; (try dsimp only at hSw); go_simp; (try (with_reducible rfl))
              try simp only [List.getElem_toArray, List.getElem_cons_succ, List.getElem_cons_zero, Act.put, List.setIfInBounds_toArray, List.set_cons_zero, List.set_cons_succ]
              refine wpAnyH_take (i := 25) (v := ?_) rfl (by kernel_rfl) (by kernel_rfl) (by kernel_rfl) (fun _ _ _ h => h) (Or.inl ⟨by rfl, ?_⟩) (by assumption) ?_
              rotate_left
              · intro w hSw; (try dsimp only at hSw); go_simp; (try (with_reducible rfl))
              try simp only [List.getElem_toArray, List.getElem_cons_succ, List.getElem_cons_zero, Act.put, List.setIfInBounds_toArray, List.set_cons_zero, List.set_cons_succ]
              refine wpAnyH_take (i := 26) (v := ?_) rfl (by kernel_rfl) (by kernel_rfl) (by kernel_rfl) (fun _ _ _ h => h) (Or.inl ⟨by rfl, ?_⟩) (by assumption) ?_
              rotate_left
              · intro w hSw; (try dsimp only at hSw); go_simp; (try (with_reducible rfl))
              try simp only [List.getElem_toArray, List.getElem_cons_succ, List.getElem_cons_zero, Act.put, List.setIfInBounds_toArray, List.set_cons_zero, List.set_cons_succ]
              refine wpAnyH_ready (rs := [27]) (by kernel_rfl) (by simp) ?_
              refine AllReadyH.cons rfl (fun K hK => ?_) AllReadyH.nil
              go_simp
              have hHeldOld := hHeld; go_at_call 57; refine (CF.out _).mono ?_; rintro e w' ⟨rfl, rfl⟩
              go_wp2_with fail
              refine hK.out _ _ ?_ (fun hHeld => ?_)
              · clear hK K; first | (with_reducible assumption) | exact HS3.out | exact HSC.out
              clear hK K
              try simp only [List.getElem_toArray, List.getElem_cons_succ, List.getElem_cons_zero, Act.put, List.setIfInBounds_toArray, List.set_cons_zero, List.set_cons_succ]
              refine wpAnyH_take (i := 28) (v := ?_) rfl (by kernel_rfl) (by kernel_rfl) (by kernel_rfl) (fun _ _ _ h => h) (Or.inl ⟨by rfl, ?_⟩) (by assumption) ?_
              rotate_left
              · intro w hSw; (try dsimp only at hSw); go_simp; (try (with_reducible rfl))
              try simp only [List.getElem_toArray, List.getElem_cons_succ, List.getElem_cons_zero, Act.put, List.setIfInBounds_toArray, List.set_cons_zero, List.set_cons_succ]
              refine wpAnyH_ready (rs := [29]) (by kernel_rfl) (by simp) ?_
              refine AllReadyH.cons rfl (fun K hK => ?_) AllReadyH.nil
              go_simp
              refine hK.out _ _ ?_ (fun hHeld => ?_)
              · clear hK K; first | (with_reducible assumption) | exact HS3.out | exact HSC.out
              clear hK K
              try simp only [List.getElem_toArray, List.getElem_cons_succ, List.getElem_cons_zero, Act.put, List.setIfInBounds_toArray, List.set_cons_zero, List.set_cons_succ]
              refine wpAnyH_done (by kernel_rfl) ?_ _
              clear hHeld HS3 HSC
              go_wp2
              go_roundw
              case rel => exact ⟨t + 1, by omega, by omega, by go_num, HF.out.1.drew, HF.out.2.drew⟩
              case measure => simp [intOf]; omega
        · have hthI : ¬ (t : Int) ≤ (hi : Int) := by omega
          obtain rfl : hi + 1 = t := by omega
          have HFIN : Hid (wr.ownsRow w.heap.size 3 1 (.slice (some ⟨g, 0, none⟩) n cap) n ((refL xs (gs.take (j + 1))).map (Value.int .i64)) ∧ Below w.heap.size w wr) := by show _ ∧ _; rw [HTK.out]; exact HT.out
          clear HTK HT HQ HXQ
          go_wp2
          go_roundw
          case rel => exact ⟨j + 1, by omega, by go_num, HFIN.out⟩
          case measure => simp [intOf]; omega
    · obtain rfl : k = j := by omega
      have HT : Hid (gs.take k = gs) := by show _ = _; rw [List.take_of_length_le (by rw [HGL.out]; exact Nat.le_refl _)]
      have h := HI.out
      rw [HT.out] at h
      have HF := Lib.hid h
      clear h HI
      go_wp2
      go_ret
      refine ⟨⟨_, rfl, ?_⟩, HF.out.2⟩
      rw [refL_length, HLN.out]
      exact HF.out.1

end Go.Proofs.YtnmfeonagigkeaaDoor
