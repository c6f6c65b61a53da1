import Derived.Test.YtkemoffagdilgaaGreatDoorUE
import Derived.Test.YtkemoffagdilgaaGreatDoorW10
namespace Go.Proofs.YtkemoffagdilgaaGreatDoor
open Go.RowKit

def setF (f : Nat → Int) (j : Nat) (v : Int) : Nat → Int := fun i => if i = j then v else f i
theorem bRow_set (f : Nat → Int) (j : Nat) (v : Int) (h : j < 11) : (bRow f).setIfInBounds j (.int .i64 v) = bRow (setF f j v) := by
  rcases j11 h with rfl | rfl | rfl | rfl | rfl | rfl | rfl | rfl | rfl | rfl | rfl <;> simp [bRow, setF]
theorem arrInfR (f : Nat → Int) : (Tryz.prog.info? 51).map (·.size) = some (bRow f).size := arrInf11
theorem arrInfN : (Tryz.prog.info? 51).map (·.size) = some noB.size := arrInf11
theorem bRow_noB : noB = bRow (fun _ => 0) := rfl

set_option maxRecDepth 100000 in
set_option maxHeartbeats 8000000 in
theorem blockNum_any (s : ByteArray) (w : World) (hl : LaidB w) (hs : s.size ≤ 1000000) (ps : List (List UInt8)) (hps : pcs 32 s.data.toList = ps) :
    Calls Tryz.prog 18 #[.string s] w fun e w' => ∃ h ok, e = .returned (.tuple #[.agg (bRow h), .bool ok]) ∧ (ok = true → ps.length = 11 ∧ (∀ i, i < 11 → goodB ps i) ∧ h = valB ps) ∧ (ok = false → ps.length ≠ 11 ∨ ∃ j, j < 11 ∧ ¬ goodB ps j) ∧ Below w.heap.size w w' := by
  obtain ⟨w1, hw1⟩ : ∃ W, (w.alloc (.cells noB 51)).alloc (.cells noB 51) = W := ⟨_, rfl⟩
  have B1 : Hid (Below w.heap.size w w1) := by show Below _ _ _; rw [← hw1]; exact ((Below.refl _ _).alloc (Nat.le_refl _) _).alloc (by simp) _
  have K1 : Hid (Bk w1 w.heap.size 51 noB) := by show Bk _ _ _ _; rw [← hw1]; exact (Bk.new w _ _).alloc _
  have M1 : Hid (Bk w1 (w.heap.size + 1) 51 noB) := by show Bk _ _ _ _; rw [← hw1]; simpa using Bk.new (w.alloc (.cells noB 51)) 51 noB
  have C := Lib.hid (wordsB_any s w1 (hl.later B1.out) hs)
  rw [hps] at C
  have htz : ∀ i, (tB ps i).length ≤ 1000000 := fun i => by
    unfold tB
    rw [List.getD_eq_getElem?_getD]
    cases h : ps[i]? with
    | none => simp
    | some p =>
      have := pcs_sz' 32 s.data.toList p (by rw [hps]; exact List.mem_of_getElem? h)
      have e : s.data.toList.length = s.size := by simp
      simp only [Option.getD_some]
      omega
  have HTZ := Lib.hid htz
  have HW1 := Lib.hid hw1
  clear hl hs hps htz hw1
  by_cases h11 : ps.length = 11
  · rw [decide_eq_true h11] at C
    have HLN := Lib.hid h11
    clear h11
    go_enter Tryz.func18, Tryz.ntmps18
    go_wp2_with fail
    refine Calls.mono (w := (w.alloc (.cells noB 51)).alloc (.cells noB 51)) (by rw [HW1.out]; exact C.out) ?_
    rintro e w2 ⟨n, cp, rfl, hn, -, hc, hg, hb2⟩
    obtain rfl := hn HLN.out
    have HC := Lib.hid (hc HLN.out)
    have B2 := Lib.hid (B1.out.trans (hb2.mono B1.out.size))
    have K2 : Hid (Bk w2 w.heap.size 51 noB) := K1.out.below hb2 K1.out.lt
    have M2 : Hid (Bk w2 (w.heap.size + 1) 51 (bRow (upB ps 0))) := by show Bk _ _ _ _; rw [bRow_zero]; exact M1.out.below hb2 M1.out.lt
    have hgne : w1.heap.size ≠ w.heap.size + 1 := by have := M1.out.lt; omega
    obtain ⟨g, hgg⟩ : ∃ g, w1.heap.size = g := ⟨_, rfl⟩
    rw [hgg] at HC hgne hg ⊢
    have HNE := Lib.hid hgne
    clear hc hn hb2 hgg hgne
    go_wp2
    go_loopw [6, 7, 8, 9, 20] (fun _ _ _ _ k wr => ∃ j : Nat, j ≤ 11 ∧ k = .int .i64 (j : Int) ∧ Hid (Bk wr (w.heap.size + 1) 51 (bRow (upB ps j))) ∧ Hid (Bk wr w.heap.size 51 noB) ∧ Hid (Below w.heap.size w wr) ∧ Hid (∀ k x, ps[k]? = some x → wr.cell? ⟨g, k, none⟩ = some (sv x)) ∧ Hid (∀ m, m < j → goodB ps m)) (fun _ _ _ _ k _ => 11 - (intOf k).toNat)
    case atStart => exact ⟨0, by omega, rfl, M2.out, K2.out, B2.out, HC.out, fun m h => by omega⟩
    case round =>
      clear M2 K2 B2 HC M1 K1 B1 C HW1
      obtain ⟨j, hj, rfl, HM, HK, HB, HC, HG⟩ := hrel
      by_cases hlt : j < 11
      · obtain ⟨tx, htx⟩ : ∃ tx : ByteArray, tx.data.toList = tB ps j := ⟨⟨(tB ps j).toArray⟩, by simp⟩
        have hcj : wr.cell? ⟨g, j, none⟩ = some (.string tx) := by
          rw [HC.out j (tB ps j) (by unfold tB; rw [List.getD_eq_getElem?_getD, List.getElem?_eq_getElem (by rw [HLN.out]; exact hlt)]; rfl), ← htx]
          rfl
        have haj : wr.cell? ⟨w.heap.size + 1, j, none⟩ = some (.int .i64 0) := by rw [HM.out.cell, bRow_at _ j hlt, upB_at]
        have hfj : wr.frozen? ⟨w.heap.size + 1, j, none⟩ = false := HM.out.frozen _
        have hltI : (j : Int) < 11 := by omega
        have hz : tx.size ≤ 1000000 := by
          have h1 : tx.data.toList.length = tx.size := by simp
          have h2 := HTZ.out j
          rw [← htx, h1] at h2
          exact h2
        -- what the chosen function gives
        have RD : ∃ v ok, (ok = true → goodB ps j ∧ v = valB ps j) ∧ (ok = false → ¬ goodB ps j) ∧ Hid (¬ (2 ≤ j ∧ j < 10) → ∀ W, Calls Tryz.prog 45 #[.string tx] W fun e w' => e = .returned (.tuple #[.int .i64 v, .bool ok]) ∧ W = w') ∧ Hid (2 ≤ j ∧ j < 10 → ∀ W, Calls Tryz.prog 46 #[.string tx] W fun e w' => ∃ v', e = .returned (.tuple #[.int .i64 v', .bool ok]) ∧ (ok = true → v' = v) ∧ W = w') := by
          by_cases hi : 2 ≤ j ∧ j < 10
          · refine ⟨valB ps j, (numS (tB ps j) 6).isSome, fun h => ⟨?_, rfl⟩, fun h => ?_, fun h => absurd hi h, fun _ W => ?_⟩
            · cases hN : numS (tB ps j) 6 with
              | none => rw [hN] at h; cases h
              | some v => exact ⟨v, hN, .inr ⟨hi.1, by omega⟩⟩
            · rintro ⟨v, e, _⟩; rw [e] at h; cases h
            · have := signed_any tx W hz
              rw [htx] at this
              refine this.mono ?_
              rintro e w' ⟨v', rfl, hv', rfl⟩
              exact ⟨v', rfl, hv', rfl⟩
          · refine ⟨(((numN (tB ps j)).getD 0 : Nat) : Int), (numN (tB ps j)).isSome, fun h => ⟨?_, ?_⟩, fun h => ?_, fun _ W => ?_, fun h => absurd h hi⟩
            · obtain ⟨v, h1, h2⟩ := (goodNum _).2 h
              exact ⟨v, h1, .inl h2⟩
            · exact (goodVal _ h).symm
            · rintro ⟨v, e, h2⟩
              have : (numN (tB ps j)).isSome = true := (goodNum _).1 ⟨v, e, by rcases h2 with h2 | h2; exact h2; omega⟩
              rw [this] at h; cases h
            · have := wordNum_any tx W (by omega)
              rw [htx] at this
              exact this
        obtain ⟨v, ok, hok1, hok2, R1, R2⟩ := RD
        have HO1 := Lib.hid hok1
        have HO2 := Lib.hid hok2
        clear htx hz hok1 hok2
        -- behind the call
        have NXT : Hid (ok = true → ∀ v', v' = v → Bk (wr.setCell ⟨w.heap.size + 1, j, none⟩ (.int .i64 v')) (w.heap.size + 1) 51 (bRow (upB ps (j + 1)))) := by
          intro h v' hv'
          rw [← bRow_step ps j hlt, hv', (HO1.out h).2]
          exact HM.out.set_ _ _
        have OTH : Hid (∀ v' : Int, Bk (wr.setCell ⟨w.heap.size + 1, j, none⟩ (.int .i64 v')) (w.heap.size + 1) 51 (bRow (setF (upB ps j) j v')) ∧ Bk (wr.setCell ⟨w.heap.size + 1, j, none⟩ (.int .i64 v')) w.heap.size 51 noB ∧ Below w.heap.size w (wr.setCell ⟨w.heap.size + 1, j, none⟩ (.int .i64 v')) ∧ (∀ k x, ps[k]? = some x → (wr.setCell ⟨w.heap.size + 1, j, none⟩ (.int .i64 v')).cell? ⟨g, k, none⟩ = some (sv x))) := by
          intro v'
          refine ⟨by rw [← bRow_set _ j v' hlt]; exact HM.out.set_ _ _, HK.out.far _ (by show w.heap.size ≠ w.heap.size + 1; omega) _, HB.out.setCell (by show w.heap.size ≤ w.heap.size + 1; omega) _, fun k x hx => ?_⟩
          rw [World.cell?_setCell_other _ _ _ _ (by intro e; exact HNE.out (congrArg Addr.block e).symm)]
          exact HC.out k x hx
        by_cases hi : 2 ≤ j ∧ j < 10
        · have C2 := Lib.hid (R2.out hi)
          have h2I : (2 : Int) ≤ (j : Int) := by omega
          have h10I : (j : Int) < 10 := by omega
          clear R1 R2 hi
          go_wp2_with fail
          refine (C2.out _).mono ?_
          rintro e w' ⟨v', rfl, hv', rfl⟩
          have HV' := Lib.hid hv'
          clear hv'
          cases ok
          · have O := Lib.hid (OTH.out v')
            clear OTH NXT
            have F0 : Hid (Bk ((wr.setCell ⟨w.heap.size + 1, j, none⟩ (.int .i64 v')).setRow w.heap.size (bRow (setF (upB ps j) j v'))) w.heap.size 51 (bRow (setF (upB ps j) j v')) ∧ Below w.heap.size w ((wr.setCell ⟨w.heap.size + 1, j, none⟩ (.int .i64 v')).setRow w.heap.size (bRow (setF (upB ps j) j v')))) := ⟨setRow_heap _ _ _ _ _ _ O.out.2.1.heap, below_setRow O.out.2.2.1 (Nat.le_refl _) _⟩
            go_wp2_with (first
              | (with_reducible refine wpList_load_row rfl 51 (.tmp 4) rfl (w.heap.size + 1) rfl 51 (bRow (setF (upB ps j) j v')) (0, 0) _ O.out.1.heap Tryz.underlying51 rfl (arrInfR _) ?_)
              | (with_reducible refine wpList_store_row rfl 51 (.tmp 2) (.tmp 41) rfl w.heap.size (bRow (setF (upB ps j) j v')) rfl rfl 51 noB O.out.2.1.heap (arrInfR _) (bRow_size _) (bRow_one _) ?_))
            refine bodyPost_ret (v := .tuple #[.agg (bRow (setF (upB ps j) j v')), .bool false]) ?_ rfl ⟨_, _, rfl, (fun h => by cases h), (fun _ => .inr ⟨j, hlt, HO2.out (by trivial)⟩), F0.out.2⟩
            exact results_cell_tmp (fn := Tryz.f18) rfl _ _ w.heap.size 51 (bRow (setF (upB ps j) j v')) (0, 0) _ rfl F0.out.1 Tryz.underlying51 rfl (arrInfR _)
          · have O := Lib.hid (OTH.out v')
            have N := Lib.hid (NXT.out (by trivial) v' (HV'.out (by trivial)))
            have HG2 : Hid (∀ m, m < j + 1 → goodB ps m) := fun m hm => by
              by_cases e : m = j
              · rw [e]; exact (HO1.out (by trivial)).1
              · exact HG.out m (by omega)
            clear OTH NXT
            go_wp2
            go_roundw
            case rel => exact ⟨j + 1, by omega, by go_num, N.out, O.out.2.1, O.out.2.2.1, O.out.2.2.2, HG2.out⟩
            case measure => simp [intOf]; omega
        · have C1 := Lib.hid (R1.out hi)
          have hcs : (j : Int) < 2 ∨ (2 ≤ (j : Int) ∧ ¬ (j : Int) < 10) := by omega
          clear R1 R2 hi
          cases ok
          · rcases hcs with h2I | ⟨h2I, h10I⟩
            all_goals
              go_wp2_with fail
              refine (C1.out _).mono ?_
              rintro e w' ⟨rfl, rfl⟩
              have O := Lib.hid (OTH.out v)
              clear OTH NXT
              have F0 : Hid (Bk ((wr.setCell ⟨w.heap.size + 1, j, none⟩ (.int .i64 v)).setRow w.heap.size (bRow (setF (upB ps j) j v))) w.heap.size 51 (bRow (setF (upB ps j) j v)) ∧ Below w.heap.size w ((wr.setCell ⟨w.heap.size + 1, j, none⟩ (.int .i64 v)).setRow w.heap.size (bRow (setF (upB ps j) j v)))) := ⟨setRow_heap _ _ _ _ _ _ O.out.2.1.heap, below_setRow O.out.2.2.1 (Nat.le_refl _) _⟩
              go_wp2_with (first
                | (with_reducible refine wpList_load_row rfl 51 (.tmp 4) rfl (w.heap.size + 1) rfl 51 (bRow (setF (upB ps j) j v)) (0, 0) _ O.out.1.heap Tryz.underlying51 rfl (arrInfR _) ?_)
                | (with_reducible refine wpList_store_row rfl 51 (.tmp 2) (.tmp 41) rfl w.heap.size (bRow (setF (upB ps j) j v)) rfl rfl 51 noB O.out.2.1.heap (arrInfR _) (bRow_size _) (bRow_one _) ?_))
              refine bodyPost_ret (v := .tuple #[.agg (bRow (setF (upB ps j) j v)), .bool false]) ?_ rfl ⟨_, _, rfl, (fun h => by cases h), (fun _ => .inr ⟨j, hlt, HO2.out (by trivial)⟩), F0.out.2⟩
              exact results_cell_tmp (fn := Tryz.f18) rfl _ _ w.heap.size 51 (bRow (setF (upB ps j) j v)) (0, 0) _ rfl F0.out.1 Tryz.underlying51 rfl (arrInfR _)
          · rcases hcs with h2I | ⟨h2I, h10I⟩
            · go_wp2_with fail
              refine (C1.out _).mono ?_
              rintro e w' ⟨rfl, rfl⟩
              have O := Lib.hid (OTH.out v)
              have N := Lib.hid (NXT.out (by trivial) v rfl)
              have HG2 : Hid (∀ m, m < j + 1 → goodB ps m) := fun m hm => by
                by_cases e : m = j
                · rw [e]; exact (HO1.out (by trivial)).1
                · exact HG.out m (by omega)
              clear OTH NXT
              go_wp2
              go_roundw
              case rel => exact ⟨j + 1, by omega, by go_num, N.out, O.out.2.1, O.out.2.2.1, O.out.2.2.2, HG2.out⟩
              case measure => simp [intOf]; omega
            · go_wp2_with fail
              refine (C1.out _).mono ?_
              rintro e w' ⟨rfl, rfl⟩
              have O := Lib.hid (OTH.out v)
              have N := Lib.hid (NXT.out (by trivial) v rfl)
              have HG2 : Hid (∀ m, m < j + 1 → goodB ps m) := fun m hm => by
                by_cases e : m = j
                · rw [e]; exact (HO1.out (by trivial)).1
                · exact HG.out m (by omega)
              clear OTH NXT
              go_wp2
              go_roundw
              case rel => exact ⟨j + 1, by omega, by go_num, N.out, O.out.2.1, O.out.2.2.1, O.out.2.2.2, HG2.out⟩
              case measure => simp [intOf]; omega
      · obtain rfl : j = 11 := by omega
        rw [bRow_all] at HM
        have F0 : Hid (Bk ((wr).setRow w.heap.size (bRow (valB ps))) w.heap.size 51 (bRow (valB ps)) ∧ Below w.heap.size w ((wr).setRow w.heap.size (bRow (valB ps)))) := ⟨setRow_heap _ _ _ _ _ _ HK.out.heap, below_setRow HB.out (Nat.le_refl _) _⟩
        go_wp2_with (first
          | (with_reducible refine wpList_load_row rfl 51 (.tmp 4) rfl (w.heap.size + 1) rfl 51 (bRow (valB ps)) (0, 0) _ HM.out.heap Tryz.underlying51 rfl (arrInfR _) ?_)
          | (with_reducible refine wpList_store_row rfl 51 (.tmp 2) (.tmp 43) rfl w.heap.size (bRow (valB ps)) rfl rfl 51 noB HK.out.heap (arrInfR _) (bRow_size _) (bRow_one _) ?_))
        refine bodyPost_ret (v := .tuple #[.agg (bRow (valB ps)), .bool true]) ?_ rfl ⟨_, _, rfl, (fun _ => ⟨HLN.out, HG.out, rfl⟩), (fun h => by cases h), F0.out.2⟩
        exact results_cell_tmp (fn := Tryz.f18) rfl _ _ w.heap.size 51 (bRow (valB ps)) (0, 0) _ rfl F0.out.1 Tryz.underlying51 rfl (arrInfR _)
  · rw [decide_eq_false h11] at C
    go_enter Tryz.func18, Tryz.ntmps18
    go_wp2_with fail
    refine Calls.mono (w := (w.alloc (.cells noB 51)).alloc (.cells noB 51)) (by rw [HW1.out]; exact C.out) ?_
    rintro e w2 ⟨n, cp, rfl, -, -, -, -, hb2⟩
    have B2 := Lib.hid (B1.out.trans (hb2.mono B1.out.size))
    have K2 : Hid (Bk w2 w.heap.size 51 noB) := K1.out.below hb2 K1.out.lt
    have M2 : Hid (Bk w2 (w.heap.size + 1) 51 noB) := M1.out.below hb2 M1.out.lt
    clear hb2
    have F0 : Hid (Bk ((w2).setRow w.heap.size (bRow (fun _ => 0))) w.heap.size 51 (bRow (fun _ => 0)) ∧ Below w.heap.size w ((w2).setRow w.heap.size (bRow (fun _ => 0)))) := ⟨setRow_heap _ _ _ _ _ _ K2.out.heap, below_setRow B2.out (Nat.le_refl _) _⟩
    go_wp2_with (first
      | (with_reducible refine wpList_load_row rfl 51 (.tmp 4) rfl (w.heap.size + 1) rfl 51 (bRow (fun _ => 0)) (0, 0) _ M2.out.heap Tryz.underlying51 rfl (arrInfR _) ?_)
      | (with_reducible refine wpList_store_row rfl 51 (.tmp 2) (.tmp 17) rfl w.heap.size (bRow (fun _ => 0)) rfl rfl 51 noB K2.out.heap (arrInfR _) (bRow_size _) (bRow_one _) ?_))
    refine bodyPost_ret (v := .tuple #[.agg (bRow (fun _ => 0)), .bool false]) ?_ rfl ⟨_, _, rfl, (fun h => by cases h), (fun _ => .inl h11), F0.out.2⟩
    exact results_cell_tmp (fn := Tryz.f18) rfl _ _ w.heap.size 51 (bRow (fun _ => 0)) (0, 0) _ rfl F0.out.1 Tryz.underlying51 rfl (arrInfR _)

end Go.Proofs.YtkemoffagdilgaaGreatDoor
