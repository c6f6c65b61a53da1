import Derived.Test.YtepcciodhppbnaaE44

namespace Go.Proofs.Ytepcciodhppbnaa
open Go.RowKit

set_option maxRecDepth 100000 in
set_option maxHeartbeats 4000000 in
theorem Restored_any (f s d : Int) (A : Option Addr) (n c : Nat) (xs : List Int) (w : World) (hr : RdI w A n xs) (hn : n ≤ 1000000) :
    Calls Try.prog 31 #[.agg #[.int .i64 f, .int .i64 s, .int .i64 d], .slice A n c] w (OwnRes w (rssE f s d xs) (rslL f s d xs)) := by
  have HR := Lib.hid hr
  have HXL : Hid (xs.length = n) := hr.1
  have CQ := Lib.hid (fun w => CheckEqualizer_any f s d w)
  have CS : Hid (∀ W, Below w.heap.size w W → Calls Try.prog 78 #[.slice A n c, .int .i64 1000000000000000] W fun e w' => e = .returned (.int .i64 (outE xs)) ∧ Below W.heap.size W w') := fun W hb => checkNumbers_any A n c xs 1000000000000000 W (hr.below hb) (by omega) (by omega)
  have HE : Hid (rssE f s d xs = firstNZ [eqzE f s d, outE xs]) := rfl
  have HL1 : Hid (rslL f s d xs = if rssE f s d xs = 0 then rsR f s d 0 0 xs else []) := rfl
  have HOK : Hid (rssE f s d xs = 0 → EqOk f s d ∧ n ≤ 400 ∧ ∀ x ∈ xs, -1000000000000000 ≤ x ∧ x ≤ 1000000000000000) := fun h => by
    have h1 := eqzE_zero (firstNZ_zero h (eqzE f s d) (by simp))
    have h2 := outE_zero (firstNZ_zero h (outE xs) (by simp))
    rw [hr.1] at h2
    exact ⟨h1, h2⟩
  obtain ⟨L, hL⟩ : ∃ L, rslL f s d xs = L := ⟨_, rfl⟩
  rw [hL] at HL1 ⊢
  obtain ⟨E, hE⟩ : ∃ E, rssE f s d xs = E := ⟨_, rfl⟩
  rw [hE] at HE HL1 HOK ⊢
  obtain ⟨E1, hE1⟩ : ∃ E, eqzE f s d = E := ⟨_, rfl⟩
  obtain ⟨E2, hE2⟩ : ∃ E, outE xs = E := ⟨_, rfl⟩
  rw [hE1] at HE CQ
  rw [hE2] at HE CS
  clear hL hE hE1 hE2 hr
  obtain ⟨i0, hi0, hza, hzb, hzc⟩ := info_parts intInfo'
  have R0 := Lib.hid (OneB.start w 50 #[.int .i64 f, .int .i64 s, .int .i64 d])
  go_enter Try.func31, Try.ntmps31
  obtain ⟨c0, c1, c2⟩ := R0.out.three
  go_wp2_with fail
  refine (CQ.out _).mono ?_
  rintro e w1 ⟨rfl, hb1⟩
  have R1 := Lib.hid (OneB.later hb1 R0.out)
  clear hb1 R0 c0 c1 c2
  go_wp2_with fail
  refine (CS.out _ R1.out.b).mono ?_
  rintro e w2 ⟨rfl, hb2⟩
  have R2 := Lib.hid ((OneB.later hb2 R1.out).alloc (.cells #[.int .i64 E1, .int .i64 E2] 30))
  clear hb2 R1
  go_wp2_with fail
  refine (firstError2 (E1 := E1) (E2 := E2) (F := E) HE.out.symm _ _ ?_ ?_).mono ?_
  · simp [go_sem]
  · simp [go_sem]
  rintro e w' ⟨rfl, rfl⟩
  obtain ⟨W3, hW3⟩ : ∃ W3, w2.alloc (.cells #[.int .i64 E1, .int .i64 E2] 30) = W3 := ⟨_, rfl⟩
  rw [hW3] at R2 ⊢
  clear hW3 HE CQ CS
  by_cases h0 : E = 0
  · subst h0
    obtain ⟨hok, hn4, hxs⟩ := HOK.out rfl
    have HXS := Lib.hid (fun k => getD_bd (xs := xs) (A := 1000000000000000) (by omega) hxs k)
    have HEQ := Lib.hid hok
    have e0 := HL1.out
    rw [if_pos rfl] at e0
    subst e0
    clear HOK HL1 hok hxs
    obtain ⟨c0, c1, c2⟩ := R2.out.three
    go_wp2
    obtain ⟨g, hg⟩ : ∃ g, W3.heap.size = g := ⟨_, rfl⟩
    obtain ⟨W4, hW4⟩ : ∃ W4, W3.alloc (.cells #[.int .i64 f, .int .i64 s, .int .i64 d, .int .i64 0, .int .i64 0] 121) = W4 := ⟨_, rfl⟩
    have KW : Hid (Bk W4 g 121 #[.int .i64 f, .int .i64 s, .int .i64 d, .int .i64 0, .int .i64 0]) := by show Bk _ _ _ _; rw [← hW4, ← hg]; exact Bk.new _ _ _
    have BW : Hid (Below w.heap.size w W4) := by show Below _ _ _; rw [← hW4]; exact R2.out.b.alloc R2.out.b.size _
    have hsz : g < W4.heap.size := by rw [← hW4, ← hg]; simp
    have hgw : w.heap.size ≤ g := by rw [← hg]; exact R2.out.b.size
    rw [hW4, hg]
    clear hW4 hg R2 c0 c1 c2
    go_loopw [8, 24] (fun p i wr => ∃ (k : Nat) (a b : Int) (ys : List Int), k ≤ n ∧ i = .int .i64 k ∧ (-1000000000000000 ≤ a ∧ a ≤ 1000000000000000) ∧ (-1000000000000000 ≤ b ∧ b ≤ 1000000000000000) ∧ Hid (rsR f s d 0 0 xs = ys ++ rsR f s d a b (xs.drop k)) ∧ Hid (ys.length = k) ∧ Hid (wr.ownsRow (g + 1) 3 1 p k (ys.map (Value.int .i64))) ∧ Hid (Bk wr g 121 #[.int .i64 f, .int .i64 s, .int .i64 d, .int .i64 a, .int .i64 b]) ∧ Hid (Below w.heap.size w wr) ∧ g < wr.heap.size) (fun _ i _ => n - (intOf i).toNat)
    case atStart => exact ⟨0, 0, 0, [], Nat.zero_le _, rfl, by omega, by omega, by show _ = _; simp, rfl, World.ownsRow_nil _ _ _ _, KW.out, BW.out, hsz⟩
    case round =>
      obtain ⟨k, a, b, ys, hk, rfl, ha, hb, HI, HYL, HO, HK, HB, hgz⟩ := hrel
      obtain ⟨A2, cap2, hp, _, _⟩ := rd_of_own HO.out
      subst hp
      by_cases hlt : k < n
      · have hkI : (k : Int) < (n : Int) := by omega
        have hk0 : (0 : Int) ≤ (k : Int) := by omega
        obtain ⟨ad, rfl, hadb, hca⟩ := HR.out.2 (by omega)
        have hck : wr.cell? (ad.add k) = some (.int .i64 (xs.getD k 0)) := (HB.out.cell (by rw [addBlock]; exact hadb)).trans (hca k hlt)
        have hx := HXS.out k
        have he := echo_lim HEQ.out ha hb
        clear hca
        obtain ⟨x, hxe⟩ : ∃ x, xs.getD k 0 = x := ⟨_, rfl⟩
        rw [hxe] at hck hx
        have CE := Lib.hid (echo_any g f s d a b wr HK.out HEQ.out ha hb)
        obtain ⟨ec, hec⟩ : ∃ ec, echoF f s d a b = ec := ⟨_, rfl⟩
        rw [hec] at CE he
        have wy : IntKind.i64.wrap (x - ec) = x - ec := IntWalk.i64_in _ (by omega)
        have HXE := Lib.hid hxe
        have HEC := Lib.hid hec
        clear hxe hec
        obtain ⟨y, hye⟩ : ∃ y, x - ec = y := ⟨_, rfl⟩
        have HYE := Lib.hid hye
        rw [hye] at wy
        clear hye
        have HSTEP : Hid (rsR f s d 0 0 xs = ys ++ [y] ++ rsR f s d x a (xs.drop (k + 1))) := rsR_step (by have := HXL.out; omega) HXE.out (by rw [HEC.out]; exact HYE.out) HI.out
        go_wp2_with fail
        refine CE.out.mono ?_
        rintro e w5 ⟨rfl, kk, rfl⟩
        have HO7 : Hid ((wr.drewN kk).ownsRow (g + 1) 3 1 (.slice A2 k cap2) k (ys.map (Value.int .i64))) := HO.out
        have HK7 := Lib.hid (HK.out.drewN kk)
        have HB7 := Lib.hid (belowDrewN HB.out kk)
        have hgz7 : g < (wr.drewN kk).heap.size := hgz
        obtain ⟨w7, hw7⟩ : ∃ w7, wr.drewN kk = w7 := ⟨_, rfl⟩
        rw [hw7] at HO7 HK7 HB7 hgz7 ⊢
        clear hw7 CE hck
        go_wp2_with (at_builtin; refine wpList_append_own _ rfl (.tmp 28) (.tmp 32) 29 rfl (g + 1) 3 i0 _ 1 8 Try.underlying29 hi0 hza hzb hzc rfl (by decide) _ _ _ rfl (HO7.out.alloc _) ⟨w7.heap.size, 0, none⟩ 1 1 [.int .i64 (x - ec)] rfl rfl (cell_one_new _ _ _) (by simp [Value.oneCell']) (by unfold maxLen; omega) (by omega) (by simp; omega) ?_)
        intro v' w8 hown' hgrow _
        have HF : Hid (w8.ownsRow (g + 1) 3 1 v' (k + 1) ((ys ++ [y]).map (Value.int .i64))) := by
          refine Lib.hid ?_
          rw [List.map_append, ← HYE.out]
          exact hown'
        have HG : Hid (Below w.heap.size w w8) := (HB7.out.alloc HB7.out.size _).grown hgrow (by simp; omega) (fun z e => by have := (HO7.out.lt z e).1; omega)
        have HK8 : Hid (Bk w8 g 121 #[.int .i64 f, .int .i64 s, .int .i64 d, .int .i64 a, .int .i64 b]) := (HK7.out.alloc _).grown hgrow (fun e => by have := (HO7.out.lt g e.symm).1; omega)
        have HYL8 : Hid ((ys ++ [y]).length = k + 1) := by show _ = _; rw [List.length_append, HYL.out]; rfl
        clear hown' hgrow
        go_wp2_with fail
        refine (remember_any g f s d a b x _ HK8.out).mono ?_
        rintro e w6 ⟨rfl, rfl⟩
        have HO9 : Hid (((w8.setCell ⟨g, 4, none⟩ (.int .i64 a)).setCell ⟨g, 3, none⟩ (.int .i64 x)).ownsRow (g + 1) 3 1 v' (k + 1) ((ys ++ [y]).map (Value.int .i64))) := ownFar (ownFar HF.out _ _ (by simp)) _ _ (by simp)
        have HK9 : Hid (Bk ((w8.setCell ⟨g, 4, none⟩ (.int .i64 a)).setCell ⟨g, 3, none⟩ (.int .i64 x)) g 121 #[.int .i64 f, .int .i64 s, .int .i64 d, .int .i64 x, .int .i64 a]) := (HK8.out.set_ 4 (.int .i64 a)).set_ 3 (.int .i64 x)
        have HB9 : Hid (Below w.heap.size w ((w8.setCell ⟨g, 4, none⟩ (.int .i64 a)).setCell ⟨g, 3, none⟩ (.int .i64 x))) := (HG.out.setCell (p := ⟨g, 4, none⟩) hgw _).setCell (p := ⟨g, 3, none⟩) hgw _
        have hgz9 := HK9.out.lt
        obtain ⟨w9, hw9⟩ : ∃ w9, (w8.setCell ⟨g, 4, none⟩ (.int .i64 a)).setCell ⟨g, 3, none⟩ (.int .i64 x) = w9 := ⟨_, rfl⟩
        rw [hw9] at HO9 HK9 HB9 hgz9 ⊢
        clear hw9 HF HK8 HG
        go_wp2
        go_roundw
        case rel => exact ⟨k + 1, x, a, ys ++ [y], by omega, by go_num, by omega, ha, HSTEP, HYL8, HO9, HK9, HB9, hgz9⟩
        case measure => simp [intOf]; omega
      · have hkn : n ≤ k := by omega
        have HD := Lib.hid (rsR_done (by rw [HXL.out]; exact hkn) HI.out)
        have hkI : ¬ (k : Int) < (n : Int) := by omega
        clear hlt
        go_wp2
        go_ret2
        refine ⟨⟨_, rfl, ?_⟩, HB.out⟩
        rw [HD.out, HYL.out]
        exact ownMono HO.out (by omega)
  · have e1 := HL1.out
    rw [if_neg h0] at e1
    subst e1
    have d1 : (E != 0) = true := by rw [bne_iff_ne]; exact h0
    clear HOK HL1 h0
    go_wp2
    go_ret2
    exact OwnRes.none_ R2.out.b

end Go.Proofs.Ytepcciodhppbnaa
