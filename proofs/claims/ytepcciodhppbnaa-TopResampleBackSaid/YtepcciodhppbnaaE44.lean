import Derived.Test.YtepcciodhppbnaaE43

namespace Go.Proofs.Ytepcciodhppbnaa
open Go.RowKit

def eqsE (f s d : Int) (xs : List Int) : Int := firstNZ [eqzE f s d, sigE xs]
def eqlE (f s d : Int) (xs : List Int) : Int := if eqsE f s d xs = 0 then (eqR f s d 0 0 xs).2 else eqsE f s d xs
def eqlL (f s d : Int) (xs : List Int) : List Int := if eqlE f s d xs = 0 then (eqR f s d 0 0 xs).1 else []
def rssE (f s d : Int) (ys : List Int) : Int := firstNZ [eqzE f s d, outE ys]
def rslL (f s d : Int) (ys : List Int) : List Int := if rssE f s d ys = 0 then rsR f s d 0 0 ys else []
theorem outE_zero {xs : List Int} (h : outE xs = 0) : xs.length ≤ 400 ∧ ∀ x ∈ xs, -1000000000000000 ≤ x ∧ x ≤ 1000000000000000 := by
  rw [outE_eq] at h
  by_cases h1 : 400 < xs.length
  · rw [if_pos h1] at h; cases h
  · rw [if_neg h1] at h
    refine ⟨by omega, ?_⟩
    unfold rngE at h
    by_cases h2 : fromB (-1000000000000000) 1000000000000000 xs = true
    · intro x hx
      unfold fromB at h2
      have := List.all_eq_true.1 h2 x hx
      simpa using this
    · rw [if_neg h2] at h; cases h
theorem eqR_step {f s d a b x y : Int} {xs ys : List Int} {k : Nat} (hk : k < xs.length) (hx : xs.getD k 0 = x) (hy : x + echoF f s d a b = y) (hs : absF y ≤ 1000000000000000)
    (h : eqR f s d 0 0 xs = (ys ++ (eqR f s d a b (xs.drop k)).1, (eqR f s d a b (xs.drop k)).2)) : eqR f s d 0 0 xs = (ys ++ [y] ++ (eqR f s d y a (xs.drop (k + 1))).1, (eqR f s d y a (xs.drop (k + 1))).2) := by
  rw [h, List.drop_eq_getElem_cons hk]
  have e : xs[k] = x := by rw [← hx, List.getD_eq_getElem?_getD, List.getElem?_eq_getElem hk]; rfl
  rw [e, eqR, hy, if_pos hs]
  simp
theorem eqR_stop {f s d a b x y : Int} {xs ys : List Int} {k : Nat} (hk : k < xs.length) (hx : xs.getD k 0 = x) (hy : x + echoF f s d a b = y) (hs : ¬ absF y ≤ 1000000000000000)
    (h : eqR f s d 0 0 xs = (ys ++ (eqR f s d a b (xs.drop k)).1, (eqR f s d a b (xs.drop k)).2)) : (eqR f s d 0 0 xs).2 = 23 := by
  rw [h, List.drop_eq_getElem_cons hk]
  have e : xs[k] = x := by rw [← hx, List.getD_eq_getElem?_getD, List.getElem?_eq_getElem hk]; rfl
  rw [e, eqR, hy, if_neg hs]
theorem eqR_done {f s d a b : Int} {xs ys : List Int} {k : Nat} (hk : xs.length ≤ k) (h : eqR f s d 0 0 xs = (ys ++ (eqR f s d a b (xs.drop k)).1, (eqR f s d a b (xs.drop k)).2)) : eqR f s d 0 0 xs = (ys, 0) := by
  rw [h, List.drop_eq_nil_of_le hk]; simp [eqR]
theorem rsR_step {f s d a b y x : Int} {ys xs : List Int} {k : Nat} (hk : k < ys.length) (hy : ys.getD k 0 = y) (hx : y - echoF f s d a b = x)
    (h : rsR f s d 0 0 ys = xs ++ rsR f s d a b (ys.drop k)) : rsR f s d 0 0 ys = xs ++ [x] ++ rsR f s d y a (ys.drop (k + 1)) := by
  rw [h, List.drop_eq_getElem_cons hk]
  have e : ys[k] = y := by rw [← hy, List.getD_eq_getElem?_getD, List.getElem?_eq_getElem hk]; rfl
  rw [e, rsR, hx]
  simp
theorem rsR_done {f s d a b : Int} {xs ys : List Int} {k : Nat} (hk : ys.length ≤ k) (h : rsR f s d 0 0 ys = xs ++ rsR f s d a b (ys.drop k)) : rsR f s d 0 0 ys = xs := by
  rw [h, List.drop_eq_nil_of_le hk]; simp [rsR]

set_option maxRecDepth 100000 in
set_option maxHeartbeats 4000000 in
theorem Equalized_any (f s d : Int) (A : Option Addr) (n c : Nat) (xs : List Int) (w : World) (hr : RdI w A n xs) (hn : n ≤ 1000000) :
    Calls Try.prog 30 #[.agg #[.int .i64 f, .int .i64 s, .int .i64 d], .slice A n c] w (OwnRes w (eqlE f s d xs) (eqlL f s d xs)) := by
  have HR := Lib.hid hr
  have HXL : Hid (xs.length = n) := hr.1
  have CQ := Lib.hid (fun w => CheckEqualizer_any f s d w)
  have CS : Hid (∀ W, Below w.heap.size w W → Calls Try.prog 71 #[.slice A n c] W fun e w' => e = .returned (.int .i64 (sigE xs)) ∧ Below W.heap.size W w') := fun W hb => checkSignal_any A n c xs W (hr.below hb) (by omega)
  have HE : Hid (eqsE f s d xs = firstNZ [eqzE f s d, sigE xs]) := rfl
  have HL0 : Hid (eqlE f s d xs = if eqsE f s d xs = 0 then (eqR f s d 0 0 xs).2 else eqsE f s d xs) := rfl
  have HL1 : Hid (eqlL f s d xs = if eqlE f s d xs = 0 then (eqR f s d 0 0 xs).1 else []) := rfl
  have HOK : Hid (eqsE f s d xs = 0 → EqOk f s d ∧ n ≤ 400 ∧ ∀ x ∈ xs, -32767 ≤ x ∧ x ≤ 32767) := fun h => by
    have h1 := eqzE_zero (firstNZ_zero h (eqzE f s d) (by simp))
    have h2 := sigE_zero (firstNZ_zero h (sigE xs) (by simp))
    rw [hr.1] at h2
    exact ⟨h1, h2⟩
  obtain ⟨L, hL⟩ : ∃ L, eqlL f s d xs = L := ⟨_, rfl⟩
  obtain ⟨EL, hEL⟩ : ∃ EL, eqlE f s d xs = EL := ⟨_, rfl⟩
  rw [hL] at HL1 ⊢
  rw [hEL] at HL0 HL1 ⊢
  obtain ⟨E, hE⟩ : ∃ E, eqsE f s d xs = E := ⟨_, rfl⟩
  rw [hE] at HE HL0 HOK
  obtain ⟨E1, hE1⟩ : ∃ E, eqzE f s d = E := ⟨_, rfl⟩
  obtain ⟨E2, hE2⟩ : ∃ E, sigE xs = E := ⟨_, rfl⟩
  rw [hE1] at HE CQ
  rw [hE2] at HE CS
  clear hL hEL hE hE1 hE2 hr
  obtain ⟨i0, hi0, hza, hzb, hzc⟩ := info_parts intInfo'
  have R0 := Lib.hid (OneB.start w 50 #[.int .i64 f, .int .i64 s, .int .i64 d])
  go_enter Try.func30, Try.ntmps30
  obtain ⟨c0, c1, c2⟩ := R0.out.three
  go_wp2_with fail
  refine (CQ.out _).mono ?_
  rintro e w1 ⟨rfl, hb1⟩
  have R1 := Lib.hid (OneB.later hb1 R0.out)
  clear hb1 R0 c0 c1 c2
  go_wp2_with fail
  refine (CS.out _ R1.out.b).mono ?_
  rintro e w2 ⟨rfl, hb2⟩
  have R2 := Lib.hid ((OneB.later hb2 R1.out).alloc (.cells #[.int .i64 E1, .int .i64 E2] 30))
  clear hb2 R1
  go_wp2_with fail
  refine (firstError2 (E1 := E1) (E2 := E2) (F := E) HE.out.symm _ _ ?_ ?_).mono ?_
  · simp [go_sem]
  · simp [go_sem]
  rintro e w' ⟨rfl, rfl⟩
  obtain ⟨W3, hW3⟩ : ∃ W3, w2.alloc (.cells #[.int .i64 E1, .int .i64 E2] 30) = W3 := ⟨_, rfl⟩
  rw [hW3] at R2 ⊢
  clear hW3 HE CQ CS
  by_cases h0 : E = 0
  · subst h0
    obtain ⟨hok, hn4, hxs⟩ := HOK.out rfl
    have HXS := Lib.hid (fun k => getD_bd (xs := xs) (A := 32767) (by omega) hxs k)
    have HEQ := Lib.hid hok
    have e0 := HL0.out
    rw [if_pos rfl] at e0
    have HL0' := Lib.hid e0
    clear HOK HL0 e0 hok hxs
    obtain ⟨c0, c1, c2⟩ := R2.out.three
    go_wp2
    obtain ⟨g, hg⟩ : ∃ g, W3.heap.size = g := ⟨_, rfl⟩
    obtain ⟨W4, hW4⟩ : ∃ W4, W3.alloc (.cells #[.int .i64 f, .int .i64 s, .int .i64 d, .int .i64 0, .int .i64 0] 121) = W4 := ⟨_, rfl⟩
    have KW : Hid (Bk W4 g 121 #[.int .i64 f, .int .i64 s, .int .i64 d, .int .i64 0, .int .i64 0]) := by show Bk _ _ _ _; rw [← hW4, ← hg]; exact Bk.new _ _ _
    have BW : Hid (Below w.heap.size w W4) := by show Below _ _ _; rw [← hW4]; exact R2.out.b.alloc R2.out.b.size _
    have hsz : g < W4.heap.size := by rw [← hW4, ← hg]; simp
    have hgw : w.heap.size ≤ g := by rw [← hg]; exact R2.out.b.size
    rw [hW4, hg]
    clear hW4 hg R2 c0 c1 c2
    go_loopw [8, 25] (fun p i wr => ∃ (k : Nat) (a b : Int) (ys : List Int), k ≤ n ∧ i = .int .i64 k ∧ (-1000000000000000 ≤ a ∧ a ≤ 1000000000000000) ∧ (-1000000000000000 ≤ b ∧ b ≤ 1000000000000000) ∧ Hid (eqR f s d 0 0 xs = (ys ++ (eqR f s d a b (xs.drop k)).1, (eqR f s d a b (xs.drop k)).2)) ∧ Hid (ys.length = k) ∧ Hid (wr.ownsRow (g + 1) 3 1 p k (ys.map (Value.int .i64))) ∧ Hid (Bk wr g 121 #[.int .i64 f, .int .i64 s, .int .i64 d, .int .i64 a, .int .i64 b]) ∧ Hid (Below w.heap.size w wr) ∧ g < wr.heap.size) (fun _ i _ => n - (intOf i).toNat)
    case atStart => exact ⟨0, 0, 0, [], Nat.zero_le _, rfl, by omega, by omega, by show _ = _; simp, rfl, World.ownsRow_nil _ _ _ _, KW.out, BW.out, hsz⟩
    case round =>
      obtain ⟨k, a, b, ys, hk, rfl, ha, hb, HI, HYL, HO, HK, HB, hgz⟩ := hrel
      obtain ⟨A2, cap2, hp, _, _⟩ := rd_of_own HO.out
      subst hp
      by_cases hlt : k < n
      · have hkI : (k : Int) < (n : Int) := by omega
        have hk0 : (0 : Int) ≤ (k : Int) := by omega
        obtain ⟨ad, rfl, hadb, hca⟩ := HR.out.2 (by omega)
        have hck : wr.cell? (ad.add k) = some (.int .i64 (xs.getD k 0)) := (HB.out.cell (by rw [addBlock]; exact hadb)).trans (hca k hlt)
        have hx := HXS.out k
        have he := echo_lim HEQ.out ha hb
        clear hca
        obtain ⟨x, hxe⟩ : ∃ x, xs.getD k 0 = x := ⟨_, rfl⟩
        rw [hxe] at hck hx
        have CE := Lib.hid (echo_any g f s d a b wr HK.out HEQ.out ha hb)
        obtain ⟨ec, hec⟩ : ∃ ec, echoF f s d a b = ec := ⟨_, rfl⟩
        rw [hec] at CE he
        have wy : IntKind.i64.wrap (x + ec) = x + ec := IntWalk.i64_in _ (by omega)
        have HXE := Lib.hid hxe
        have HEC := Lib.hid hec
        clear hxe hec
        obtain ⟨y, hye⟩ : ∃ y, x + ec = y := ⟨_, rfl⟩
        have HYE := Lib.hid hye
        have hyb : -4611686018427387904 ≤ y ∧ y ≤ 4611686018427387904 := by omega
        rw [hye] at wy
        have CZ := Lib.hid (fun w => rsize_any y w hyb)
        obtain ⟨z, hze⟩ : ∃ z, absF y = z := ⟨_, rfl⟩
        rw [hze] at CZ
        have HZE := Lib.hid hze
        clear hye hze
        go_wp2_with fail
        refine CE.out.mono ?_
        rintro e w5 ⟨rfl, kk, rfl⟩
        have HO5 : Hid ((wr.drewN kk).ownsRow (g + 1) 3 1 (.slice A2 k cap2) k (ys.map (Value.int .i64))) := HO.out
        have HK5 := Lib.hid (HK.out.drewN kk)
        have HB5 := Lib.hid (belowDrewN HB.out kk)
        have hgz5 : g < (wr.drewN kk).heap.size := hgz
        obtain ⟨w5, hw5⟩ : ∃ w5, wr.drewN kk = w5 := ⟨_, rfl⟩
        rw [hw5] at HO5 HK5 HB5 hgz5 ⊢
        clear hw5 CE hck
        by_cases hs : z ≤ 1000000000000000
        · have hs1 : ¬ 1000000000000000 < z := by omega
          have HSTEP : Hid (eqR f s d 0 0 xs = (ys ++ [y] ++ (eqR f s d y a (xs.drop (k + 1))).1, (eqR f s d y a (xs.drop (k + 1))).2)) := eqR_step (by have := HXL.out; omega) HXE.out (by rw [HEC.out]; exact HYE.out) (by rw [HZE.out]; exact hs) HI.out
          have hyb2 : -1000000000000000 ≤ y ∧ y ≤ 1000000000000000 := absF_le.1 (by rw [HZE.out]; exact hs)
          go_wp2_with fail
          rw [HYE.out]
          refine (CZ.out _).mono ?_
          rintro e w' ⟨rfl, rfl⟩
          go_wp2_with fail
          refine (remember_any g f s d a b y _ HK5.out).mono ?_
          rintro e w6 ⟨rfl, rfl⟩
          have HO7 : Hid (((w5.setCell ⟨g, 4, none⟩ (.int .i64 a)).setCell ⟨g, 3, none⟩ (.int .i64 y)).ownsRow (g + 1) 3 1 (.slice A2 k cap2) k (ys.map (Value.int .i64))) := ownFar (ownFar HO5.out _ _ (by simp)) _ _ (by simp)
          have HK7 : Hid (Bk ((w5.setCell ⟨g, 4, none⟩ (.int .i64 a)).setCell ⟨g, 3, none⟩ (.int .i64 y)) g 121 #[.int .i64 f, .int .i64 s, .int .i64 d, .int .i64 y, .int .i64 a]) := (HK5.out.set_ 4 (.int .i64 a)).set_ 3 (.int .i64 y)
          have HB7 : Hid (Below w.heap.size w ((w5.setCell ⟨g, 4, none⟩ (.int .i64 a)).setCell ⟨g, 3, none⟩ (.int .i64 y))) := (HB5.out.setCell (p := ⟨g, 4, none⟩) hgw _).setCell (p := ⟨g, 3, none⟩) hgw _
          have hgz7 : g < ((w5.setCell ⟨g, 4, none⟩ (.int .i64 a)).setCell ⟨g, 3, none⟩ (.int .i64 y)).heap.size := by simpa using hgz5
          obtain ⟨w7, hw7⟩ : ∃ w7, (w5.setCell ⟨g, 4, none⟩ (.int .i64 a)).setCell ⟨g, 3, none⟩ (.int .i64 y) = w7 := ⟨_, rfl⟩
          rw [hw7] at HO7 HK7 HB7 hgz7 ⊢
          clear hw7 HO5 HK5 HB5 hgz5
          go_wp2_with (at_builtin; refine wpList_append_own _ rfl (.tmp 37) (.tmp 39) 29 rfl (g + 1) 3 i0 _ 1 8 Try.underlying29 hi0 hza hzb hzc rfl (by decide) _ _ _ rfl (HO7.out.alloc _) ⟨w7.heap.size, 0, none⟩ 1 1 [.int .i64 y] rfl rfl (cell_one_new _ _ _) (by simp [Value.oneCell']) (by unfold maxLen; omega) (by omega) (by simp; omega) ?_)
          intro v' w8 hown' hgrow _
          have HF : Hid (w8.ownsRow (g + 1) 3 1 v' (k + 1) ((ys ++ [y]).map (Value.int .i64))) := by
            refine Lib.hid ?_
            rw [List.map_append]
            exact hown'
          have HG : Hid (Below w.heap.size w w8) := (HB7.out.alloc HB7.out.size _).grown hgrow (by simp; omega) (fun z e => by have := (HO7.out.lt z e).1; omega)
          have HK8 : Hid (Bk w8 g 121 #[.int .i64 f, .int .i64 s, .int .i64 d, .int .i64 y, .int .i64 a]) := (HK7.out.alloc _).grown hgrow (fun e => by have := (HO7.out.lt g e.symm).1; omega)
          have hgz8 := HK8.out.lt
          have HYL8 : Hid ((ys ++ [y]).length = k + 1) := by show _ = _; rw [List.length_append, HYL.out]; rfl
          clear hown' hgrow
          go_wp2
          go_roundw
          case rel => exact ⟨k + 1, y, a, ys ++ [y], by omega, by go_num, hyb2, ha, HSTEP, HYL8, HF, HK8, HG, hgz8⟩
          case measure => simp [intOf]; omega
        · have hs1 : 1000000000000000 < z := by omega
          have HSTOP : Hid ((eqR f s d 0 0 xs).2 = 23) := eqR_stop (y := y) (by have := HXL.out; omega) HXE.out (by rw [HEC.out]; exact HYE.out) (by rw [HZE.out]; exact hs) HI.out
          have e1 : EL = 23 := HL0'.out.trans HSTOP.out
          have e2 : L = [] := by rw [HL1.out, e1]; rfl
          subst e1 e2
          clear HL0' HL1
          go_wp2_with fail
          rw [HYE.out]
          refine (CZ.out _).mono ?_
          rintro e w' ⟨rfl, rfl⟩
          go_wp2
          go_ret2
          exact OwnRes.none_ HB5.out
      · have hkn : n ≤ k := by omega
        have HD := Lib.hid (eqR_done (by rw [HXL.out]; exact hkn) HI.out)
        have e1 : EL = 0 := HL0'.out.trans (by rw [HD.out])
        have e2 : L = ys := by rw [HL1.out, e1, HD.out]; rfl
        subst e1 e2
        have hkI : ¬ (k : Int) < (n : Int) := by omega
        clear HL0' HL1 hlt
        go_wp2
        go_ret2
        exact ⟨⟨_, rfl, by rw [HYL.out]; exact ownMono HO.out (by omega)⟩, HB.out⟩
  · have e0 := HL0.out
    rw [if_neg h0] at e0
    have e1 := HL1.out
    rw [e0, if_neg h0] at e1
    subst e0 e1
    have d1 : (EL != 0) = true := by rw [bne_iff_ne]; exact h0
    clear HOK HL0 HL1 h0
    go_wp2
    go_ret2
    exact OwnRes.none_ R2.out.b

end Go.Proofs.Ytepcciodhppbnaa
