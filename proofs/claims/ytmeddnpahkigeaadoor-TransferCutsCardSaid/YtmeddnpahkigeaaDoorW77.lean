import Derived.Test.YtmeddnpahkigeaaDoorW76
namespace Go.Proofs.YtmeddnpahkigeaaDoor
open Go.RowKit
open Go.Shelf
attribute [local go_sem] Oper.semAt_some

theorem cutE_parts {n : Nat} {xs : List Int} {h c : Int} (hE : cutE n xs h c = 0) : cntN n ≤ 40 ∧ Bnd xs 32767 ∧ (0 ≤ h ∧ h ≤ 3) ∧ 0 ≤ c ∧ c + ((cntN n - 1 : Nat) : Int) ≤ 65535 := by
  unfold cutE at hE
  split at hE
  · cases hE
  rename_i h1
  split at hE
  · cases hE
  rename_i h2
  split at hE
  · cases hE
  rename_i h3
  split at hE
  · cases hE
  rename_i h4
  split at hE
  · cases hE
  rename_i h5
  have h2' : smpB xs = true := by simpa using h2
  have h4' : inB c 0 65535 = true := by simpa using h4
  have h3' : rangeE h 0 3 = 0 := by rcases rangeE_two h 0 3 with e | e; exact e; exact absurd e h3
  exact ⟨by omega, bnd_of_rangesE xs (by simpa [smpB] using h2'), (rangeE_zero _ _ _).1 h3', by simp [inB] at h4'; omega, by omega⟩

/-- Block i, cut out of part x. -/
def blkP (xs : List Int) (h c : Int) (i x : Nat) : Bl := ⟨c + i, h, part8 xs x 8, sumT (c + i) h (part8 xs x 8)⟩
def blksP (xs : List Int) (h c : Int) (q : List Nat) : List Bl := (List.range q.length).map fun i => blkP xs h c i (q.getD i 0)
theorem blksP_snoc (xs : List Int) (h c : Int) (q : List Nat) (x : Nat) : blksP xs h c (q ++ [x]) = blksP xs h c q ++ [blkP xs h c q.length x] := by
  unfold blksP
  rw [List.length_append, List.length_singleton, List.range_succ, List.map_append]
  congr 1
  · refine List.map_congr_left fun i hi => ?_
    have : i < q.length := by simpa using hi
    simp [List.getElem?_append_left this]
  · simp
theorem blksP_range (xs : List Int) (h c : Int) (k : Nat) : blksP xs h c (List.range k) = blksX xs h c k := by
  unfold blksP blksX
  rw [List.length_range]
  refine List.map_congr_left fun i hi => ?_
  have : i < k := by simpa using hi
  simp [blkP, blkX, this]
theorem cellAllocT {w : World} {a : Addr} {v : Value} (o : Obj) (h : w.cell? a = some v) : (w.alloc o).cell? a = some v := by
  have hlt : a.block < w.heap.size := by
    rcases Nat.lt_or_ge a.block w.heap.size with h1 | h1
    · exact h1
    · unfold World.cell? at h; rw [Array.getElem?_eq_none h1] at h; cases h
  exact (((Below.refl w.heap.size w).alloc (Nat.le_refl _) o).cell hlt).trans h
theorem boxed2 (w : World) (o : Obj) (t : TypeId) (v : Value) : Boxed ((w.alloc o).alloc (.cells #[v] t)) (w.heap.size + 1) t v := by
  have := Boxed.new (w.alloc o) t v
  simpa using this
theorem ownBase {w : World} {base base' size n : Nat} {t : TypeId} {v : Value} {xs : List Value} (h : w.ownsRow base t size v n xs) (hb : base' ≤ base) : w.ownsRow base' t size v n xs :=
  ⟨h.1, h.2.imp id (fun ⟨g, cap, cur, h1, h2, r⟩ => ⟨g, cap, cur, h1, Nat.le_trans hb h2, r⟩)⟩
structure CutI (wL : World) (Bb : Nat) (xs : List Int) (h c : Int) (q : List Nat) (W : World) : Prop where
  row : ∃ v, Boxed W Bb 26 v ∧ W.ownsRow wL.heap.size 67 11 v q.length (blCells (blksP xs h c q))
  bel : Below Bb wL W
theorem CutI.own (wL : World) (Bb : Nat) (xs : List Int) (h c : Int) (hB : Bb < wL.heap.size) : OwnFrom wL.heap.size (fun q W => CutI wL Bb xs h c q W) := by
  rintro s X Y row ⟨⟨v, hv, ho⟩, hb⟩ hg hr
  have hs := hb.size
  refine ⟨⟨v, hv.kept hg (fun e => ?_), ho.kept hg ?_⟩, hb.grown hg (by omega) (fun k e => by have := (hr k e).1; omega)⟩
  · obtain ⟨_, o, ho', hc⟩ := hr Bb e.symm
    rw [show X.heap[Bb]? = _ from hv] at ho'; cases ho'; cases hc
  · rcases ho.2 with ⟨rfl, _⟩ | ⟨g, cap, cur, rfl, _, hgb, _⟩
    · exact .inl rfl
    · refine .inr fun e' => ?_
      obtain ⟨_, o, ho', hc⟩ := hr g (by simpa [Value.ownBlock] using e'.symm)
      rw [hgb] at ho'; cases ho'; cases hc

set_option maxRecDepth 100000 in
set_option maxHeartbeats 4000000 in
theorem blocksOf_ok (A : Option Addr) (n cp : Nat) (xs : List Int) (h c : Int) (w : World) (hr : RdI w A n xs) (hn : n ≤ 330) (hcp : n ≤ cp) (hcp2 : cp ≤ 9223372036854775807) (hE : cutE n xs h c = 0) :
    Calls Tryd.prog 8 #[.slice A n cp, .agg #[.int .i64 h, .int .i64 c]] w fun e w' => (∃ v, e = .returned (.tuple #[v, .int .i64 0]) ∧ w'.ownsRow w.heap.size 67 11 v (cntN n) (blCells (blksX xs h c (cntN n)))) ∧ Below w.heap.size w w' := by
  obtain ⟨i0, hi0, hz0, hz1, hz2⟩ := info_parts blkInfo
  obtain ⟨hk, hX, hh, hc0, hc1⟩ := cutE_parts hE
  have HX := Lib.hid hX
  have HH := Lib.hid hh
  have HC : Hid (∀ j : Nat, j < cntN n → 0 ≤ c + (j : Int) ∧ c + (j : Int) ≤ 65535) := fun j hj => by omega
  have hcn : ((n : Int) + 8 - 1).tdiv 8 = (cntN n : Int) := by
    rw [show (n : Int) + 8 - 1 = ((n + 7 : Nat) : Int) by omega]
    unfold cntN
    exact (Int.ofNat_tdiv (n + 7) 8).symm
  have HF := Lib.hid (cutE_first n xs h c (by omega))
  rw [hE] at HF
  have CS : Hid (∀ W : World, RdI W A n xs → Calls Tryd.prog 42 #[.slice A n cp] W fun e w' => e = .returned (.int .i64 (rangesE xs (-32767) 32767)) ∧ Below W.heap.size W w') := fun W hW => checkSignal_any A n cp xs W hW (by omega)
  have HN : Hid (∀ j, j < cntN n → j * 8 + partN n j ≤ n ∧ 0 < partN n j ∧ partN n j ≤ 8 ∧ part8 xs j (partN n j) = part8 xs j 8) := fun j hj => by
    have : j * 8 < n := by unfold cntN at hj; omega
    refine ⟨by unfold partN; omega, by unfold partN; omega, by unfold partN; omega, ?_⟩
    by_cases h8 : partN n j = 8
    · rw [h8]
    · exact part8_end xs j _ (by have := hr.1; unfold partN at h8 ⊢; omega)
  obtain ⟨k, hkk⟩ : ∃ k, cntN n = k := ⟨_, rfl⟩
  have HKK := Lib.hid hkk
  obtain ⟨r2, hr2⟩ : ∃ r, rangesE xs (-32767) 32767 = r := ⟨_, rfl⟩
  rw [hkk] at hk hcn HF HC HN ⊢
  rw [hr2] at CS HF
  clear hkk hr2 hX hc0 hc1 hE
  obtain ⟨w1, hw1⟩ : ∃ W, w.alloc (.cells #[.int .i64 h, .int .i64 c] 24) = W := ⟨_, rfl⟩
  have hB0 : Hid (Below w.heap.size w w1) := by show Below _ _ _; rw [← hw1]; exact (Below.refl _ _).alloc (Nat.le_refl _) _
  have hbx : Hid (Bk w1 w.heap.size 24 #[.int .i64 h, .int .i64 c]) := by show Bk _ _ _ _; rw [← hw1]; exact Bk.new _ _ _
  have HR : Hid (RdI w1 A n xs) := by show RdI _ _ _ _; exact hr.below hB0.out
  have HR0 := Lib.hid hr
  have z0 : w1.cell? ⟨w.heap.size, 0, none⟩ = some (.int .i64 h) := by rw [hbx.out.cell]; rfl
  have z1 : w1.cell? ⟨w.heap.size, 1, none⟩ = some (.int .i64 c) := by rw [hbx.out.cell]; rfl
  have hlt : w.heap.size < w1.heap.size := hbx.out.lt
  clear hr
  have HL : Hid (lastC k c = IntKind.i64.wrap (IntKind.i64.wrap (c + (if (k : Int) < 1 then (1 : Int) else (k : Int))) - 1)) := rfl
  obtain ⟨mx, hmx⟩ : ∃ mx : Int, (if (k : Int) < 1 then (1 : Int) else (k : Int)) = mx := ⟨_, rfl⟩
  rw [hmx] at HL
  have HF2 : Hid (firstE [whenE (decide ((40 : Int) < (k : Int))) 8, r2, rangeE h 0 3, rangeE c 0 65535, rangeE (IntKind.i64.wrap (IntKind.i64.wrap (c + mx) - 1)) 0 65535] = 0) := by
    show _ = _
    rw [← HL.out, show decide ((40 : Int) < (k : Int)) = decide (40 < k) from decide_eq_decide.2 (by omega)]
    exact HF.out
  refine (callsIn_wide (n := 6)).1 ?_
  refine callsIn_of_wp_marks Tryd.func8 rfl trivial ?_ rfl
  simp only [Tryd.ntmps8, List.size_toArray, List.length_cons, List.length_nil, Nat.reduceAdd, Nat.reduceSub, Array.replicate_succ, Array.replicate_zero, List.push_toArray, List.append_toArray, List.nil_append, List.cons_append]
  refine wpIn_wide.2 ?_
  go_wp2_with fail
  go_region_held3 (fun w' => RdI w' A n xs ∧ w'.cell? ⟨w.heap.size, 0, none⟩ = some (.int .i64 h) ∧ w'.cell? ⟨w.heap.size, 1, none⟩ = some (.int .i64 c) ∧ w.heap.size < w'.heap.size)
    ((go_split_ands; refine ⟨?_, ?_, ?_, ?_⟩ <;> first
      | assumption | exact HR.out
      | (exact RdI.below (by assumption) hb)
      | (exact RdI.below (by assumption) ((Below.refl _ _).alloc (Nat.le_refl _) _))
      | (rw [hb.cell (by assumption)]; assumption)
      | (rw [World.cell?_alloc_lt _ _ _ (by assumption)]; assumption)
      | (exact Nat.lt_of_lt_of_le (by assumption) hb.size)
      | (simp; omega)))
    (first
      | (go_at_call 44; refine (checkCounter_any _ _).mono ?_; rintro e w' ⟨rfl, rfl⟩)
      | (go_at_call 43; refine (checkChannel_any _ _).mono ?_; rintro e w' ⟨rfl, rfl⟩)
      | (go_at_call 41; refine (when_any _ _ _).mono ?_; rintro e w' ⟨rfl, rfl⟩)
      | (go_at_call 42; refine (CS.out _ (by assumption)).mono ?_; rintro e w' ⟨rfl, hb⟩)
      | (go_at_call 40; refine (first5 _ _ _ _ _ _).mono ?_; rintro e w' ⟨rfl, rfl⟩))
  all_goals
    have HFW : Hid (Below w.heap.size w w') := (hB0.out.drew).trans (hb.mono (by simp; omega))
    have HBS : Hid (Below w1.heap.size w1 w') := ((Below.refl _ w1).drew).trans (by simpa using hb)
    have hsz : w.heap.size < w'.heap.size := Nat.lt_of_lt_of_le hlt HBS.out.size
    have hz1b : w1.heap.size ≤ w'.heap.size := HBS.out.size
    rw [HF2.out]
    clear HF2 HL HF hb CS
    go_wp2_with fail
    refine (chunk_any A n cp _).mono ?_
    rintro e w3 ⟨rfl, hw3⟩
    have hBx : Boxed w3 (w'.heap.size + 1) 26 (.slice none 0 0) := by
      rw [← hw3]
      refine Boxed.alloc (Boxed.alloc ?_ _) _
      exact boxed2 _ _ _ _
    have hcS : w3.cell? ⟨w'.heap.size + 1 + 1, 0, none⟩ = some (.slice A n cp) := by rw [← hw3]; simp [go_sem]
    have hcN : w3.cell? ⟨w'.heap.size + 1 + 1 + 1, 0, none⟩ = some (.int .i64 8) := by rw [← hw3]; simp [go_sem]
    have hs3 : w3.heap.size = w'.heap.size + 4 := by rw [← hw3]; simp
    have HB3 : Hid (Below w1.heap.size w1 w3) := by
      show Below _ _ _
      have hz := HBS.out.size
      rw [← hw3]
      exact (((HBS.out.alloc hz _).alloc (by simp; omega) _).alloc (by simp; omega) _).alloc (by simp; omega) _
    clear hw3 HBS
    go_wp2_with fail
    obtain ⟨b0, hb0⟩ : ∃ b, w'.heap.size = b := ⟨_, rfl⟩
    rw [hb0] at hBx hcS hcN hs3 hsz hz1b ⊢
    have hz13 := HB3.out.size
    clear hb0 HFW
    have HB4 : Hid (Below w.heap.size w w3) := hB0.out.trans (HB3.out.mono (by omega))
    refine (wpIn_wide (n := 6)).1 ?_
    refine wpIn_rangeFunc_one (α := Part k) rfl (by omega) (gf := 75) rfl trivial (enters_of Tryd.func75 (by kernel_rfl) rfl)
      (fun x => partV A n x.1) (chunk_stopsN k Fence.wide _ trivial rfl (by omega) (b0 + 1 + 1) (b0 + 1 + 1 + 1) A n cp HKK.out (by omega) hcp hcp2 w3 hcS hcN (by omega) (by omega))
      Kp2.trans (fun W l o o' hl _ _ _ => Kp2.putObj W l o' (by omega) (by omega)) (Below.refl _ _) 9
      (fun pre W => CutI w3 (b0 + 1) xs h c (pre.map (·.1)) W)
      (fun _ _ _ => False)
      (fun s X Y row hs hg hr => CutI.own w3 (b0 + 1) xs h c (by omega) (s.map (·.1)) X Y row hs hg hr)
      (fun _ _ _ _ _ hs _ _ => hs)
      ⟨⟨_, hBx, World.ownsRow_nil _ _ _ _⟩, Below.refl _ _⟩ ?assign ?body ?done ?stop
    case assign =>
      intro l x W K hK
      simp only [List.setIfInBounds_toArray, List.set_cons_zero, List.set_cons_succ] at hK ⊢
      gi_wp2
      exact hK
    case stop =>
      rintro D cc pre W _ _ hf _
      exact hf.elim
    case done =>
      rintro D ys W hD hys hI hK
      obtain ⟨⟨v, hv, ho⟩, hbel⟩ := hI
      rw [hys, blksP_range, List.length_range] at ho
      have hvc := hv.cell
      have hown : Hid ((W.putObj D (.deferred none)).ownsRow w.heap.size 67 11 v k (blCells (blksX xs h c k))) := ownBase (ownsRow_putObj ho (.deferred none) hK rfl) (by omega)
      have HBW : Hid (Below w.heap.size w (W.putObj D (.deferred none))) := (HB4.out.trans (hbel.mono (by omega))).trans (belowK_b (n₀ := w.heap.size) (w := w3) (by omega) W D _ (.deferred none) hD hK rfl rfl)
      clear hys ho hv
      go_wp2
      refine ⟨by simp, .inl ⟨_, _, rfl, run_takeDeferred hK, ?_⟩⟩
      exact ⟨_, results_tmp2 rfl _ _ _, ⟨_, rfl, hown.out⟩, HBW.out⟩
    case body =>
      rintro l pre ⟨x, hx⟩ W hI hlen
      obtain ⟨⟨v, hv, ho⟩, hbel⟩ := hI
      obtain ⟨q, hq⟩ : ∃ q, pre.map (·.1) = q := ⟨_, rfl⟩
      have hjl : q.length < k := by rw [← hq, List.length_map]; exact hlen
      have HQ : Hid ((pre ++ [(⟨x, hx⟩ : Part k)]).map (·.1) = q ++ [x]) := by show _ = _; rw [List.map_append, hq]; rfl
      have hsn := blksP_snoc xs h c q x
      rw [hq] at ho
      have HCj := HC.out q.length hjl
      obtain ⟨j, hj⟩ : ∃ j, q.length = j := ⟨_, rfl⟩
      have HJ := Lib.hid hj
      rw [hj] at HCj hjl hsn ho
      have HSN := Lib.hid hsn
      have hP := HN.out x hx
      have hRW : RdI W A n xs := HR0.out.below (HB4.out.trans (hbel.mono (by omega)))
      have hcsrc := partC_src hRW x (partN n x) hP.2.1 hP.1
      have hclen := partC_length xs x (partN n x)
      have hcone := Lib.hid (partC_one xs x (partN n x))
      have hspl : Hid ((splice (Bl.mk (c + (j : Int)) h (part8 xs x 0) 0).arr.toList 2 (partC xs x (partN n x))).toArray = (Bl.mk (c + (j : Int)) h (part8 xs x 8) 0).arr) := by
        show _ = _
        rw [splice_part _ _ _ _ _ hP.2.2.1, hP.2.2.2]
      have hpv : partV A n x = .slice (cutA A (x * 8) (x * 8 + partN n x)) (partN n x) (partN n x) := rfl
      have hszW := hbel.size
      obtain ⟨m, hm⟩ : ∃ m, partN n x = m := ⟨_, rfl⟩
      rw [hm] at hcsrc hclen hspl hP hcone hpv
      obtain ⟨pa, hpa⟩ : ∃ pa, cutA A (x * 8) (x * 8 + m) = pa := ⟨_, rfl⟩
      rw [hpa] at hcsrc hpv
      obtain ⟨cs, hcs⟩ : ∃ cs, partC xs x m = cs := ⟨_, rfl⟩
      rw [hcs] at hcsrc hclen hspl hcone
      simp only [hpv]
      have hm8 : 0 < m ∧ m ≤ 8 := ⟨hP.2.1, hP.2.2.1⟩
      have HO := Lib.hid ho
      have HBel := Lib.hid hbel
      have HV := Lib.hid hv
      obtain ⟨Ac, ca, hve, _⟩ := own_formT ho
      subst hve
      have hbxW : Hid (Bk W w.heap.size 24 #[.int .i64 h, .int .i64 c]) := hbx.out.below (HB3.out.trans (hbel.mono (by omega))) hlt
      have s0 : W.cell? ⟨w.heap.size, 0, none⟩ = some (.int .i64 h) := by rw [hbxW.out.cell]; rfl
      have s1 : W.cell? ⟨w.heap.size, 1, none⟩ = some (.int .i64 c) := by rw [hbxW.out.cell]; rfl
      have hlt3 : w.heap.size < W.heap.size := by omega
      have hlb3 : b0 + 1 < W.heap.size := by omega
      obtain ⟨wb, hwb⟩ : ∃ X, W.alloc (.cells #[.int .i64 (c + (j : Int)), .int .i64 h, .int .i64 0, .int .i64 0, .int .i64 0, .int .i64 0, .int .i64 0, .int .i64 0, .int .i64 0, .int .i64 0, .int .i64 0] 67) = X := ⟨_, rfl⟩
      have HB0 : Hid (Bk wb W.heap.size 67 (Bl.mk (c + (j : Int)) h (part8 xs x 0) 0).arr) := by
        show Bk _ _ _ _
        rw [← hwb, part8_zero]
        exact Bk.new _ _ _
      have HBb : Hid (Below W.heap.size W wb) := by show Below _ _ _; rw [← hwb]; exact (Below.refl _ _).alloc (Nat.le_refl _) _
      have HSRC : Hid (∃ ad, pa = some ad ∧ ∀ i v, cs[i]? = some v → wb.cell? (ad.add i) = some v) := by
        obtain ⟨ad, e1, e2⟩ := hcsrc
        refine ⟨ad, e1, fun i v hv => ?_⟩
        rw [← hwb]
        exact cellAllocT _ (e2 i v hv)
      have HKb : Hid (KeepsOthers W wb) := by show KeepsOthers _ _; rw [← hwb]; exact KeepsOthers.alloc _ _
      simp only [List.setIfInBounds_toArray, List.set_cons_zero, List.set_cons_succ]
      have HWB := Lib.hid hwb
      clear hpa hm hpv hcs hP ho hbel hv hRW hcsrc hq hj hsn hwb
      have hvc := HV.out.cell
      rw [← HWB.out] at HB0 HSRC
      gi_wp2_with (refine wpListIn_copy_blk _ rfl (.tmp 51) (.tmp 52) 22 22 rfl 3 (by kernel_rfl) (by kernel_rfl) W.heap.size 2 8 8 pa m m rfl rfl (Bl.mk (c + (j : Int)) h (part8 xs x 0) 0).arr 67 HB0.out cs (by rw [hclen]; exact (Nat.min_eq_left hm8.2).symm) HSRC.out (by rw [hclen]; show 2 + m ≤ 11; omega) hcone.out ?_)
      intro w4 hw4 hg4
      have hb8 : Hid (Bk w4 W.heap.size 67 (Bl.mk (c + (j : Int)) h (part8 xs x 8) 0).arr) := by
        show Bk _ _ _ _
        rw [← hspl.out]
        exact hw4.out
      have hBW4 : Hid (Below W.heap.size W w4) := by
        show Below _ _ _
        rw [HWB.out] at hg4
        exact HBb.out.grown hg4 HBb.out.size (fun z e => by cases e; exact Nat.le_refl _)
      have hKW4 : Hid (KeepsOthers W w4) := by
        show KeepsOthers _ _
        rw [HWB.out] at hg4 HB0
        refine HKb.out.trans (KeepsOthers.of_grownBy hg4 (fun z o e ho => ?_))
        cases e
        rw [HB0.out.heap] at ho
        cases ho
        rfl
      have hbn := part8_bnd xs x HX.out
      have hei := eight_eq (part8 xs x 8) (part8_length xs x 8)
      have HBL : Hid (blkP xs h c j x = ⟨c + (j : Int), h, part8 xs x 8, sumT (c + (j : Int)) h (part8 xs x 8)⟩) := rfl
      obtain ⟨ys, hys⟩ : ∃ ys, part8 xs x 8 = ys := ⟨_, rfl⟩
      rw [hys] at hb8 hbn hei HBL
      have hb8 : Hid (Bk w4 W.heap.size 67 #[.int .i64 (c + (j : Int)), .int .i64 h, .int .i64 (ys.getD 0 0), .int .i64 (ys.getD 1 0), .int .i64 (ys.getD 2 0), .int .i64 (ys.getD 3 0), .int .i64 (ys.getD 4 0), .int .i64 (ys.getD 5 0), .int .i64 (ys.getD 6 0), .int .i64 (ys.getD 7 0), .int .i64 0]) := hb8.out
      have HBA : Hid ((blkP xs h c j x).arr.toList = [.int .i64 (c + (j : Int)), .int .i64 h, .int .i64 (ys.getD 0 0), .int .i64 (ys.getD 1 0), .int .i64 (ys.getD 2 0), .int .i64 (ys.getD 3 0), .int .i64 (ys.getD 4 0), .int .i64 (ys.getD 5 0), .int .i64 (ys.getD 6 0), .int .i64 (ys.getD 7 0), .int .i64 (sumT (c + (j : Int)) h ys)]) := by show _ = _; rw [HBL.out]; rfl
      have CS2 : Hid (∀ W, Calls Tryd.prog 46 #[.agg #[.int .i64 (c + (j : Int)), .int .i64 h, .int .i64 (ys.getD 0 0), .int .i64 (ys.getD 1 0), .int .i64 (ys.getD 2 0), .int .i64 (ys.getD 3 0), .int .i64 (ys.getD 4 0), .int .i64 (ys.getD 5 0), .int .i64 (ys.getD 6 0), .int .i64 (ys.getD 7 0), .int .i64 0]] W fun e w' => e = .returned (.int .i64 (sumT (c + (j : Int)) h ys)) ∧ Below W.heap.size W w') := fun W => by
        have := sumOf_ok (c + (j : Int)) h (ys.getD 0 0) (ys.getD 1 0) (ys.getD 2 0) (ys.getD 3 0) (ys.getD 4 0) (ys.getD 5 0) (ys.getD 6 0) (ys.getD 7 0) 0 W HCj HH.out hbn
        rw [hei] at this
        exact this
      clear hbn hei HBL hys hw4 hg4 hspl HSRC hcone HB0 HBb HKb HWB hclen
      obtain ⟨sm, hsm⟩ : ∃ sm, sumT (c + (j : Int)) h ys = sm := ⟨_, rfl⟩
      rw [hsm] at CS2 HBA
      clear hsm
      generalize ys.getD 0 0 = y0 at *
      generalize ys.getD 1 0 = y1 at *
      generalize ys.getD 2 0 = y2 at *
      generalize ys.getD 3 0 = y3 at *
      generalize ys.getD 4 0 = y4 at *
      generalize ys.getD 5 0 = y5 at *
      generalize ys.getD 6 0 = y6 at *
      generalize ys.getD 7 0 = y7 at *
      have d0 : w4.cell? ⟨W.heap.size, 0, none⟩ = some (.int .i64 (c + (j : Int))) := by rw [hb8.out.cell]; rfl
      have d1 : w4.cell? ⟨W.heap.size, 1, none⟩ = some (.int .i64 h) := by rw [hb8.out.cell]; rfl
      have d2 : w4.cell? ⟨W.heap.size, 2, none⟩ = some (.int .i64 y0) := by rw [hb8.out.cell]; rfl
      have d3 : w4.cell? ⟨W.heap.size, 3, none⟩ = some (.int .i64 y1) := by rw [hb8.out.cell]; rfl
      have d4 : w4.cell? ⟨W.heap.size, 4, none⟩ = some (.int .i64 y2) := by rw [hb8.out.cell]; rfl
      have d5 : w4.cell? ⟨W.heap.size, 5, none⟩ = some (.int .i64 y3) := by rw [hb8.out.cell]; rfl
      have d6 : w4.cell? ⟨W.heap.size, 6, none⟩ = some (.int .i64 y4) := by rw [hb8.out.cell]; rfl
      have d7 : w4.cell? ⟨W.heap.size, 7, none⟩ = some (.int .i64 y5) := by rw [hb8.out.cell]; rfl
      have d8 : w4.cell? ⟨W.heap.size, 8, none⟩ = some (.int .i64 y6) := by rw [hb8.out.cell]; rfl
      have d9 : w4.cell? ⟨W.heap.size, 9, none⟩ = some (.int .i64 y7) := by rw [hb8.out.cell]; rfl
      have d10 : w4.cell? ⟨W.heap.size, 10, none⟩ = some (.int .i64 0) := by rw [hb8.out.cell]; rfl
      clear s0 s1 hvc
      have hgl : W.heap.size < w4.heap.size := hb8.out.lt
      gi_wp2_with fail
      refine ⟨trivial, ?_⟩
      refine (CallsIn.inRound l (callsIn_wide.2 (CS2.out _))).mono ?_
      rintro e w5 ⟨rfl, hb5⟩
      have hb85 := hb8.out.below hb5 hgl
      have hlt5 : W.heap.size < w5.heap.size := hb85.lt
      have hB5 : Hid (Below W.heap.size W w5) := hBW4.out.trans (hb5.mono (by omega))
      have hK5 : Hid (KeepsOthers W w5) := hKW4.out.trans (KeepsOthers.of_below hb5)
      clear hb5 d0 d1 d2 d3 d4 d5 d6 d7 d8 d9 d10
      have e0 : w5.cell? ⟨W.heap.size, 0, none⟩ = some (.int .i64 (c + (j : Int))) := by rw [hb85.cell]; rfl
      have e1 : w5.cell? ⟨W.heap.size, 1, none⟩ = some (.int .i64 h) := by rw [hb85.cell]; rfl
      have e2 : w5.cell? ⟨W.heap.size, 2, none⟩ = some (.int .i64 y0) := by rw [hb85.cell]; rfl
      have e3 : w5.cell? ⟨W.heap.size, 3, none⟩ = some (.int .i64 y1) := by rw [hb85.cell]; rfl
      have e4 : w5.cell? ⟨W.heap.size, 4, none⟩ = some (.int .i64 y2) := by rw [hb85.cell]; rfl
      have e5 : w5.cell? ⟨W.heap.size, 5, none⟩ = some (.int .i64 y3) := by rw [hb85.cell]; rfl
      have e6 : w5.cell? ⟨W.heap.size, 6, none⟩ = some (.int .i64 y4) := by rw [hb85.cell]; rfl
      have e7 : w5.cell? ⟨W.heap.size, 7, none⟩ = some (.int .i64 y5) := by rw [hb85.cell]; rfl
      have e8 : w5.cell? ⟨W.heap.size, 8, none⟩ = some (.int .i64 y6) := by rw [hb85.cell]; rfl
      have e9 : w5.cell? ⟨W.heap.size, 9, none⟩ = some (.int .i64 y7) := by rw [hb85.cell]; rfl
      have e10 : w5.cell? ⟨W.heap.size, 10, none⟩ = some (.int .i64 0) := by rw [hb85.cell]; rfl
      have efr : w5.frozen? ⟨W.heap.size, 10, none⟩ = false := hb85.frozen _
      have HB6 : Hid (Below W.heap.size W (w5.setCell ⟨W.heap.size, 10, none⟩ (.int .i64 sm))) := hB5.out.setCell (by simp) _
      have HK6 : Hid (KeepsOthers W (w5.setCell ⟨W.heap.size, 10, none⟩ (.int .i64 sm))) := hK5.out.trans (KeepsOthers.setCell _ _ _)
      have HO6 : Hid ((w5.setCell ⟨W.heap.size, 10, none⟩ (.int .i64 sm)).ownsRow w3.heap.size 67 11 (.slice Ac j ca) j (blCells (blksP xs h c q))) := ownBelowT HO.out HB6.out
      have HV6 : Hid (Boxed (w5.setCell ⟨W.heap.size, 10, none⟩ (.int .i64 sm)) (b0 + 1) 26 (.slice Ac j ca)) := (HB6.out.block _ HV.out.lt).trans HV.out
      have hv6 : (w5.setCell ⟨W.heap.size, 10, none⟩ (.int .i64 sm)).cell? ⟨b0 + 1, 0, none⟩ = some (.slice Ac j ca) := HV6.out.cell
      have hv5 : w5.cell? ⟨b0 + 1, 0, none⟩ = some (.slice Ac j ca) := (hB5.out.cell (p := ⟨b0 + 1, 0, none⟩) HV.out.lt).trans HV.out.cell
      have hz6 : w3.heap.size ≤ (w5.setCell ⟨W.heap.size, 10, none⟩ (.int .i64 sm)).heap.size := Nat.le_trans hszW HB6.out.size
      have hne : ¬ b0 + 1 = W.heap.size := by omega
      clear hB5 hb85 hK5
      have hsz5 : (w5.setCell ⟨W.heap.size, 10, none⟩ (.int .i64 sm)).heap.size = w5.heap.size := by simp
      have HN11 : Hid (∀ i u, [.int .i64 (c + (j : Int)), .int .i64 h, .int .i64 y0, .int .i64 y1, .int .i64 y2, .int .i64 y3, .int .i64 y4, .int .i64 y5, .int .i64 y6, .int .i64 y7, .int .i64 sm][i]? = some u → ((w5.setCell ⟨W.heap.size, 10, none⟩ (.int .i64 sm)).alloc (.cells #[.int .i64 (c + (j : Int)), .int .i64 h, .int .i64 y0, .int .i64 y1, .int .i64 y2, .int .i64 y3, .int .i64 y4, .int .i64 y5, .int .i64 y6, .int .i64 y7, .int .i64 sm] 67)).cell? ((⟨w5.heap.size, 0, none⟩ : Addr).add i) = some u) := by
        show ∀ i u, _ → _
        rw [← hsz5]
        exact new11 _ #[.int .i64 (c + (j : Int)), .int .i64 h, .int .i64 y0, .int .i64 y1, .int .i64 y2, .int .i64 y3, .int .i64 y4, .int .i64 y5, .int .i64 y6, .int .i64 y7, .int .i64 sm] _
      clear hsz5
      gi_wp2_with (gi_at_builtin; refine wpListIn_append_own _ rfl (.tmp 57) (.tmp 59) 26 rfl w3.heap.size 67 i0 _ 11 88 Tryd.underlying26 hi0 hz0 hz1 hz2 rfl (by decide) _ _ _ rfl (HO6.out.alloc _) ⟨w5.heap.size, 0, none⟩ 1 1 [.int .i64 (c + (j : Int)), .int .i64 h, .int .i64 y0, .int .i64 y1, .int .i64 y2, .int .i64 y3, .int .i64 y4, .int .i64 y5, .int .i64 y6, .int .i64 y7, .int .i64 sm] rfl rfl HN11.out (by simp [Value.oneCell']) (by unfold maxLen; omega) (by omega) (by simp at hz6 ⊢; omega) ?_)
      intro v' w6 hown' hgrow _
      obtain ⟨g', cap', rfl⟩ := ownsRow_succ hown'
      have HB7 : Hid (Below w3.heap.size W w6) := ((HB6.out.mono hszW).alloc hz6 _).grown hgrow (by simp at hz6 ⊢; omega) (fun z e => (HO6.out.lt z e).1)
      have HK7 : Hid (KeepsOthers W w6) := by
        refine (HK6.out.trans (KeepsOthers.alloc _ _)).trans (KeepsOthers.of_grownBy hgrow (fun z o e ho => ?_))
        rcases (HO6.out.alloc (.cells #[.int .i64 (c + (j : Int)), .int .i64 h, .int .i64 y0, .int .i64 y1, .int .i64 y2, .int .i64 y3, .int .i64 y4, .int .i64 y5, .int .i64 y6, .int .i64 y7, .int .i64 sm] 67)).2 with ⟨h1, _⟩ | ⟨g, cap, cur, h1, _, hgb, _⟩
        · rw [h1] at e; simp [Value.ownBlock] at e
        · rw [h1] at e
          obtain rfl : g = z := by simpa [Value.ownBlock] using e
          rw [hgb] at ho; cases ho; rfl
      have HV7 : Hid (Boxed w6 (b0 + 1) 26 (.slice Ac j ca)) := (HB7.out.block _ (by omega)).trans HV.out
      have hv7 : w6.cell? ⟨b0 + 1, 0, none⟩ = some (.slice Ac j ca) := HV7.out.cell
      have hf7 : w6.frozen? ⟨b0 + 1, 0, none⟩ = false := HV7.out.frozen
      have HOW := Lib.hid hown'
      clear hown' hgrow HB6 HK6 HO6 HN11 hv5 efr e0 e1 e2 e3 e4 e5 e6 e7 e8 e9 e10
      gi_wp2
      refine ⟨(HK7.out.trans (KeepsOthers.setCell _ _ _)).from _, ?_, ⟨⟨_, HV7.out.set _, ?_⟩, ?_⟩⟩
      · exact (Kp2.of_below HB7.out (by omega) (by omega)).trans (Kp2.setCell _ _ _ (by show (_ : Nat) ≠ b0 + 1; omega) (by show (_ : Nat) ≠ b0 + 1; omega))
      · rw [HQ.out, HSN.out, blCells_snoc, HBA.out, List.length_append, HJ.out]
        refine ownsRow_setCell_below ?_ (by simp; omega) _
        rw [hs3]
        exact HOW.out
      · exact HBel.out.trans ((HB7.out.mono (by omega)).setCell (by simp) _)

end Go.Proofs.YtmeddnpahkigeaaDoor
