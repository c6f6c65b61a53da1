import Derived.Test.YtkemoffagdilgaaDoorST6
namespace Go.Proofs.YtkemoffagdilgaaDoor
open Go.RowKit

def kws (j : Nat) : ByteArray := [kwD, kwC, kwT].getD j kwD
def kindUp (b : ByteArray) : Nat → Int
  | 0 => -1
  | j + 1 => if b = kws j then (j : Int) else kindUp b j
theorem kindUp3 (b : ByteArray) : kindUp b 3 = kindP b := by
  have d1 : kwD ≠ kwC := by decide
  have d2 : kwD ≠ kwT := by decide
  have d3 : kwC ≠ kwT := by decide
  unfold kindP
  simp only [kindUp, kws, List.getD_cons_succ, List.getD_cons_zero]
  by_cases h0 : b = kwD
  · subst h0; rw [if_neg d2, if_neg d1]; simp
  · by_cases h1 : b = kwC
    · subst h1; rw [if_neg d3]; simp [h0]
    · simp [h0, h1]
theorem kindP_bd (b : ByteArray) : -1 ≤ kindP b ∧ kindP b ≤ 2 := by
  unfold kindP; split; omega; split; omega; split <;> omega

theorem not_empty {a : ByteArray} (h : a ≠ ⟨#[]⟩) : a.toList.isEmpty = false := by
  rw [Lib.toList_data]
  cases e : a.data.toList with
  | nil => exact absurd (ByteArray.ext (Array.toList_inj.1 e)) h
  | cons _ _ => rfl
theorem words_form (w : World) :
    Calls Tryd.prog 21 #[] w fun e w' => ∃ g, e = .returned (.slice (some ⟨g, 0, none⟩) 3 3) ∧ Bk w' g 9 #[.string kwD, .string kwC, .string kwT] ∧ Below w.heap.size w w' :=
  (words_any w).mono fun _ _ h => ⟨_, h⟩
theorem cRow_size (nm : ByteArray) (k sd n d : Int) : noC.size = (cRow nm k sd n d).size := rfl
theorem wkw {W : World} {g : Nat} (h : Bk W g 9 #[.string kwD, .string kwC, .string kwT]) (j : Nat) (hj : j < 3) : W.cell? ⟨g, j, none⟩ = some (.string (kws j)) := by
  rw [h.cell]
  rcases (show j = 0 ∨ j = 1 ∨ j = 2 by omega) with rfl | rfl | rfl <;> rfl

set_option maxRecDepth 100000 in
set_option maxHeartbeats 4000000 in
theorem refPC_2 (s a : ByteArray) (r : List (List UInt8)) (w : World) (hs : s.size ≤ 1000000) (hn : pcs 32 s.data.toList = a.data.toList :: r) (hr : r.length = 3) (ha : a = ⟨#[]⟩) :
    Calls Tryd.prog 7 #[.string s] w fun e w' => e = .returned (.tuple #[.agg noC, .int .i64 7]) ∧ Below w.heap.size w w' := by
  have C20 : Hid (∀ W, _) := Lib.hid fun W => cut_form s 32 32 rfl W (by omega) _ 4 hn (by simp [hr])
  obtain ⟨wA, hwA⟩ : ∃ wA, (w.alloc (.cells noC 25)).alloc (.cells noC 25) = wA := ⟨_, rfl⟩
  have U0 : Hid (RC w wA) := by show RC w wA; rw [← hwA]; exact rc_start w
  have HWA := Lib.hid hwA
  subst ha
  clear hn hwA hr
  go_enter Tryd.func7, Tryd.ntmps7
  go_wp2_with fail
  refine Calls.mono (w := (w.alloc (.cells noC 25)).alloc (.cells noC 25)) (C20.out _) ?_
  rw [HWA.out]
  rintro e w2 ⟨g, cp, rfl, hg1, hg2, hc, hb2⟩
  have U2 := Lib.hid (U0.out.later hb2)
  have F0 := Lib.hid (U2.out.fin noC)
  have c0 : w2.cell? ⟨g, 0, none⟩ = some (.string ⟨#[]⟩) := hc 0 _ rfl
  clear hb2 hc
  go_wp2_with (first
    | (with_reducible refine wpList_load_row rfl 25 (.tmp 4) rfl (w.heap.size + 1) rfl 25 noC (0, 0) _ U2.out.g1.heap Tryd.underlying25 rfl carInfoN ?_)
    | (with_reducible refine wpList_store_row rfl 25 (.tmp 2) (.tmp 27) rfl w.heap.size noC rfl rfl 25 noC U2.out.g0.heap carInfoN noC_size noC_one ?_))
  refine bodyPost_ret (v := .tuple #[.agg noC, .int .i64 7]) ?_ rfl ⟨rfl, F0.out.2⟩
  exact results_cell_tmp (fn := Tryd.f7) rfl _ _ w.heap.size 25 noC (0, 0) _ rfl F0.out.1 Tryd.underlying25 rfl carInfoN

theorem pcs_sz (c : UInt8) (l : List UInt8) : ∀ p ∈ pcs c l, p.length ≤ l.length := by
  induction l with
  | nil => intro p hp; simp [pcs] at hp; simp [hp]
  | cons b t ih =>
    intro p hp
    unfold pcs at hp
    split at hp
    · rcases List.mem_cons.1 hp with rfl | h
      · simp
      · have := ih p h; simp only [List.length_cons]; omega
    · cases h : pcs c t with
      | nil => exact absurd h (pcs_ne c t)
      | cons q qs =>
        rw [h] at hp ih
        rcases List.mem_cons.1 hp with rfl | h
        · have := ih q (by simp); simp only [List.length_cons]; omega
        · have := ih p (by simp [h]); simp only [List.length_cons]; omega
theorem piece_sz {d x y : ByteArray} (h : pcs 47 d.data.toList = [x.data.toList, y.data.toList]) (hd : d.size ≤ 1000000) : x.size ≤ 1000000 ∧ y.size ≤ 1000000 := by
  have h1 := pcs_sz 47 d.data.toList x.data.toList (by rw [h]; simp)
  have h2 := pcs_sz 47 d.data.toList y.data.toList (by rw [h]; simp)
  have e : ∀ z : ByteArray, z.data.toList.length = z.size := fun z => by simp
  rw [e, e] at h1 h2
  omega
theorem two_of {ps : List (List UInt8)} (h : ps.length = 2) : ∃ x y : ByteArray, ps = [x.data.toList, y.data.toList] := by
  match ps, h with
  | [p, q], _ => exact ⟨⟨p.toArray⟩, ⟨q.toArray⟩, by simp⟩
/-- What is read of the words for kind k, the sides and the speed's two parts: the carrier, or 'none' and an error. -/
def parV (a : ByteArray) (k : Int) (ps : List (List UInt8)) (c : ByteArray) : Array Value × Int :=
  if k < 0 then (noC, 7) else match ps with
    | [x, y] => match numS c.data.toList 6, numS x 6, numS y 6 with
      | some s, some n, some m => if s < 0 ∨ n < 0 ∨ m < 0 then (noC, 7) else if carrE a.data.toList k s n m = 0 then (cRow a k s n m, 0) else (noC, carrE a.data.toList k s n m)
      | _, _, _ => (noC, 7)
    | _ => (noC, 7)
theorem parV_bad1 (a : ByteArray) (k : Int) (ps : List (List UInt8)) (c : ByteArray) (h : k < 0 ∨ ps.length ≠ 2) : parV a k ps c = (noC, 7) := by
  unfold parV
  split
  · rfl
  · split
    · rcases h with h | h
      · exact absurd h (by assumption)
      · exact absurd rfl h
    · rfl

def txt (c x y : ByteArray) (j : Nat) : ByteArray := [c, x, y].getD j c
def valP (c x y : ByteArray) (j : Nat) : Int := (numS (txt c x y j).data.toList 6).getD 0
def goodP (c x y : ByteArray) (j : Nat) : Prop := ∃ v, numS (txt c x y j).data.toList 6 = some v ∧ 0 ≤ v
def nRow (c x y : ByteArray) (j : Nat) : Array Value := #[.int .i64 (if 0 < j then valP c x y 0 else 0), .int .i64 (if 1 < j then valP c x y 1 else 0), .int .i64 (if 2 < j then valP c x y 2 else 0)]
theorem nRow_step (c x y : ByteArray) (j : Nat) (h : j < 3) : (nRow c x y j).setIfInBounds j (.int .i64 (valP c x y j)) = nRow c x y (j + 1) := by
  rcases (show j = 0 ∨ j = 1 ∨ j = 2 by omega) with rfl | rfl | rfl <;> simp [nRow]
theorem nRow_at (c x y : ByteArray) (j : Nat) (h : j < 3) : (nRow c x y j)[j]? = some (.int .i64 0) := by
  rcases (show j = 0 ∨ j = 1 ∨ j = 2 by omega) with rfl | rfl | rfl <;> simp [nRow]
theorem txt_at (c x y : ByteArray) (j : Nat) (h : j < 3) : (#[.string c, .string x, .string y] : Array Value)[j]? = some (.string (txt c x y j)) := by
  rcases (show j = 0 ∨ j = 1 ∨ j = 2 by omega) with rfl | rfl | rfl <;> rfl
theorem valP_bd (c x y : ByteArray) (j : Nat) : -1000000 < valP c x y j ∧ valP c x y j < 1000000 := by
  unfold valP
  cases h : numS (txt c x y j).data.toList 6 with
  | none => simp
  | some v => have := numS_bd h; simp at this ⊢; omega
theorem parV_bad2 (a : ByteArray) (k : Int) (c x y : ByteArray) (j : Nat) (hj : j < 3) (h : ¬ goodP c x y j) : parV a k [x.data.toList, y.data.toList] c = (noC, 7) := by
  unfold parV
  split
  · rfl
  · dsimp only
    cases h0 : numS c.data.toList 6 with
    | none => rfl
    | some v0 =>
      cases h1 : numS x.data.toList 6 with
      | none => rfl
      | some v1 =>
        cases h2 : numS y.data.toList 6 with
        | none => rfl
        | some v2 =>
          dsimp only
          rw [if_pos]
          rcases (show j = 0 ∨ j = 1 ∨ j = 2 by omega) with rfl | rfl | rfl
          · refine .inl ?_; have : ¬ 0 ≤ v0 := fun e => h ⟨v0, h0, e⟩; omega
          · refine .inr (.inl ?_); have : ¬ 0 ≤ v1 := fun e => h ⟨v1, h1, e⟩; omega
          · refine .inr (.inr ?_); have : ¬ 0 ≤ v2 := fun e => h ⟨v2, h2, e⟩; omega
theorem parV_good (a : ByteArray) (k : Int) (c x y : ByteArray) (hk : ¬ k < 0) (h : ∀ j, j < 3 → goodP c x y j) : parV a k [x.data.toList, y.data.toList] c = if carrE a.data.toList k (valP c x y 0) (valP c x y 1) (valP c x y 2) = 0 then (cRow a k (valP c x y 0) (valP c x y 1) (valP c x y 2), 0) else (noC, carrE a.data.toList k (valP c x y 0) (valP c x y 1) (valP c x y 2)) := by
  obtain ⟨v0, h0, g0⟩ := h 0 (by omega)
  obtain ⟨v1, h1, g1⟩ := h 1 (by omega)
  obtain ⟨v2, h2, g2⟩ := h 2 (by omega)
  have e0 : valP c x y 0 = v0 := by unfold valP; rw [h0]; rfl
  have e1 : valP c x y 1 = v1 := by unfold valP; rw [h1]; rfl
  have e2 : valP c x y 2 = v2 := by unfold valP; rw [h2]; rfl
  rw [e0, e1, e2]
  unfold parV
  rw [if_neg hk]
  dsimp only
  rw [show numS c.data.toList 6 = some v0 from h0, show numS x.data.toList 6 = some v1 from h1, show numS y.data.toList 6 = some v2 from h2]
  dsimp only
  rw [if_neg (by omega)]
theorem good_cases (c x y : ByteArray) (j : Nat) : (goodP c x y j ∧ (numS (txt c x y j).data.toList 6).isSome = true ∧ 0 ≤ valP c x y j) ∨ (¬ goodP c x y j ∧ (numS (txt c x y j).data.toList 6).isSome = false) ∨ (¬ goodP c x y j ∧ (numS (txt c x y j).data.toList 6).isSome = true ∧ valP c x y j < 0) := by
  unfold goodP valP
  cases h : numS (txt c x y j).data.toList 6 with
  | none => exact .inr (.inl ⟨(fun ⟨_, e, _⟩ => by cases e), rfl⟩)
  | some v =>
    by_cases hv : 0 ≤ v
    · exact .inl ⟨⟨v, rfl, hv⟩, rfl, hv⟩
    · exact .inr (.inr ⟨(fun ⟨u, e, hu⟩ => by cases e; exact hv hu), rfl, by simp; omega⟩)

set_option maxRecDepth 100000 in
set_option maxHeartbeats 8000000 in
theorem refPC_3 (s a b c d : ByteArray) (w : World) (hs : s.size ≤ 1000000) (hd : d.size ≤ 1000000) (hsz : a.size ≤ 1000000 ∧ c.size ≤ 1000000) (hn : pcs 32 s.data.toList = [a.data.toList, b.data.toList, c.data.toList, d.data.toList]) (ha : a ≠ ⟨#[]⟩) (ps2 : List (List UInt8)) (hp2 : pcs 47 d.data.toList = ps2) (o : Array Value) (r : Int) (hV : parV a (kindP b) ps2 c = (o, r)) :
    Calls Tryd.prog 7 #[.string s] w fun e w' => e = .returned (.tuple #[.agg o, .int .i64 r]) ∧ Below w.heap.size w w' := by
  have C20 : Hid (∀ W, _) := Lib.hid fun W => cut_form s 32 32 rfl W (by omega) _ 4 hn rfl
  have C21 : Hid (∀ W, _) := Lib.hid fun W => cut_form d 47 47 rfl W (by omega) ps2 ps2.length hp2 rfl
  obtain ⟨wA, hwA⟩ : ∃ wA, (w.alloc (.cells noC 25)).alloc (.cells noC 25) = wA := ⟨_, rfl⟩
  have U0 : Hid (RC w wA) := by show RC w wA; rw [← hwA]; exact rc_start w
  have HWA := Lib.hid hwA
  have hae : a.toList.isEmpty = false := not_empty ha
  have HK3 := Lib.hid (kindUp3 b)
  have HV := Lib.hid hV
  have HP2 := Lib.hid hp2
  clear hn hwA ha hV hp2
  go_enter Tryd.func7, Tryd.ntmps7
  go_wp2_with fail
  refine Calls.mono (w := (w.alloc (.cells noC 25)).alloc (.cells noC 25)) (C20.out _) ?_
  rw [HWA.out]
  rintro e w2 ⟨g, cp, rfl, hg1, hg2, hc, hb2⟩
  have U2 := Lib.hid (U0.out.later hb2)
  have c0 : w2.cell? ⟨g, 0, none⟩ = some (.string a) := hc 0 _ rfl
  have c1 : Hid (w2.cell? ⟨g, 1, none⟩ = some (.string b)) := hc 1 _ rfl
  have c2 : Hid (w2.cell? ⟨g, 2, none⟩ = some (.string c)) := hc 2 _ rfl
  have c3 : Hid (w2.cell? ⟨g, 3, none⟩ = some (.string d)) := hc 3 _ rfl
  clear hb2 hc
  go_wp2
  have K0 : Hid (Bk (w2.alloc (.cells (cRow a (-1) 0 0 0) 25)) w2.heap.size 25 (cRow a (kindUp b 0) 0 0 0)) := Bk.new _ _ _
  have B0 : Hid (Below w2.heap.size w2 (w2.alloc (.cells (cRow a (-1) 0 0 0) 25))) := (Below.refl _ _).alloc (Nat.le_refl _) _
  obtain ⟨w3, hw3⟩ : ∃ W, w2.alloc (.cells (cRow a (-1) 0 0 0) 25) = W := ⟨_, rfl⟩
  rw [hw3]
  rw [hw3] at K0 B0
  clear hw3 c0
  go_loopw [7] (fun k wr => ∃ j : Nat, j ≤ 3 ∧ k = .int .i64 (j : Int) ∧ Hid (Bk wr w2.heap.size 25 (cRow a (kindUp b j) 0 0 0)) ∧ Hid (Below w2.heap.size w2 wr)) (fun k _ => 3 - (intOf k).toNat)
  case atStart => exact ⟨0, by omega, rfl, K0.out, B0.out⟩
  case round =>
    clear K0 B0
    obtain ⟨j, hj, rfl, HK, HB⟩ := hrel
    by_cases hlt : j < 3
    · have c1r : wr.cell? ⟨g, 1, none⟩ = some (.string b) := by rw [HB.out.cell hg2]; exact c1.out
      have hgr : g < wr.heap.size := Nat.lt_of_lt_of_le hg2 HB.out.size
      have hltI : (j : Int) < 3 := by omega
      by_cases hbk : b = kws j
      · have hbe : (b.toList == (kws j).toList) = true := by rw [hbk]; simp
        have HST : Hid (kindUp b (j + 1) = (j : Int)) := by show _ = _; rw [kindUp, if_pos hbk]
        clear hbk
        go_wp2_with fail
        go_region_with ((go_at_call 21; refine (words_form _).mono ?_; rintro e w' ⟨g', rfl, hk, hb⟩; have hkj := wkw hk j hlt; have c1' : w'.cell? ⟨g, 1, none⟩ = some (.string b) := (by rw [hb.cell (by simpa using hgr)]; simpa using c1r); have hg' : g < w'.heap.size := (Nat.lt_of_lt_of_le (by simpa using hgr) hb.size); have HB' : Hid (Below wr.heap.size wr w') := (by first | exact hb | exact ((Below.refl _ _).drew).trans hb | exact ((Below.refl _ _).drewN _).trans hb); have HK' : Hid (Bk w' w2.heap.size 25 (cRow a (kindUp b j) 0 0 0)) := HK.out.below HB'.out HK.out.lt; have ck : w'.cell? ⟨w2.heap.size, 1, none⟩ = some (.int .i64 (kindUp b j)) := (by rw [HK'.out.cell]; rfl); have cf : w'.frozen? ⟨w2.heap.size, 1, none⟩ = false := HK'.out.frozen _; clear hb hk))
        all_goals
          go_wp2
          go_roundw
          case rel =>
            refine ⟨j + 1, by omega, by go_num, ?_, (HB.out.trans (HB'.out.mono HB.out.size)).setCell (Nat.le_refl _) _⟩
            show Bk _ _ _ _
            rw [HST.out]
            exact HK'.out.set_ 1 _
          case measure => simp [intOf]; omega
      · have hbe : (b.toList == (kws j).toList) = false := by
          refine beq_eq_false_iff_ne.2 fun e => hbk ?_
          rw [Lib.toList_data, Lib.toList_data] at e
          exact ByteArray.ext (Array.toList_inj.1 e)
        have HST : Hid (kindUp b (j + 1) = kindUp b j) := by show _ = _; rw [kindUp, if_neg hbk]
        clear hbk
        go_wp2_with fail
        go_region_with ((go_at_call 21; refine (words_form _).mono ?_; rintro e w' ⟨g', rfl, hk, hb⟩; have hkj := wkw hk j hlt; have c1' : w'.cell? ⟨g, 1, none⟩ = some (.string b) := (by rw [hb.cell (by simpa using hgr)]; simpa using c1r); have hg' : g < w'.heap.size := (Nat.lt_of_lt_of_le (by simpa using hgr) hb.size); have HB' : Hid (Below wr.heap.size wr w') := (by first | exact hb | exact ((Below.refl _ _).drew).trans hb | exact ((Below.refl _ _).drewN _).trans hb); have HK' : Hid (Bk w' w2.heap.size 25 (cRow a (kindUp b j) 0 0 0)) := HK.out.below HB'.out HK.out.lt; clear hb hk))
        all_goals
          go_wp2
          go_roundw
          case rel =>
            refine ⟨j + 1, by omega, by go_num, ?_, HB.out.trans (HB'.out.mono HB.out.size)⟩
            show Bk _ _ _ _
            rw [HST.out]
            exact HK'.out
          case measure => simp [intOf]; omega
    · obtain rfl : j = 3 := by omega
      have HR := Lib.hid (U2.out.later HB.out)
      have c3r : wr.cell? ⟨g, 3, none⟩ = some (.string d) := by rw [HB.out.cell hg2]; exact c3.out
      have hgr : g < wr.heap.size := Nat.lt_of_lt_of_le hg2 HB.out.size
      rw [HK3.out] at HK
      clear HK3
      obtain ⟨k, hk⟩ : ∃ k, kindP b = k := ⟨_, rfl⟩
      rw [hk] at HK HV
      clear hk
      go_wp2_with fail
      refine (C21.out _).mono ?_
      rintro e w4 ⟨g4, cp4, rfl, hz4, hg4, hc4, hb4⟩
      have HR4 := Lib.hid (HR.out.later hb4)
      have F0 := Lib.hid (HR4.out.fin noC)
      have HK4 : Hid (Bk w4 w2.heap.size 25 (cRow a k 0 0 0)) := HK.out.below hb4 HK.out.lt
      have HB4 : Hid (Below w2.heap.size w2 w4) := HB.out.trans (hb4.mono HB.out.size)
      have kc : w4.cell? ⟨w2.heap.size, 1, none⟩ = some (.int .i64 k) := by rw [HK4.out.cell]; rfl
      clear HR HK HB hb4 c3r hgr C20 C21 U0 HWA
      by_cases hk0 : k < 0
      · have HX := parV_bad1 a k ps2 c (.inl hk0)
        obtain ⟨rfl, rfl⟩ : noC = o ∧ 7 = r := by have := HX.symm.trans HV.out; exact Prod.mk.injEq .. ▸ this
        clear HV HX hc4
        go_wp2_with (first
          | (with_reducible refine wpList_load_row rfl 25 (.tmp 4) rfl (w.heap.size + 1) rfl 25 noC (0, 0) _ HR4.out.g1.heap Tryd.underlying25 rfl carInfoN ?_)
          | (with_reducible refine wpList_store_row rfl 25 (.tmp 2) (.tmp 58) rfl w.heap.size noC rfl rfl 25 noC HR4.out.g0.heap carInfoN noC_size noC_one ?_))
        refine bodyPost_ret (v := .tuple #[.agg noC, .int .i64 7]) ?_ rfl ⟨rfl, F0.out.2⟩
        exact results_cell_tmp (fn := Tryd.f7) rfl _ _ w.heap.size 25 noC (0, 0) _ rfl F0.out.1 Tryd.underlying25 rfl carInfoN
      by_cases hn2 : ps2.length = 2
      · obtain ⟨x, y, hxy⟩ : ∃ x y : ByteArray, ps2 = [x.data.toList, y.data.toList] := two_of hn2
        have e0 : w4.cell? ⟨g4, 0, none⟩ = some (.string x) := hc4 0 _ (by rw [hxy]; rfl)
        have e1 : w4.cell? ⟨g4, 1, none⟩ = some (.string y) := hc4 1 _ (by rw [hxy]; rfl)
        have e2 : w4.cell? ⟨g, 2, none⟩ = some (.string c) := by rw [HB4.out.cell hg2]; exact c2.out
        have hxs : x.size ≤ 1000000 ∧ y.size ≤ 1000000 := piece_sz (HP2.out.trans hxy) hd
        rw [hn2]
        clear hc4 hn2
        have hgL : g < w4.heap.size := Nat.lt_of_lt_of_le hg2 HB4.out.size
        go_wp2_with fail
        go_region
        go_wp2
        obtain ⟨w6, hw6⟩ : ∃ W, ((w4.alloc (.cells #[.string c, .string x, .string y] 9)).alloc (.cells #[.int .i64 0, .int .i64 0, .int .i64 0] 57)).drew = W := ⟨_, rfl⟩
        have HT6 : Hid (Bk w6 w4.heap.size 9 #[.string c, .string x, .string y]) := by show Bk _ _ _ _; rw [← hw6]; exact ((Bk.new _ _ _).alloc _).drew
        have HA6 : Hid (Bk w6 (w4.heap.size + 1) 57 (nRow c x y 0)) := by show Bk _ _ _ _; rw [← hw6]; exact Bk.drew (by simpa [nRow] using Bk.new (w4.alloc (.cells #[.string c, .string x, .string y] 9)) 57 #[.int .i64 0, .int .i64 0, .int .i64 0])
        have HB6 : Hid (Below w4.heap.size w4 w6) := by show Below _ _ _; rw [← hw6]; exact (((Below.refl _ _).alloc (Nat.le_refl _) _).alloc (by simp) _).drew
        rw [hw6]
        clear hw6 e0 e1 e2 kc
        obtain ⟨gT, hgT⟩ : ∃ gT, w4.heap.size = gT := ⟨_, rfl⟩
        have HR6 := Lib.hid (HR4.out.later HB6.out)
        rw [hgT] at HT6 HA6 ⊢
        have HGT := Lib.hid hgT
        clear hgT F0
        have hgTL : gT < w6.heap.size := HT6.out.lt
        have hgAL : gT + 1 < w6.heap.size := HA6.out.lt
        go_loopw [11, 12, 13] (fun i _ _ wr => ∃ j : Nat, j ≤ 3 ∧ i = .int .i64 (j : Int) ∧ Hid (Bk wr (gT + 1) 57 (nRow c x y j)) ∧ Hid (Below (gT + 1) w6 wr) ∧ Hid (∀ m, m < j → goodP c x y m)) (fun i _ _ _ => 3 - (intOf i).toNat)
        case atStart => exact ⟨0, by omega, rfl, HA6.out, Below.refl _ _, fun m h => by omega⟩
        case round =>
          clear HA6
          obtain ⟨j, hj, rfl, HA, HB, HG⟩ := hrel
          have HRj : Hid (RC w wr) := HR6.out.above HB.out (by have := HR4.out.lt; have := HGT.out; omega)
          by_cases hlt : j < 3
          · have htj : wr.cell? ⟨gT, j, none⟩ = some (.string (txt c x y j)) := by rw [HB.out.cell (by show gT < gT + 1; omega), HT6.out.cell]; exact txt_at c x y j hlt
            have haj : wr.cell? ⟨gT + 1, j, none⟩ = some (.int .i64 0) := by rw [HA.out.cell]; exact nRow_at c x y j hlt
            have hfj : wr.frozen? ⟨gT + 1, j, none⟩ = false := HA.out.frozen _
            have hltI : (j : Int) < 3 := by omega
            have htsz : (txt c x y j).size ≤ 1000000 := by
              rcases (show j = 0 ∨ j = 1 ∨ j = 2 by omega) with rfl | rfl | rfl
              · exact hsz.2
              · exact hxs.1
              · exact hxs.2
            have CN : Hid (∀ W, Calls Tryd.prog 22 #[.string (txt c x y j), .int .i64 6] W fun e w' => e = .returned (.tuple #[.int .i64 (valP c x y j), .bool (numS (txt c x y j).data.toList 6).isSome]) ∧ W = w') := fun W => number_any _ 6 W (by omega) (by omega) (by omega)
            clear htsz
            have F0 := Lib.hid (HRj.out.fin noC)
            rcases good_cases c x y j with ⟨hgd, hsm, hv0⟩ | ⟨hnb, hsm⟩ | ⟨hnb, hsm, hv0⟩
            · have HS : Hid (Bk (wr.setCell ⟨gT + 1, j, none⟩ (.int .i64 (valP c x y j))) (gT + 1) 57 (nRow c x y (j + 1))) := by
                show Bk _ _ _ _
                rw [← nRow_step c x y j hlt]
                exact HA.out.set_ _ _
              have HG2 : Hid (∀ m, m < j + 1 → goodP c x y m) := fun m hm => by
                by_cases e : m = j
                · rw [e]; exact hgd
                · exact HG.out m (by omega)
              obtain ⟨v, hv⟩ : ∃ v, valP c x y j = v := ⟨_, rfl⟩
              rw [hsm, hv] at CN
              rw [hv] at hv0 HS
              clear hv hsm hgd
              go_wp2_with (go_at_call 22; refine (CN.out _).mono ?_; rintro e w' ⟨rfl, rfl⟩)
              go_roundw
              case rel => exact ⟨j + 1, by omega, by go_num, HS.out, HB.out.setCell (Nat.le_refl _) _, HG2.out⟩
              case measure => simp [intOf]; omega
            · have HX := parV_bad2 a k c x y j hlt hnb
              obtain ⟨rfl, rfl⟩ : noC = o ∧ 7 = r := by have := HX.symm.trans (hxy ▸ HV.out); exact Prod.mk.injEq .. ▸ this
              obtain ⟨v, hv⟩ : ∃ v, valP c x y j = v := ⟨_, rfl⟩
              rw [hsm, hv] at CN
              clear hv hsm hnb HX HV
              go_wp2_with (first
                | (with_reducible refine wpList_load_row rfl 25 (.tmp 4) rfl (w.heap.size + 1) rfl 25 noC (0, 0) _ HRj.out.g1.heap Tryd.underlying25 rfl carInfoN ?_)
                | (with_reducible refine wpList_store_row rfl 25 (.tmp 2) (.tmp 87) rfl w.heap.size noC rfl rfl 25 noC HRj.out.g0.heap carInfoN noC_size noC_one ?_)
                | (go_at_call 22; refine (CN.out _).mono ?_; rintro e w' ⟨rfl, rfl⟩))
              refine bodyPost_ret (v := .tuple #[.agg noC, .int .i64 7]) ?_ rfl ⟨rfl, F0.out.2⟩
              exact results_cell_tmp (fn := Tryd.f7) rfl _ _ w.heap.size 25 noC (0, 0) _ rfl F0.out.1 Tryd.underlying25 rfl carInfoN
            · have HX := parV_bad2 a k c x y j hlt hnb
              obtain ⟨rfl, rfl⟩ : noC = o ∧ 7 = r := by have := HX.symm.trans (hxy ▸ HV.out); exact Prod.mk.injEq .. ▸ this
              obtain ⟨v, hv⟩ : ∃ v, valP c x y j = v := ⟨_, rfl⟩
              rw [hsm, hv] at CN
              rw [hv] at hv0
              clear hv hsm hnb HX HV
              go_wp2_with (first
                | (with_reducible refine wpList_load_row rfl 25 (.tmp 4) rfl (w.heap.size + 1) rfl 25 noC (0, 0) _ HRj.out.g1.heap Tryd.underlying25 rfl carInfoN ?_)
                | (with_reducible refine wpList_store_row rfl 25 (.tmp 2) (.tmp 87) rfl w.heap.size noC rfl rfl 25 noC HRj.out.g0.heap carInfoN noC_size noC_one ?_)
                | (go_at_call 22; refine (CN.out _).mono ?_; rintro e w' ⟨rfl, rfl⟩))
              refine bodyPost_ret (v := .tuple #[.agg noC, .int .i64 7]) ?_ rfl ⟨rfl, F0.out.2⟩
              exact results_cell_tmp (fn := Tryd.f7) rfl _ _ w.heap.size 25 noC (0, 0) _ rfl F0.out.1 Tryd.underlying25 rfl carInfoN
          · obtain rfl : j = 3 := by omega
            have n0 : wr.cell? ⟨gT + 1, 0, none⟩ = some (.int .i64 (valP c x y 0)) := by rw [HA.out.cell]; rfl
            have n1 : wr.cell? ⟨gT + 1, 1, none⟩ = some (.int .i64 (valP c x y 1)) := by rw [HA.out.cell]; rfl
            have n2 : wr.cell? ⟨gT + 1, 2, none⟩ = some (.int .i64 (valP c x y 2)) := by rw [HA.out.cell]; rfl
            have HX := parV_good a k c x y (by omega) HG.out
            have b0 := valP_bd c x y 0
            have b1 := valP_bd c x y 1
            have b2 := valP_bd c x y 2
            obtain ⟨v0, hv0⟩ : ∃ v, valP c x y 0 = v := ⟨_, rfl⟩
            obtain ⟨v1, hv1⟩ : ∃ v, valP c x y 1 = v := ⟨_, rfl⟩
            obtain ⟨v2, hv2⟩ : ∃ v, valP c x y 2 = v := ⟨_, rfl⟩
            rw [hv0] at n0 HX b0
            rw [hv1] at n1 HX b1
            rw [hv2] at n2 HX b2
            clear hv0 hv1 hv2 HG HA
            have HKr : Hid (Bk wr w2.heap.size 25 (cRow a k 0 0 0)) := (HK4.out.below HB6.out HK4.out.lt).below HB.out (by have := HK4.out.lt; have := HGT.out; omega)
            have f2 : wr.frozen? ⟨w2.heap.size, 2, none⟩ = false := HKr.out.frozen _
            have f3 : wr.frozen? ⟨w2.heap.size, 3, none⟩ = false := HKr.out.frozen _
            have f4 : wr.frozen? ⟨w2.heap.size, 4, none⟩ = false := HKr.out.frozen _
            have k2 : wr.cell? ⟨w2.heap.size, 2, none⟩ = some (.int .i64 0) := by rw [HKr.out.cell]; rfl
            have k3 : wr.cell? ⟨w2.heap.size, 3, none⟩ = some (.int .i64 0) := by rw [HKr.out.cell]; rfl
            have k4 : wr.cell? ⟨w2.heap.size, 4, none⟩ = some (.int .i64 0) := by rw [HKr.out.cell]; rfl
            have hne : w2.heap.size ≠ gT + 1 := by have := HK4.out.lt; have := HGT.out; omega
            have hne' : gT + 1 ≠ w2.heap.size := fun e => hne e.symm
            go_wp2_with fail
            go_region
            have HKf : Hid (Bk ((((wr.setCell ⟨w2.heap.size, 2, none⟩ (.int .i64 v0)).setCell ⟨w2.heap.size, 3, none⟩ (.int .i64 v1)).setCell ⟨w2.heap.size, 4, none⟩ (.int .i64 v2)).drew) w2.heap.size 25 (cRow a k v0 v1 v2)) := (((HKr.out.set_ 2 _).set_ 3 _).set_ 4 _).drew
            have HBf : Hid (Below w2.heap.size wr ((((wr.setCell ⟨w2.heap.size, 2, none⟩ (.int .i64 v0)).setCell ⟨w2.heap.size, 3, none⟩ (.int .i64 v1)).setCell ⟨w2.heap.size, 4, none⟩ (.int .i64 v2)).drew)) := by
              show Below _ _ _
              refine Below.drew ?_
              refine Below.setCell ?_ (show w2.heap.size ≤ w2.heap.size from Nat.le_refl _) _
              refine Below.setCell ?_ (show w2.heap.size ≤ w2.heap.size from Nat.le_refl _) _
              refine Below.setCell ?_ (show w2.heap.size ≤ w2.heap.size from Nat.le_refl _) _
              exact Below.refl _ _
            obtain ⟨wF, hwF⟩ : ∃ W, ((((wr.setCell ⟨w2.heap.size, 2, none⟩ (.int .i64 v0)).setCell ⟨w2.heap.size, 3, none⟩ (.int .i64 v1)).setCell ⟨w2.heap.size, 4, none⟩ (.int .i64 v2)).drew) = W := ⟨_, rfl⟩
            rw [hwF] at HKf HBf ⊢
            clear hwF n0 n1 n2 f2 f3 f4 k2 k3 k4 hne hne'
            have HRF := Lib.hid (HRj.out.above HBf.out (by have := U2.out.lt; omega))
            obtain ⟨E, hE⟩ : ∃ E, carrE a.data.toList k v0 v1 v2 = E := ⟨_, rfl⟩
            have CE : Hid (∀ W, Calls Tryd.prog 9 #[.agg #[.string a, .int .i64 k, .int .i64 v0, .int .i64 v1, .int .i64 v2]] W fun e w' => e = .returned (.int .i64 E) ∧ Below W.heap.size W w') := fun W => by
              have := carrierErrC_any a k v0 v1 v2 W (by omega) (by omega) (by omega) (by omega)
              rw [hE] at this
              exact this
            rw [hE] at HX
            clear hE b0 b1 b2 HKr HRj HR6 HR4 HK4 HB4 HB6 HT6 HB U2
            go_wp2_with (with_reducible refine wpList_load_row rfl 25 (.tmp 6) rfl w2.heap.size rfl 25 (cRow a k v0 v1 v2) (0, 0) _ HKf.out.heap Tryd.underlying25 rfl (carInfo _ _ _ _ _) ?_)
            refine (CE.out _).mono ?_
            rintro e w8 ⟨rfl, hb8⟩
            have HR8 := Lib.hid (HRF.out.later hb8)
            have HK8 : Hid (Bk w8 w2.heap.size 25 (cRow a k v0 v1 v2)) := HKf.out.below hb8 HKf.out.lt
            clear hb8 HKf HRF HBf CE
            by_cases hE0 : E = 0
            · subst hE0
              rw [if_pos rfl] at HX
              obtain ⟨rfl, rfl⟩ : cRow a k v0 v1 v2 = o ∧ 0 = r := by have := HX.symm.trans (hxy ▸ HV.out); exact Prod.mk.injEq .. ▸ this
              clear HX HV
              have F0 := Lib.hid (HR8.out.fin (cRow a k v0 v1 v2))
              go_wp2_with (first
                | (with_reducible refine wpList_load_row rfl 25 (.tmp 6) rfl w2.heap.size rfl 25 (cRow a k v0 v1 v2) (0, 0) _ HK8.out.heap Tryd.underlying25 rfl (carInfo _ _ _ _ _) ?_)
                | (with_reducible refine wpList_store_row rfl 25 (.tmp 2) (.tmp 106) rfl w.heap.size (cRow a k v0 v1 v2) rfl rfl 25 noC HR8.out.g0.heap (carInfo _ _ _ _ _) (cRow_size _ _ _ _ _) (cRow_one _ _ _ _ _) ?_))
              refine bodyPost_ret (v := .tuple #[.agg (cRow a k v0 v1 v2), .int .i64 0]) ?_ rfl ⟨rfl, F0.out.2⟩
              exact results_cell_tmp (fn := Tryd.f7) rfl _ _ w.heap.size 25 (cRow a k v0 v1 v2) (0, 0) _ rfl F0.out.1 Tryd.underlying25 rfl (carInfo _ _ _ _ _)
            · rw [if_neg hE0] at HX
              obtain ⟨rfl, rfl⟩ : noC = o ∧ E = r := by have := HX.symm.trans (hxy ▸ HV.out); exact Prod.mk.injEq .. ▸ this
              have hEn : (E != 0) = true := bne_iff_ne.2 hE0
              clear HX HV hE0
              have F0 := Lib.hid (HR8.out.fin noC)
              go_wp2_with (first
                | (with_reducible refine wpList_load_row rfl 25 (.tmp 4) rfl (w.heap.size + 1) rfl 25 noC (0, 0) _ HR8.out.g1.heap Tryd.underlying25 rfl carInfoN ?_)
                | (with_reducible refine wpList_store_row rfl 25 (.tmp 2) (.tmp 104) rfl w.heap.size noC rfl rfl 25 noC HR8.out.g0.heap carInfoN noC_size noC_one ?_))
              refine bodyPost_ret (v := .tuple #[.agg noC, .int .i64 E]) ?_ rfl ⟨rfl, F0.out.2⟩
              exact results_cell_tmp (fn := Tryd.f7) rfl _ _ w.heap.size 25 noC (0, 0) _ rfl F0.out.1 Tryd.underlying25 rfl carInfoN
      · have hn3 : ((ps2.length : Int) != 2) = true := bne_iff_ne.2 (by omega)
        have HX := parV_bad1 a k ps2 c (.inr hn2)
        obtain ⟨rfl, rfl⟩ : noC = o ∧ 7 = r := by have := HX.symm.trans HV.out; exact Prod.mk.injEq .. ▸ this
        clear HV HX hc4 hn2
        obtain ⟨n2, hnn⟩ : ∃ n, ps2.length = n := ⟨_, rfl⟩
        rw [hnn] at hn3 ⊢
        clear hnn
        go_wp2_with (first
          | (with_reducible refine wpList_load_row rfl 25 (.tmp 4) rfl (w.heap.size + 1) rfl 25 noC (0, 0) _ HR4.out.g1.heap Tryd.underlying25 rfl carInfoN ?_)
          | (with_reducible refine wpList_store_row rfl 25 (.tmp 2) (.tmp 58) rfl w.heap.size noC rfl rfl 25 noC HR4.out.g0.heap carInfoN noC_size noC_one ?_))
        refine bodyPost_ret (v := .tuple #[.agg noC, .int .i64 7]) ?_ rfl ⟨rfl, F0.out.2⟩
        exact results_cell_tmp (fn := Tryd.f7) rfl _ _ w.heap.size 25 noC (0, 0) _ rfl F0.out.1 Tryd.underlying25 rfl carInfoN

end Go.Proofs.YtkemoffagdilgaaDoor
