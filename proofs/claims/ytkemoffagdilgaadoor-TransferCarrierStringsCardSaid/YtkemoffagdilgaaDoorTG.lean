import Derived.Test.YtkemoffagdilgaaDoorST8
namespace Go.Proofs.YtkemoffagdilgaaDoor
open Go.RowKit

theorem cellsOf_at (done : List ByteArray) (N k : Nat) (x : ByteArray) (h : done[k]? = some x) : (Lib.cellsOf done N)[k]? = some (.string x) := by
  have hk := (List.getElem?_eq_some_iff.1 h).1
  unfold Lib.cellsOf
  rw [← Array.getElem?_toList]
  simp only []
  rw [List.getElem?_append_left (by simpa using hk), List.getElem?_map, h]
  rfl

theorem splitN_form (s : ByteArray) (w : World) (hl : LaidS w) (hs : s.size ≤ 1000000) :
    Calls Tryd.prog 63 #[.string s, .string ⟨#[32]⟩, .int .i64 5] w fun e w' => ∃ n cp, e = .returned (.slice (some ⟨w.heap.size, 0, none⟩) n cp) ∧ ((n = 4) = ((pcs 32 s.data.toList).length = 4)) ∧ 1 ≤ n ∧ ((pcs 32 s.data.toList).length = 4 → ∀ k x, (pcs 32 s.data.toList)[k]? = some x → w'.cell? ⟨w.heap.size, k, none⟩ = some (sv x)) ∧ w.heap.size < w'.heap.size ∧ Below w.heap.size w w' := by
  obtain ⟨m, hm⟩ := hl.ml
  have h := Tryd.strings_SplitN s ⟨#[32]⟩ 5 m w (by omega) hm (by decide) (by omega) (by omega)
  refine Calls.mono h ?_
  rintro e w' ⟨rfl, rfl⟩
  refine ⟨_, _, rfl, (splitB_len s).1, (splitB_len s).2, fun h4 k x hx => ?_, by simp, (Below.refl _ _).alloc (Nat.le_refl _) _⟩
  rw [← splitB_space s 0 h4, List.getElem?_map] at hx
  cases hd : (Lib.splitB ⟨#[32]⟩ 0 (min 5 (s.size + 1) - 1) s)[k]? with
  | none => rw [hd] at hx; cases hx
  | some y =>
    rw [hd] at hx
    have hxy : y.data.toList = x := Option.some.inj hx
    rw [← hxy, ← sv_of, (Bk.new w 9 _).cell]
    exact cellsOf_at _ _ _ _ hd

theorem wordsOf_any (s : ByteArray) (w : World) (hl : LaidS w) (hs : s.size ≤ 1000000) :
    Calls Tryd.prog 44 #[.string s, .int .i64 4] w fun e w' => ∃ n cp, e = .returned (.tuple #[.slice (some ⟨w.heap.size, 0, none⟩) n cp, .bool (decide ((pcs 32 s.data.toList).length = 4))]) ∧ ((pcs 32 s.data.toList).length = 4 → n = 4) ∧ 1 ≤ n ∧ ((pcs 32 s.data.toList).length = 4 → ∀ k x, (pcs 32 s.data.toList)[k]? = some x → w'.cell? ⟨w.heap.size, k, none⟩ = some (sv x)) ∧ w.heap.size < w'.heap.size ∧ Below w.heap.size w w' := by
  have C := Lib.hid (splitN_form s w hl hs)
  clear hl hs
  go_enter Tryd.func44, Tryd.ntmps44
  go_wp2_with fail
  refine C.out.mono ?_
  rintro e w' ⟨n, cp, rfl, h1, h2, h3, h4, h5⟩
  have H := Lib.hid (And.intro h3 (And.intro h4 h5))
  have hd : Hid (((n : Int) == 4) = decide ((pcs 32 s.data.toList).length = 4)) := by
    show _ = _
    by_cases e : n = 4
    · rw [decide_eq_true (h1 ▸ e), e]; rfl
    · rw [decide_eq_false (h1 ▸ e)]; exact beq_eq_false_iff_ne.2 (by omega)
  have H1 := Lib.hid h1
  have H2 := Lib.hid h2
  clear h1 h2 h3 h4 h5
  go_wp2
  go_ret2
  exact ⟨n, cp, by rw [hd.out]; rfl, fun h => by rw [← H1.out] at h; exact h, H2.out, H.out⟩

theorem kindP_kws (j : Nat) (h : j < 3) : kindP (kws j) = j := by
  have d1 : kwD ≠ kwC := by decide
  have d2 : kwD ≠ kwT := by decide
  have d3 : kwC ≠ kwT := by decide
  unfold kindP
  rcases (show j = 0 ∨ j = 1 ∨ j = 2 by omega) with rfl | rfl | rfl
  · simp [kws]
  · simp [kws, d1.symm]
  · simp [kws, d2.symm, d3.symm]
theorem kindP_none (b : ByteArray) (h : ∀ m, m < 3 → b ≠ kws m) : kindP b = -1 := by
  unfold kindP
  rw [if_neg (show b ≠ kwD from h 0 (by omega)), if_neg (show b ≠ kwC from h 1 (by omega)), if_neg (show b ≠ kwT from h 2 (by omega))]

set_option maxRecDepth 100000 in
set_option maxHeartbeats 2000000 in
theorem kindOf_any (b : ByteArray) (w : World) (hl : LaidS w) :
    Calls Tryd.prog 46 #[.string b] w fun e w' => e = .returned (.tuple #[.int .i64 (if 0 ≤ kindP b then kindP b else 0), .bool (decide (0 ≤ kindP b))]) ∧ w = w' := by
  have HL := Lib.hid hl
  clear hl
  obtain ⟨q, hq⟩ : ∃ q, (if 0 ≤ kindP b then kindP b else 0) = q := ⟨_, rfl⟩
  obtain ⟨o, ho⟩ : ∃ o, decide (0 ≤ kindP b) = o := ⟨_, rfl⟩
  have HQ := Lib.hid hq
  have HO := Lib.hid ho
  rw [hq, ho]
  clear hq ho
  go_enter Tryd.func46, Tryd.ntmps46
  go_wp2
  go_loop [4, 5] (fun _ i => ∃ j : Nat, j ≤ 3 ∧ i = .int .i64 (j : Int) ∧ Hid (∀ m, m < j → b ≠ kws m)) (fun _ i => 3 - (intOf i).toNat)
  case atStart => exact ⟨0, by omega, rfl, fun m h => by omega⟩
  case round =>
    obtain ⟨j, hj, rfl, HM⟩ := hrel
    by_cases hlt : j < 3
    · have hc := HL.out.kw j hlt
      have hjI : (j : Int) < 3 := by omega
      by_cases hb : b = kws j
      · have hbe : (b.toList == (kws j).toList) = true := by rw [hb]; simp
        have HK : Hid (kindP b = j) := by show _ = _; rw [hb]; exact kindP_kws j hlt
        clear hb
        go_wp2
        go_ret2
        exact ⟨by rw [← HQ.out, ← HO.out, HK.out, if_pos (by omega), decide_eq_true (by omega)]; rfl, rfl⟩
      · have hbe : (b.toList == (kws j).toList) = false := by
          refine beq_eq_false_iff_ne.2 fun e => hb ?_
          rw [Lib.toList_data, Lib.toList_data] at e
          exact ByteArray.ext (Array.toList_inj.1 e)
        have HM2 : Hid (∀ m, m < j + 1 → b ≠ kws m) := fun m hm => by
          by_cases e : m = j
          · rw [e]; exact hb
          · exact HM.out m (by omega)
        clear hb
        go_wp2
        go_round
        case rel => exact ⟨j + 1, by omega, by go_num, HM2.out⟩
        case measure => simp [intOf]; omega
    · obtain rfl : j = 3 := by omega
      have HK : Hid (kindP b = -1) := kindP_none b HM.out
      go_wp2
      go_ret2
      exact ⟨by rw [← HQ.out, ← HO.out, HK.out]; rfl, rfl⟩

/-- The parts of carrierIn: its result row with no carrier. -/
theorem noC_bk (w : World) : Bk (w.alloc (.cells noC 25)) w.heap.size 25 noC := Bk.new _ _ _

set_option maxRecDepth 100000 in
set_option maxHeartbeats 4000000 in
theorem carIn_1 (s : ByteArray) (w : World) (hl : LaidS w) (hs : s.size ≤ 1000000) (h4 : (pcs 32 s.data.toList).length ≠ 4) :
    Calls Tryd.prog 18 #[.string s] w fun e w' => e = .returned (.tuple #[.agg noC, .bool false]) ∧ Below w.heap.size w w' := by
  obtain ⟨w1, hw1⟩ : ∃ W, w.alloc (.cells noC 25) = W := ⟨_, rfl⟩
  have B1 : Hid (Below w.heap.size w w1) := by show Below _ _ _; rw [← hw1]; exact (Below.refl _ _).alloc (Nat.le_refl _) _
  have K1 : Hid (Bk w1 w.heap.size 25 noC) := by show Bk _ _ _ _; rw [← hw1]; exact Bk.new _ _ _
  have C := Lib.hid (wordsOf_any s w1 (hl.later B1.out) hs)
  rw [decide_eq_false h4] at C
  have HW1 := Lib.hid hw1
  clear hl hs h4 hw1
  go_enter Tryd.func18, Tryd.ntmps18
  go_wp2_with fail
  refine Calls.mono (w := w.alloc (.cells noC 25)) (by rw [HW1.out]; exact C.out) ?_
  rintro e w2 ⟨n, cp, rfl, -, -, -, -, hb2⟩
  have K2 : Hid (Bk w2 w.heap.size 25 noC) := K1.out.below hb2 K1.out.lt
  have F0 : Hid (Bk (w2.setRow w.heap.size noC) w.heap.size 25 noC ∧ Below w.heap.size w (w2.setRow w.heap.size noC)) := ⟨setRow_heap _ _ _ _ _ _ K2.out, below_setRow (B1.out.trans (hb2.mono (by have := B1.out.size; omega))) (Nat.le_refl _) _⟩
  clear hb2
  go_wp2_with (with_reducible refine wpList_store_row rfl 25 (.tmp 2) (.tmp 31) rfl w.heap.size noC rfl rfl 25 noC K2.out.heap carInfoN noC_size noC_one ?_)
  refine bodyPost_ret (v := .tuple #[.agg noC, .bool false]) ?_ rfl ⟨rfl, F0.out.2⟩
  exact results_cell_tmp (fn := Tryd.f18) rfl _ _ w.heap.size 25 noC (0, 0) _ rfl F0.out.1 Tryd.underlying25 rfl carInfoN

set_option maxRecDepth 100000 in
set_option maxHeartbeats 4000000 in
theorem carIn_2 (s : ByteArray) (r : List (List UInt8)) (w : World) (hl : LaidS w) (hs : s.size ≤ 1000000) (hp : pcs 32 s.data.toList = [] :: r) (h4 : r.length = 3) :
    Calls Tryd.prog 18 #[.string s] w fun e w' => e = .returned (.tuple #[.agg noC, .bool false]) ∧ Below w.heap.size w w' := by
  obtain ⟨w1, hw1⟩ : ∃ W, w.alloc (.cells noC 25) = W := ⟨_, rfl⟩
  have B1 : Hid (Below w.heap.size w w1) := by show Below _ _ _; rw [← hw1]; exact (Below.refl _ _).alloc (Nat.le_refl _) _
  have K1 : Hid (Bk w1 w.heap.size 25 noC) := by show Bk _ _ _ _; rw [← hw1]; exact Bk.new _ _ _
  have C := Lib.hid (wordsOf_any s w1 (hl.later B1.out) hs)
  have hlen : (pcs 32 s.data.toList).length = 4 := by rw [hp]; simp [h4]
  rw [decide_eq_true hlen] at C
  have HW1 := Lib.hid hw1
  have HP := Lib.hid hp
  have HL4 := Lib.hid hlen
  clear hl hs h4 hw1 hp hlen
  go_enter Tryd.func18, Tryd.ntmps18
  go_wp2_with fail
  refine Calls.mono (w := w.alloc (.cells noC 25)) (by rw [HW1.out]; exact C.out) ?_
  rintro e w2 ⟨n, cp, rfl, hn, -, hc, -, hb2⟩
  obtain rfl := hn HL4.out
  have c0 : w2.cell? ⟨w1.heap.size, 0, none⟩ = some (.string ⟨#[]⟩) := hc HL4.out 0 [] (by rw [HP.out]; rfl)
  clear hc hn
  have K2 : Hid (Bk w2 w.heap.size 25 noC) := K1.out.below hb2 K1.out.lt
  have F0 : Hid (Bk (w2.setRow w.heap.size noC) w.heap.size 25 noC ∧ Below w.heap.size w (w2.setRow w.heap.size noC)) := ⟨setRow_heap _ _ _ _ _ _ K2.out, below_setRow (B1.out.trans (hb2.mono (by have := B1.out.size; omega))) (Nat.le_refl _) _⟩
  clear hb2
  go_wp2_with (with_reducible refine wpList_store_row rfl 25 (.tmp 2) (.tmp 31) rfl w.heap.size noC rfl rfl 25 noC K2.out.heap carInfoN noC_size noC_one ?_)
  refine bodyPost_ret (v := .tuple #[.agg noC, .bool false]) ?_ rfl ⟨rfl, F0.out.2⟩
  exact results_cell_tmp (fn := Tryd.f18) rfl _ _ w.heap.size 25 noC (0, 0) _ rfl F0.out.1 Tryd.underlying25 rfl carInfoN

end Go.Proofs.YtkemoffagdilgaaDoor

namespace Go.Proofs.YtkemoffagdilgaaDoor
open Go.RowKit

theorem cut_sz (l : List UInt8) : (Lib.cut l [47]).1.length ≤ l.length ∧ (Lib.cut l [47]).2.1.length ≤ l.length := by
  unfold Lib.cut
  split
  · simp only [List.length_take, List.length_drop]; omega
  · simp
theorem drewN_below (w : World) (n : Nat) : Below w.heap.size w (w.drewN n) := blw_drewN (Below.refl _ _) n

theorem cutS_form (d num den : ByteArray) (f : Bool) (w : World) (hl : LaidS w) (hd : d.size ≤ 1000000) (hc : Lib.cut d.data.toList [47] = (num.data.toList, den.data.toList, f)) :
    Calls Tryd.prog 45 #[.string d, .string ⟨#[47]⟩] w fun e w' => e = .returned (.tuple #[.string num, .string den, .bool f]) ∧ Below w.heap.size w w' := by
  obtain ⟨m, hm⟩ := hl.ml
  refine Calls.mono (Tryd.strings_Cut d ⟨#[47]⟩ m w (by omega) hm) ?_
  rintro e w' ⟨rfl, n, rfl⟩
  refine ⟨?_, drewN_below _ _⟩
  rw [show (⟨#[47]⟩ : ByteArray).data.toList = [47] from rfl, hc]

set_option maxRecDepth 100000 in
set_option maxHeartbeats 8000000 in
theorem carIn_3 (s a b c d num den : ByteArray) (f : Bool) (w : World) (hl : LaidS w) (hs : s.size ≤ 1000000) (hsz : a.size ≤ 1000000 ∧ c.size ≤ 1000000 ∧ d.size ≤ 1000000) (hp : pcs 32 s.data.toList = [a.data.toList, b.data.toList, c.data.toList, d.data.toList]) (ha : a ≠ ⟨#[]⟩) (hc : Lib.cut d.data.toList [47] = (num.data.toList, den.data.toList, f)) :
    Calls Tryd.prog 18 #[.string s] w fun e w' => e = .returned (.tuple #[.agg (cRow a (if 0 ≤ kindP b then kindP b else 0) ((numN c.data.toList).getD 0 : Nat) ((numN num.data.toList).getD 0 : Nat) ((numN den.data.toList).getD 0 : Nat)), .bool (codeOK (kindP b) c.data.toList num.data.toList den.data.toList)]) ∧ Below w.heap.size w w' := by
  obtain ⟨w1, hw1⟩ : ∃ W, w.alloc (.cells noC 25) = W := ⟨_, rfl⟩
  have B1 : Hid (Below w.heap.size w w1) := by show Below _ _ _; rw [← hw1]; exact (Below.refl _ _).alloc (Nat.le_refl _) _
  have K1 : Hid (Bk w1 w.heap.size 25 noC) := by show Bk _ _ _ _; rw [← hw1]; exact Bk.new _ _ _
  have HL1 := Lib.hid (hl.later B1.out)
  have C := Lib.hid (wordsOf_any s w1 HL1.out hs)
  have hlen : (pcs 32 s.data.toList).length = 4 := by rw [hp]; rfl
  rw [decide_eq_true hlen] at C
  have HW1 := Lib.hid hw1
  have HP := Lib.hid hp
  have HL4 := Lib.hid hlen
  have hae : a.toList.isEmpty = false := not_empty ha
  have hcs := cut_sz d.data.toList
  rw [hc] at hcs
  have hz : ∀ z : ByteArray, z.data.toList.length = z.size := fun z => by simp
  rw [hz, hz, hz] at hcs
  have C45 : Hid (∀ W, LaidS W → _) := Lib.hid fun W hW => cutS_form d num den f W hW hsz.2.2 hc
  have CK : Hid (∀ W, LaidS W → _) := Lib.hid fun W hW => kindOf_any b W hW
  have CC : Hid (∀ W, _) := Lib.hid fun W => wordNum_any c W (by omega)
  have CN : Hid (∀ W, _) := Lib.hid fun W => wordNum_any num W (by omega)
  have CD : Hid (∀ W, _) := Lib.hid fun W => wordNum_any den W (by omega)
  unfold codeOK
  obtain ⟨q, hq⟩ : ∃ q, (if 0 ≤ kindP b then kindP b else 0) = q := ⟨_, rfl⟩
  obtain ⟨o1, ho1⟩ : ∃ o, decide (0 ≤ kindP b) = o := ⟨_, rfl⟩
  obtain ⟨oC, hoC⟩ : ∃ o, (numN c.data.toList).isSome = o := ⟨_, rfl⟩
  obtain ⟨oN, hoN⟩ : ∃ o, (numN num.data.toList).isSome = o := ⟨_, rfl⟩
  obtain ⟨oD, hoD⟩ : ∃ o, (numN den.data.toList).isSome = o := ⟨_, rfl⟩
  obtain ⟨vC, hvC⟩ : ∃ v : Int, (((numN c.data.toList).getD 0 : Nat) : Int) = v := ⟨_, rfl⟩
  obtain ⟨vN, hvN⟩ : ∃ v : Int, (((numN num.data.toList).getD 0 : Nat) : Int) = v := ⟨_, rfl⟩
  obtain ⟨vD, hvD⟩ : ∃ v : Int, (((numN den.data.toList).getD 0 : Nat) : Int) = v := ⟨_, rfl⟩
  rw [hq, ho1] at CK
  rw [hoC, hvC] at CC
  rw [hoN, hvN] at CN
  rw [hoD, hvD] at CD
  rw [hq, ho1, hoC, hoN, hoD, hvC, hvN, hvD]
  clear hl hs hsz hw1 hp hlen ha hc hcs hz hq ho1 hoC hoN hoD hvC hvN hvD
  have key : (o1 = false) ∨ (o1 = true ∧ oC = false) ∨ (o1 = true ∧ oC = true ∧ oN = false) ∨ (o1 = true ∧ oC = true ∧ oN = true) := by cases o1 <;> cases oC <;> cases oN <;> simp
  rcases key with rfl | ⟨rfl, rfl⟩ | ⟨rfl, rfl, rfl⟩ | ⟨rfl, rfl, rfl⟩
  all_goals
    go_enter Tryd.func18, Tryd.ntmps18
    go_wp2_with fail
    refine Calls.mono (w := w.alloc (.cells noC 25)) (by rw [HW1.out]; exact C.out) ?_
    rintro e w2 ⟨n, cp, rfl, hn, -, hc, hg, hb2⟩
    obtain rfl := hn HL4.out
    have c0 : w2.cell? ⟨w1.heap.size, 0, none⟩ = some (.string a) := hc HL4.out 0 _ (by rw [HP.out]; rfl)
    have c1 : w2.cell? ⟨w1.heap.size, 1, none⟩ = some (.string b) := hc HL4.out 1 _ (by rw [HP.out]; rfl)
    have c2 : w2.cell? ⟨w1.heap.size, 2, none⟩ = some (.string c) := hc HL4.out 2 _ (by rw [HP.out]; rfl)
    have c3 : w2.cell? ⟨w1.heap.size, 3, none⟩ = some (.string d) := hc HL4.out 3 _ (by rw [HP.out]; rfl)
    clear hc hn
    have K2 : Hid (Bk w2 w.heap.size 25 noC) := K1.out.below hb2 K1.out.lt
    have HL2 := Lib.hid (HL1.out.later hb2)
    have B2 := Lib.hid (B1.out.trans (hb2.mono (by have := B1.out.size; omega)))
    clear hb2
    go_wp2_with fail
    refine (C45.out _ HL2.out).mono ?_
    rintro e w3 ⟨rfl, hb3⟩
    have d0 : w3.cell? ⟨w1.heap.size, 0, none⟩ = some (.string a) := by rw [hb3.cell hg]; exact c0
    have d1 : w3.cell? ⟨w1.heap.size, 1, none⟩ = some (.string b) := by rw [hb3.cell hg]; exact c1
    have d2 : w3.cell? ⟨w1.heap.size, 2, none⟩ = some (.string c) := by rw [hb3.cell hg]; exact c2
    have K3 : Hid (Bk w3 w.heap.size 25 noC) := K2.out.below hb3 K2.out.lt
    have HL3 := Lib.hid (HL2.out.later hb3)
    have B3 := Lib.hid (B2.out.trans (hb3.mono (by have := B2.out.size; omega)))
    clear hb3 c0 c1 c2 c3 K2 HL2 B2
    have K4 := Lib.hid (K3.out.alloc (.cells (cRow a q vC vN vD) 25))
    have F0 : Hid (Bk ((w3.alloc (.cells (cRow a q vC vN vD) 25)).setRow w.heap.size (cRow a q vC vN vD)) w.heap.size 25 (cRow a q vC vN vD) ∧ Below w.heap.size w ((w3.alloc (.cells (cRow a q vC vN vD) 25)).setRow w.heap.size (cRow a q vC vN vD))) := ⟨setRow_heap _ _ _ _ _ _ K4.out, below_setRow (B3.out.alloc B3.out.size _) (Nat.le_refl _) _⟩
    go_wp2_with (first
      | (go_at_call 46; refine (CK.out _ HL3.out).mono ?_; rintro e w' ⟨rfl, rfl⟩)
      | (go_at_call 47; with_reducible refine (CC.out _).mono ?_; rintro e w' ⟨rfl, rfl⟩)
      | (go_at_call 47; with_reducible refine (CN.out _).mono ?_; rintro e w' ⟨rfl, rfl⟩)
      | (go_at_call 47; with_reducible refine (CD.out _).mono ?_; rintro e w' ⟨rfl, rfl⟩)
      | (with_reducible refine wpList_store_row rfl 25 (.tmp 2) (.tmp 73) rfl w.heap.size (cRow a q vC vN vD) rfl rfl 25 noC K4.out.heap (carInfo _ _ _ _ _) (cRow_size _ _ _ _ _) (cRow_one _ _ _ _ _) ?_))
    refine bodyPost_ret (v := .tuple #[.agg (cRow a q vC vN vD), .bool _]) ?_ rfl ⟨rfl, F0.out.2⟩
    exact results_cell_tmp (fn := Tryd.f18) rfl _ _ w.heap.size 25 (cRow a q vC vN vD) (0, 0) _ rfl F0.out.1 Tryd.underlying25 rfl (carInfo _ _ _ _ _)

end Go.Proofs.YtkemoffagdilgaaDoor

namespace Go.Proofs.YtkemoffagdilgaaDoor
open Go.RowKit

/-- What a carrier that was read gives. -/
def fromC (nm : ByteArray) (k sd n d : Int) (ok : Bool) : Array Value × Int :=
  if ok = true then (if carrE nm.data.toList k sd n d = 0 then (cRow nm k sd n d, 0) else (noC, carrE nm.data.toList k sd n d)) else (noC, 7)

set_option maxRecDepth 100000 in
set_option maxHeartbeats 8000000 in
theorem parseC_any (s nm : ByteArray) (k sd n d : Int) (ok : Bool) (w : World) (hl : LaidS w) (hz : nm.size ≤ 1000000) (hn : 0 ≤ n ∧ n < 1000000) (hd : 0 ≤ d ∧ d < 1000000)
    (hC : ∀ W, LaidS W → Calls Tryd.prog 18 #[.string s] W fun e w' => e = .returned (.tuple #[.agg (cRow nm k sd n d), .bool ok]) ∧ Below W.heap.size W w')
    (o : Array Value) (r : Int) (hV : fromC nm k sd n d ok = (o, r)) :
    Calls Tryd.prog 6 #[.string s] w fun e w' => e = .returned (.tuple #[.agg o, .int .i64 r]) ∧ Below w.heap.size w w' := by
  obtain ⟨w1, hw1⟩ : ∃ W, w.alloc (.cells noC 25) = W := ⟨_, rfl⟩
  have B1 : Hid (Below w.heap.size w w1) := by show Below _ _ _; rw [← hw1]; exact (Below.refl _ _).alloc (Nat.le_refl _) _
  have K1 : Hid (Bk w1 w.heap.size 25 noC) := by show Bk _ _ _ _; rw [← hw1]; exact Bk.new _ _ _
  have C := Lib.hid (hC w1 (hl.later B1.out))
  have HW1 := Lib.hid hw1
  obtain ⟨E, hE⟩ : ∃ E, carrE nm.data.toList k sd n d = E := ⟨_, rfl⟩
  have CE : Hid (∀ W, Calls Tryd.prog 19 #[.agg #[.string nm, .int .i64 k, .int .i64 sd, .int .i64 n, .int .i64 d]] W fun e w' => e = .returned (.int .i64 E) ∧ Below W.heap.size W w') := fun W => by
    have := checkCarrier_any nm k sd n d W (by omega) (by omega) (by omega) (by omega)
    rw [hE] at this
    exact this
  unfold fromC at hV
  rw [hE] at hV
  have HV := Lib.hid hV
  clear hl hz hn hd hC hw1 hE hV
  have start : ∀ Q, (∀ w2, Hid (Bk w2 w.heap.size 25 noC) → Hid (Below w.heap.size w w2) → Q (Ending.returned (.tuple #[.agg (cRow nm k sd n d), .bool ok])) w2) → Calls Tryd.prog 18 #[.string s] (w.alloc (.cells noC 25)) Q := by
    intro Q h
    rw [HW1.out]
    refine C.out.mono ?_
    rintro e w2 ⟨rfl, hb⟩
    exact h w2 (K1.out.below hb K1.out.lt) (B1.out.trans (hb.mono (by have := B1.out.size; omega)))
  have ST := Lib.hid start
  clear start C HW1 K1 B1
  cases ok
  · obtain ⟨rfl, rfl⟩ : noC = o ∧ 7 = r := by have := HV.out; rw [if_neg (by simp)] at this; exact Prod.mk.injEq .. ▸ this
    clear HV
    go_enter Tryd.func6, Tryd.ntmps6
    go_wp2_with fail
    refine ST.out _ ?_
    intro w2 K2 B2
    have K4 := Lib.hid (K2.out.alloc (.cells (cRow nm k sd n d) 25))
    have F0 : Hid (Bk ((w2.alloc (.cells (cRow nm k sd n d) 25)).setRow w.heap.size noC) w.heap.size 25 noC ∧ Below w.heap.size w ((w2.alloc (.cells (cRow nm k sd n d) 25)).setRow w.heap.size noC)) := ⟨setRow_heap _ _ _ _ _ _ K4.out, below_setRow (B2.out.alloc B2.out.size _) (Nat.le_refl _) _⟩
    go_wp2_with (with_reducible refine wpList_store_row rfl 25 (.tmp 2) (.tmp 14) rfl w.heap.size noC rfl rfl 25 noC K4.out.heap carInfoN noC_size noC_one ?_)
    refine bodyPost_ret (v := .tuple #[.agg noC, .int .i64 7]) ?_ rfl ⟨rfl, F0.out.2⟩
    exact results_cell_tmp (fn := Tryd.f6) rfl _ _ w.heap.size 25 noC (0, 0) _ rfl F0.out.1 Tryd.underlying25 rfl carInfoN
  · have HV2 : Hid ((if E = 0 then (cRow nm k sd n d, 0) else (noC, E)) = (o, r)) := by have := HV.out; rwa [if_pos rfl] at this
    clear HV
    go_enter Tryd.func6, Tryd.ntmps6
    go_wp2_with fail
    refine ST.out _ ?_
    intro w2 K2 B2
    have K4 := Lib.hid (K2.out.alloc (.cells (cRow nm k sd n d) 25))
    have L4 := Lib.hid (Bk.new w2 25 (cRow nm k sd n d))
    have B4 := Lib.hid (B2.out.alloc B2.out.size (.cells (cRow nm k sd n d) 25))
    go_wp2_with fail
    obtain ⟨w4, hw4⟩ : ∃ W, w2.alloc (.cells (cRow nm k sd n d) 25) = W := ⟨_, rfl⟩
    refine Calls.mono (w := w2.alloc (.cells (cRow nm k sd n d) 25)) (CE.out _) ?_
    rw [hw4] at K4 L4 B4 ⊢
    clear hw4
    rintro e w5 ⟨rfl, hb5⟩
    have K5 : Hid (Bk w5 w.heap.size 25 noC) := K4.out.below hb5 K4.out.lt
    have L5 : Hid (Bk w5 w2.heap.size 25 (cRow nm k sd n d)) := L4.out.below hb5 L4.out.lt
    have B5 := Lib.hid (B4.out.trans (hb5.mono B4.out.size))
    clear hb5 K4 L4 B4
    by_cases hE0 : E = 0
    · subst hE0
      obtain ⟨rfl, rfl⟩ : cRow nm k sd n d = o ∧ 0 = r := by have := HV2.out; rw [if_pos rfl] at this; exact Prod.mk.injEq .. ▸ this
      clear HV2
      have F0 : Hid (Bk (w5.setRow w.heap.size (cRow nm k sd n d)) w.heap.size 25 (cRow nm k sd n d) ∧ Below w.heap.size w (w5.setRow w.heap.size (cRow nm k sd n d))) := ⟨setRow_heap _ _ _ _ _ _ K5.out, below_setRow B5.out (Nat.le_refl _) _⟩
      go_wp2_with (first
        | (with_reducible refine wpList_load_row rfl 25 (.tmp 4) rfl w2.heap.size rfl 25 (cRow nm k sd n d) (0, 0) _ L5.out.heap Tryd.underlying25 rfl (carInfo _ _ _ _ _) ?_)
        | (with_reducible refine wpList_store_row rfl 25 (.tmp 2) (.tmp 21) rfl w.heap.size (cRow nm k sd n d) rfl rfl 25 noC K5.out.heap (carInfo _ _ _ _ _) (cRow_size _ _ _ _ _) (cRow_one _ _ _ _ _) ?_))
      refine bodyPost_ret (v := .tuple #[.agg (cRow nm k sd n d), .int .i64 0]) ?_ rfl ⟨rfl, F0.out.2⟩
      exact results_cell_tmp (fn := Tryd.f6) rfl _ _ w.heap.size 25 (cRow nm k sd n d) (0, 0) _ rfl F0.out.1 Tryd.underlying25 rfl (carInfo _ _ _ _ _)
    · obtain ⟨rfl, rfl⟩ : noC = o ∧ E = r := by have := HV2.out; rw [if_neg hE0] at this; exact Prod.mk.injEq .. ▸ this
      have hEn : (E != 0) = true := bne_iff_ne.2 hE0
      clear HV2 hE0
      have F0 : Hid (Bk (w5.setRow w.heap.size noC) w.heap.size 25 noC ∧ Below w.heap.size w (w5.setRow w.heap.size noC)) := ⟨setRow_heap _ _ _ _ _ _ K5.out, below_setRow B5.out (Nat.le_refl _) _⟩
      go_wp2_with (with_reducible refine wpList_store_row rfl 25 (.tmp 2) (.tmp 19) rfl w.heap.size noC rfl rfl 25 noC K5.out.heap carInfoN noC_size noC_one ?_)
      refine bodyPost_ret (v := .tuple #[.agg noC, .int .i64 E]) ?_ rfl ⟨rfl, F0.out.2⟩
      exact results_cell_tmp (fn := Tryd.f6) rfl _ _ w.heap.size 25 noC (0, 0) _ rfl F0.out.1 Tryd.underlying25 rfl carInfoN

end Go.Proofs.YtkemoffagdilgaaDoor

