import Derived.Test.YtmeddnpahkigeaaDoorW82
import Derived.Test.YtmeddnpahkigeaaDoorM9
import Derived.Laws.AppendOwnNone
namespace Go.Proofs.YtmeddnpahkigeaaDoor
open Go.RowKit

/-- Blocks as cells. -/
def dCells (ds : List (List Int)) : List Value := ds.flatMap fun x => x.map (Value.int .i64)
theorem Ok8.head {x : List Int} {t : List (List Int)} (h : Ok8 (x :: t)) : x.length = 8 := by simpa using h 0 (by simp)
theorem Ok8.tail {x : List Int} {t : List (List Int)} (h : Ok8 (x :: t)) : Ok8 t := fun i hi => by simpa using h (i + 1) (by simpa using hi)
theorem Ok8.nil : Ok8 [] := fun i hi => by simp at hi
theorem Ok8.snoc {x : List Int} {t : List (List Int)} (h : Ok8 t) (hx : x.length = 8) : Ok8 (t ++ [x]) := fun i hi => by
  simp only [List.length_append, List.length_singleton] at hi
  by_cases e : i < t.length
  · rw [List.getD_eq_getElem?_getD, List.getElem?_append_left e, ← List.getD_eq_getElem?_getD]; exact h i e
  · obtain rfl : i = t.length := by omega
    simpa using hx
theorem dCells_len (ds : List (List Int)) (h : Ok8 ds) : (dCells ds).length = ds.length * 8 := by
  induction ds with
  | nil => rfl
  | cons x t ih =>
    have := ih h.tail
    simp only [dCells, List.flatMap_cons, List.length_append, List.length_map, List.length_cons] at this ⊢
    rw [this, h.head]; omega
theorem dCells_at (ds : List (List Int)) (h : Ok8 ds) (i k : Nat) (hi : i < ds.length) (hk : k < 8) : (dCells ds)[i * 8 + k]? = some (.int .i64 (dc ds i k)) := by
  induction ds generalizing i with
  | nil => simp at hi
  | cons x t ih =>
    have hx := h.head
    cases i with
    | zero =>
      simp only [dCells, List.flatMap_cons, Nat.zero_mul, Nat.zero_add]
      rw [List.getElem?_append_left (by rw [List.length_map, hx]; exact hk)]
      simp [dc, List.getElem?_map, List.getD_eq_getElem?_getD, List.getElem?_eq_getElem (show k < x.length by omega)]
    | succ i =>
      simp only [dCells, List.flatMap_cons]
      rw [List.getElem?_append_right (by rw [List.length_map, hx]; omega), List.length_map, hx, show (i + 1) * 8 + k - 8 = i * 8 + k by omega]
      have := ih h.tail i (by simpa using hi)
      simpa [dCells, dc] using this
theorem dCells_snoc (ds : List (List Int)) (x : List Int) : dCells (ds ++ [x]) = dCells ds ++ x.map (Value.int .i64) := by simp [dCells]
theorem dCells_one (ds : List (List Int)) : ∀ v ∈ dCells ds, v.oneCell' = true := by
  intro v hv
  obtain ⟨x, _, hx⟩ := List.mem_flatMap.1 hv
  obtain ⟨z, _, rfl⟩ := List.mem_map.1 hx
  rfl

theorem RdD.of_own {w : World} {base n c : Nat} {A : Option Addr} {ds : List (List Int)} (h : w.ownsRow base 65 8 (.slice A n c) n (dCells ds)) (hl : ds.length = n) (h8 : Ok8 ds) : RdD w A n ds := by
  refine ⟨hl, h8, fun h0 => ?_⟩
  rcases h.2 with ⟨_, e⟩ | ⟨g, cap, cur, e, _, hg, h1, h2, h3, h4⟩
  · omega
  · simp only [Value.slice.injEq] at e
    obtain ⟨rfl, _, rfl⟩ := e
    refine ⟨⟨g, 0, none⟩, rfl, (Array.getElem?_eq_some_iff.1 hg).1, fun i k hi hk => ?_⟩
    rw [Addr.add_mid, Addr.add_mid, Nat.zero_add, cell_of_row w g (i * 8 + k) cur _ (0, 0) hg, ← Array.getElem?_toList]
    have e1 : (cur.toList.take (n * 8))[i * 8 + k]? = some (.int .i64 (dc ds i k)) := by rw [h4]; exact dCells_at ds h8 i k (by omega) hk
    rw [List.getElem?_take, if_pos (by omega)] at e1
    exact e1
theorem RdD.src {w : World} {ad : Addr} {n : Nat} {ds : List (List Int)} (h : RdD w (some ad) n ds) : ∀ j u, (dCells ds)[j]? = some u → w.cell? (ad.add j) = some u := by
  intro j u hu
  have hj := (List.getElem?_eq_some_iff.1 hu).1
  rw [dCells_len ds h.2.1, h.1] at hj
  obtain ⟨ad', ha, _, hc⟩ := h.2.2 (by omega)
  obtain rfl := Option.some.inj ha
  have := hc (j / 8) (j % 8) (by omega) (by omega)
  rw [add_add', show j / 8 * 8 + j % 8 = j by omega] at this
  rw [this, ← hu]
  have := dCells_at ds h.2.1 (j / 8) (j % 8) (by rw [h.1]; omega) (by omega)
  rw [show j / 8 * 8 + j % 8 = j by omega] at this
  exact this.symm

theorem own_form8 {w : World} {base size n : Nat} {t : TypeId} {v : Value} {xs : List Value} (h : w.ownsRow base t size v n xs) : ∃ A cap, v = .slice A n cap ∧ n ≤ cap ∧ cap ≤ 9223372036854775807 ∧ (A = none → n = 0 ∧ cap = 0) := by
  rcases h.2 with ⟨rfl, rfl⟩ | ⟨g, cap, cur, rfl, _, _, h1, h2, _⟩
  · exact ⟨none, 0, rfl, by omega, by omega, fun _ => ⟨rfl, rfl⟩⟩
  · exact ⟨_, cap, rfl, h1, by unfold maxLen at h2; omega, fun h => by cases h⟩

theorem arr8Info : (Tryd.prog.info? 65).map (fun i => (i.zero, i.size, i.bytes)) = some (some (.agg zero8), 8, 64) := by kernel_rfl

theorem copyData_own (A : Option Addr) (n c : Nat) (ds : List (List Int)) (w : World) (hA : A = none → n = 0 ∧ c = 0) (hr : RdD w A n ds) (hn : n ≤ 100000) :
    Calls Tryd.prog 15 #[.slice A n c] w fun e w' => ∃ v, e = .returned v ∧ w'.ownsRow w.heap.size 65 8 v n (dCells ds) ∧ Below w.heap.size w w' := by
  have ho : Hid ((w.alloc (.cells #[] 65)).ownsRow w.heap.size 65 8 (.slice (some ⟨w.heap.size, 0, none⟩) 0 0) 0 []) := World.ownsRow_lit w #[] 0 (Nat.le_refl _) (by unfold maxLen; omega) rfl
  obtain ⟨i0, hi, hz0, hz1, hz2⟩ := info_parts arr8Info
  cases A with
  | none =>
    obtain ⟨rfl, rfl⟩ := hA rfl
    have hl : ds = [] := List.eq_nil_of_length_eq_zero hr.1
    subst hl
    clear hA hr
    go_enter Tryd.func15, Tryd.ntmps15
    go_wp2_with (at_builtin; refine wpList_append_own_none rfl (.tmp 3) (.tmp 4) 35 rfl w.heap.size 65 i0 8 Tryd.underlying35 hi _ _ _ rfl ho.out rfl ?_)
    go_ret
    exact ⟨_, rfl, ho.out, (Below.refl _ _).alloc (Nat.le_refl _) _⟩
  | some ad =>
    have hlen : Hid ((dCells ds).length = n * 8) := by show List.length _ = _; rw [dCells_len ds hr.2.1, hr.1]
    have hsrc : Hid (∀ j u, (dCells ds)[j]? = some u → (w.alloc (.cells #[] 65)).cell? (ad.add j) = some u) := (hr.below ((Below.refl _ _).alloc (Nat.le_refl _) _)).src
    have hone := Lib.hid (dCells_one ds)
    obtain ⟨news, hnews⟩ : ∃ news, dCells ds = news := ⟨_, rfl⟩
    rw [hnews] at hlen hsrc hone ⊢
    clear hnews hr hA
    go_enter Tryd.func15, Tryd.ntmps15
    go_wp2_with (at_builtin; refine wpList_append_own _ rfl (.tmp 3) (.tmp 4) 35 rfl w.heap.size 65 i0 _ 8 64 Tryd.underlying35 hi hz0 hz1 hz2 rfl (by decide) _ _ _ rfl ho.out ad n c news rfl hlen.out hsrc.out hone.out (by unfold maxLen; omega) (by omega) (by simp) ?_)
    intro v w2 ho2 hg2 _
    have b2 : Below w.heap.size w w2 := ((Below.refl _ _).alloc (Nat.le_refl _) _).grown hg2 (by simp) (fun g hg => (ho.out.lt g hg).1)
    have o2 := Lib.hid ho2
    have B2 := Lib.hid b2
    clear ho2 hg2 b2
    go_wp2
    go_ret
    refine ⟨_, rfl, ?_, B2.out⟩
    have := o2.out
    simpa using this
theorem copyData_any (A : Option Addr) (n c : Nat) (ds : List (List Int)) (w : World) (hA : A = none → n = 0 ∧ c = 0) (hr : RdD w A n ds) (hn : n ≤ 100000) :
    Calls Tryd.prog 15 #[.slice A n c] w fun e w' => ∃ A3 c3, e = .returned (.slice A3 n c3) ∧ (A3 = none → n = 0 ∧ c3 = 0) ∧ RdD w' A3 n ds ∧ Below w.heap.size w w' :=
  (copyData_own A n c ds w hA hr hn).mono (by
    rintro e w' ⟨v, rfl, ho, hb⟩
    obtain ⟨A3, c3, rfl, _, _, h3⟩ := own_form8 ho
    exact ⟨A3, c3, rfl, h3, RdD.of_own ho hr.1 hr.2.1, hb⟩)

theorem neq8_lit (x0 x1 x2 x3 x4 x5 x6 x7 : Int) (W : World) : (binOp .neq 65 (.agg #[.int .i64 x0, .int .i64 x1, .int .i64 x2, .int .i64 x3, .int .i64 x4, .int .i64 x5, .int .i64 x6, .int .i64 x7]) (.agg #[.int .i64 x0, .int .i64 x1, .int .i64 x2, .int .i64 x3, .int .i64 x4, .int .i64 x5, .int .i64 x6, .int .i64 x7])).run Tryd.prog W = .ok (.bool false) W := by
  have := eq8_lit x0 x1 x2 x3 x4 x5 x6 x7 W
  rw [run_eql_struct] at this
  rw [run_neq_struct]
  generalize (Op.equalIn 10000 65 (.agg #[.int .i64 x0, .int .i64 x1, .int .i64 x2, .int .i64 x3, .int .i64 x4, .int .i64 x5, .int .i64 x6, .int .i64 x7]) (.agg #[.int .i64 x0, .int .i64 x1, .int .i64 x2, .int .i64 x3, .int .i64 x4, .int .i64 x5, .int .i64 x6, .int .i64 x7])).run Tryd.prog W = r at this ⊢
  cases r with
  | ok b w' =>
    simp [Result.andThen] at this
    obtain ⟨rfl, rfl⟩ := this
    rfl
  | halt h w' => simp [Result.andThen] at this

theorem sameData_any (A B : Option Addr) (n ca cb : Nat) (ds : List (List Int)) (w : World) (ha : RdD w A n ds) (hb : RdD w B n ds) (hn : n ≤ 1000000) :
    Calls Tryd.prog 20 #[.slice A n ca, .slice B n cb] w fun e w' => e = .returned (.bool true) ∧ ∃ j, w' = w.drewN j := by
  have HA := Lib.hid ha; clear ha
  have HB := Lib.hid hb; clear hb
  go_enter Tryd.func20, Tryd.ntmps20
  go_wp2
  go_loopw [5] (fun i wr => ∃ k : Nat, k ≤ n ∧ i = .int .i64 k ∧ Hid (∃ j, wr = w.drewN j)) (fun i _ => n - (intOf i).toNat)
  case atStart => exact ⟨0, Nat.zero_le _, rfl, 0, rfl⟩
  case round =>
    obtain ⟨k, hk, rfl, HJ⟩ := hrel
    by_cases hlt : k < n
    · have HA2 : RdD wr A n ds := by obtain ⟨j, hj⟩ := HJ.out; rw [hj]; exact HA.out
      have HB2 : RdD wr B n ds := by obtain ⟨j, hj⟩ := HJ.out; rw [hj]; exact HB.out
      obtain ⟨ad, x0, x1, x2, x3, x4, x5, x6, x7, rfl, hbl, hrow, p0, p1, p2, p3, p4, p5, p6, p7⟩ := HA2.row hlt
      obtain ⟨bd, y0, y1, y2, y3, y4, y5, y6, y7, rfl, hbl2, hrow2, q0, q1, q2, q3, q4, q5, q6, q7⟩ := HB2.row hlt
      rw [hrow] at hrow2
      simp only [List.cons.injEq, and_true] at hrow2
      obtain ⟨rfl, rfl, rfl, rfl, rfl, rfl, rfl, rfl⟩ := hrow2
      have hne := neq8_lit x0 x1 x2 x3 x4 x5 x6 x7
      have hkI : (k : Int) < (n : Int) := by omega
      clear HA2 HB2 hrow
      go_wp2
      go_quiet (fail)
      go_wp2
      go_roundw
      case rel =>
        obtain ⟨j, hj⟩ := HJ.out
        exact ⟨k + 1, by omega, by go_num, by rw [hj]; exact ⟨_, World.drewN_drewN _ _ _⟩⟩
      case measure => simp [intOf]; omega
    · obtain rfl : n = k := by omega
      go_wp2
      go_ret
      exact ⟨rfl, HJ.out⟩

set_option maxRecDepth 100000 in
theorem refInverse_any (n : Int) (h0 : 0 ≤ n) (h1 : n ≤ 65536) (w : World) :
    Calls Tryd.prog 17 #[.int .i64 n] w fun e w' => e = .returned (.int .i64 (invT n)) ∧ w = w' := by
  go_enter Tryd.func17, Tryd.ntmps17
  go_wp2
  go_loop [3, 4] (fun p i => ∃ k : Nat, k ≤ 16 ∧ i = .int .i64 k ∧ p = .int .i64 (powTo n k)) (fun _ i => 16 - (intOf i).toNat)
  case atStart => exact ⟨0, by omega, rfl, rfl⟩
  case round =>
    obtain ⟨k, hk, rfl, rfl⟩ := hrel
    by_cases hlt : k < 16
    · have hb := powTo_bd n k
      have hst : Hid (powTo n (k + 1) = powTo n k * powTo n k % 65537 * n % 65537) := rfl
      obtain ⟨p, hp⟩ : ∃ p, powTo n k = p := ⟨_, rfl⟩
      rw [hp] at hst hb ⊢
      clear hp
      have hpp := mul_bd2 p p 65536 65536 hb.1 hb.1 (by omega) (by omega)
      have hm0 := Int.emod_nonneg (p * p) (show (65537 : Int) ≠ 0 by omega)
      have hm1 := Int.emod_lt_of_pos (p * p) (show (0 : Int) < 65537 by omega)
      have hpn := mul_bd2 (p * p % 65537) n 65536 65536 hm0 h0 (by omega) h1
      have t1 : (p * p).tmod 65537 = p * p % 65537 := Int.tmod_eq_emod_of_nonneg hpp.1
      have t2 : (p * p % 65537 * n).tmod 65537 = p * p % 65537 * n % 65537 := Int.tmod_eq_emod_of_nonneg hpn.1
      go_wp2
      go_round
      case rel => exact ⟨k + 1, by omega, by go_num, by rw [hst.out]⟩
      case measure => simp [intOf]; omega
    · obtain rfl : k = 16 := by omega
      go_wp2
      go_ret
      exact ⟨rfl, rfl⟩

set_option maxRecDepth 100000 in
theorem weightOf_any (i j : Int) (hi : 0 ≤ i ∧ i ≤ 1000) (hj : 0 ≤ j ∧ j ≤ 3) (w : World) :
    Calls Tryd.prog 95 #[.int .i64 i, .int .i64 j] w fun e w' => e = .returned (.int .i64 (invT (4 + i - j))) ∧ w = w' := by
  go_enter Tryd.func95, Tryd.ntmps95
  go_wp2_with (go_at_call 52; refine (inverseOf_any _ (by omega) (by omega) _).mono ?_; rintro e w' ⟨rfl, rfl⟩)
  go_ret
  exact ⟨rfl, rfl⟩
set_option maxRecDepth 100000 in
theorem factor_any (i j : Int) (hi : 0 ≤ i ∧ i ≤ 1000) (hj : 0 ≤ j ∧ j ≤ 3) (w : World) :
    Calls Tryd.prog 58 #[.int .i64 i, .int .i64 j] w fun e w' => e = .returned (.int .i64 (invT (4 + i - j))) ∧ w = w' := by
  go_enter Tryd.func58, Tryd.ntmps58
  go_wp2_with (go_at_call 17; refine (refInverse_any _ (by omega) (by omega) _).mono ?_; rintro e w' ⟨rfl, rfl⟩)
  go_ret
  exact ⟨rfl, rfl⟩

/-- The error of a number whose inverse is asked for. -/
def invE (n : Int) : Int := if inB n 0 65536 then (if n = 0 then 11 else 0) else 2
set_option maxRecDepth 100000 in
theorem inverseErr_any (n : Int) (w : World) :
    Calls Tryd.prog 16 #[.int .i64 n] w fun e w' => e = .returned (.int .i64 (invE n)) ∧ w = w' := by
  obtain ⟨b0, h0b⟩ : ∃ b, (n == 0) = b := ⟨_, rfl⟩
  have HE : Hid (invE n = if inB n 0 65536 then (if b0 = true then 11 else 0) else 2) := by show _ = _; rw [← h0b]; simp [invE]
  obtain ⟨b, hb⟩ : ∃ b, inB n 0 65536 = b := ⟨_, rfl⟩
  have CW : Hid (∀ W, Calls Tryd.prog 18 #[.int .i64 n, .int .i64 0, .int .i64 65536] W fun e w' => e = .returned (.bool b) ∧ W = w') := fun W => by rw [← hb]; exact within_any _ _ _ W
  rw [hb] at HE
  clear hb
  cases b0
  all_goals
    cases b
    all_goals
      go_enter Tryd.func16, Tryd.ntmps16
      go_wp2_with (go_at_call 18; refine (CW.out _).mono ?_; rintro e w' ⟨rfl, rfl⟩)
      go_ret
      exact ⟨by rw [HE.out]; rfl, rfl⟩

set_option maxRecDepth 100000 in
theorem inverse_err (n : Int) (w : World) (hE : invE n ≠ 0) :
    Calls Tryd.prog 13 #[.int .i64 n] w fun e w' => e = .returned (.tuple #[.int .i64 0, .int .i64 (invE n)]) ∧ Below w.heap.size w w' := by
  have HF : Hid (firstE [rangeE n 0 65536, whenE (n == 0) 11] = invE n) := by
    show _ = _
    unfold invE rangeE
    by_cases h1 : inB n 0 65536 = true
    · by_cases h0 : n = 0
      · subst h0; simp [h1, whenE, firstE]
      · simp [h1, h0, whenE, firstE]
    · have h1' : inB n 0 65536 = false := by simpa using h1
      simp [h1', whenE, firstE]
  obtain ⟨E, hEE⟩ : ∃ E, invE n = E := ⟨_, rfl⟩
  rw [hEE] at HF hE ⊢
  clear hEE
  go_enter Tryd.func13, Tryd.ntmps13
  go_wp2_with (first
    | (go_at_call 51; refine (checkNumber_any _ _).mono ?_; rintro e w' ⟨rfl, rfl⟩)
    | (go_at_call 41; refine (when_any _ _ _).mono ?_; rintro e w' ⟨rfl, rfl⟩)
    | (go_at_call 40; refine (first2 _ _ w).mono ?_; rw [HF.out]; rintro e w' ⟨rfl, rfl⟩))
  all_goals go_ret2
  all_goals exact ⟨rfl, (Below.refl _ _).alloc (Nat.le_refl _) _⟩

end Go.Proofs.YtmeddnpahkigeaaDoor
