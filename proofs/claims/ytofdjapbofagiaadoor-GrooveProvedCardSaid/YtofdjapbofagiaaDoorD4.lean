import Derived.Test.YtofdjapbofagiaaDoorGD
import Derived.Test.YtofdjapbofagiaaDoorS4
namespace Go.Proofs.YtofdjapbofagiaaDoor
open Go.RowKit

theorem rngInfo : (Tryd.prog.info? 28).map (fun i => (i.zero, i.size, i.bytes)) = some (some (.agg #[.int .i64 0, .int .i64 0]), 2, 16) := by kernel_rfl
def OwnResR (w : World) (E : Int) (ps : List (Int × Int)) (e : Ending) (w' : World) : Prop :=
  (∃ v, e = .returned (.tuple #[v, .int .i64 E]) ∧ w'.ownsRow w.heap.size 28 2 v ps.length (pairCells ps)) ∧ Below w.heap.size w w'
theorem OwnResR.none_ {w w' : World} {E : Int} (h : Below w.heap.size w w') : OwnResR w E [] (.returned (.tuple #[.slice none 0 0, .int .i64 E])) w' := ⟨⟨_, rfl, World.ownsRow_nil _ _ _ _⟩, h⟩
theorem own_form {w : World} {base size n : Nat} {t : TypeId} {v : Value} {xs : List Value} (h : w.ownsRow base t size v n xs) : ∃ A cap, v = .slice A n cap ∧ (0 < n → ∃ g, A = some ⟨g, 0, none⟩) := by
  rcases h.2 with ⟨rfl, rfl⟩ | ⟨g, cap, cur, rfl, _⟩
  · exact ⟨none, 0, rfl, fun h => absurd h (by omega)⟩
  · exact ⟨_, cap, rfl, fun _ => ⟨g, rfl⟩⟩
theorem crF_skip {rows : List (List Int)} {path : List Int} {limit : Int} {k : Nat} (h : valAt rows path k ≤ limit) : crF rows path limit (k + 1) = crF rows path limit k := if_pos h
theorem crF_join {rows : List (List Int)} {path : List Int} {limit : Int} {k q : Nat} (h : ¬ valAt rows path k ≤ limit) (hq : (crF rows path limit k).length = q + 1) (he : ((crF rows path limit k).getD q (0, 0)).2 = (k : Int) - 1) : crF rows path limit (k + 1) = (crF rows path limit k).set q (((crF rows path limit k).getD q (0, 0)).1, (k : Int)) := by
  have e : (crF rows path limit k).length - 1 = q := by omega
  conv => lhs; unfold crF
  rw [if_neg h, e, if_pos ⟨by omega, he⟩]
theorem crF_apart {rows : List (List Int)} {path : List Int} {limit : Int} {k q : Nat} (h : ¬ valAt rows path k ≤ limit) (hq : (crF rows path limit k).length = q + 1) (he : ¬ ((crF rows path limit k).getD q (0, 0)).2 = (k : Int) - 1) : crF rows path limit (k + 1) = crF rows path limit k ++ [((k : Int), (k : Int))] := by
  have e : (crF rows path limit k).length - 1 = q := by omega
  conv => lhs; unfold crF
  rw [if_neg h, e, if_neg (fun hh => he hh.2)]
theorem crF_first {rows : List (List Int)} {path : List Int} {limit : Int} {k : Nat} (h : ¬ valAt rows path k ≤ limit) (hq : (crF rows path limit k).length = 0) : crF rows path limit (k + 1) = crF rows path limit k ++ [((k : Int), (k : Int))] := by
  conv => lhs; unfold crF
  rw [if_neg h, if_neg (fun hh => by omega)]

set_option maxRecDepth 100000 in
set_option maxHeartbeats 4000000 in
theorem CracksIn_ok (ad : Addr) (n c m c' : Nat) (B : Option Addr) (rows : List (List Int)) (b limit : Int) (P : Option Addr) (cp : Nat) (path : List Int) (w : World) (hr : RdG w (some ad) n rows) (hn : 0 < n ∧ n ≤ 1000000) (hm : m ≤ 1000000) (hadb : ad.block < w.heap.size) (hck : w.cell? ad = some (.slice B m c')) (hp : RdI w P n path) (hE : taskE rows b = 0) (hpe : pathE n m path = 0)
    (hg : ∀ r ∈ rows, r.length = m ∧ ∀ x ∈ r, 0 ≤ x ∧ x ≤ 255) (hlim : 0 ≤ limit ∧ limit ≤ 255) :
    Calls Tryd.prog 23 #[.agg #[.slice (some ad) n c, .int .i64 b], .slice P n cp, .int .i64 limit] w (OwnResR w 0 (crF rows path limit n)) := by
  have hb0 : Below w.heap.size w (w.alloc (.cells #[.slice (some ad) n c, .int .i64 b] 53)) := (Below.refl _ w).alloc (Nat.le_refl _) _
  have CC := Lib.hid (checkedWith_ok ad n c m c' B rows b P n cp path _ (hr.below hb0) hn hm hn.2 (Nat.lt_of_lt_of_le hadb hb0.size) ((hb0.cell hadb).trans hck) (hp.below hb0) hE hpe)
  have CA : Hid (∀ W g', W.cell? ⟨g', 0, none⟩ = some (.int .i64 limit) → Calls Tryd.prog 48 #[.int .i64 0, .int .i64 255, .slice (some ⟨g', 0, none⟩) 1 1] W fun e w' => e = .returned (.bool true) ∧ W = w') := fun W g' h => by
    have h2 := areFrom_any (some ⟨g', 0, none⟩) 1 1 [limit] 0 255 W (lit1 _ _ _ h) (by omega)
    rw [fromB_one.2 hlim] at h2
    exact h2
  obtain ⟨i0, hi0, hz0, hz1, hz2⟩ := info_parts rngInfo
  have HR := Lib.hid (hr.below hb0)
  have HP := Lib.hid (hp.below hb0)
  have HB0 := Lib.hid hb0
  have HGB := Lib.hid hg
  have HPI := Lib.hid (path_in hpe).2
  have hnb : n ≤ 1000000 := hn.2
  clear hr hb0 hck hp hE hpe hg hadb hlim
  go_enter Tryd.func23, Tryd.ntmps23
  go_wp2_with fail
  refine CC.out.mono ?_
  rintro e w1 ⟨rfl, hb1⟩
  have HB1 : Hid (Below w.heap.size w w1) := HB0.out.trans (hb1.mono HB0.out.size)
  have hb2 : Below w1.heap.size w1 ((w1.alloc (.cells #[.slice (some ad) n c, .int .i64 b, .int .i64 m] 105)).alloc (.cells #[.int .i64 limit] 3)) := ((Below.refl _ _).alloc (Nat.le_refl _) _).alloc (by simp) _
  have HR1 := Lib.hid ((HR.out.below hb1).below hb2)
  have HP1 := Lib.hid ((HP.out.below hb1).below hb2)
  have HN := Lib.hid ((Bk.new w1 105 #[.slice (some ad) n c, .int .i64 b, .int .i64 m]).alloc (.cells #[.int .i64 limit] 3))
  have HB2 : Hid (Below w.heap.size w ((w1.alloc (.cells #[.slice (some ad) n c, .int .i64 b, .int .i64 m] 105)).alloc (.cells #[.int .i64 limit] 3))) := HB1.out.trans (hb2.mono HB1.out.size)
  clear hb1 hb2 CC HR HP HB0
  go_wp2_with (go_at_call 48; refine (CA.out _ _ (by simp [go_sem])).mono ?_; rintro e w' ⟨rfl, rfl⟩)
  obtain ⟨g, hgw⟩ : ∃ g, w1.heap.size = g := ⟨_, rfl⟩
  rw [hgw] at HN
  obtain ⟨W1, hW1⟩ : ∃ W, ((w1.alloc (.cells #[.slice (some ad) n c, .int .i64 b, .int .i64 m] 105)).alloc (.cells #[.int .i64 limit] 3)) = W := ⟨_, rfl⟩
  rw [hW1] at HR1 HP1 HN HB2 ⊢
  try rw [hgw]
  clear hW1 hgw CA
  go_loopw [10, 31] (fun v i wr => ∃ j : Nat, j ≤ n ∧ i = .int .i64 j ∧ Hid (wr.ownsRow W1.heap.size 28 2 v (crF rows path limit j).length (pairCells (crF rows path limit j)) ∧ Below W1.heap.size W1 wr)) (fun _ i _ => n - (intOf i).toNat)
  case atStart => exact ⟨0, Nat.zero_le _, rfl, World.ownsRow_nil _ _ _ _, Below.refl _ _⟩
  case round =>
    obtain ⟨j, hj, rfl, HI⟩ := hrel
    by_cases hlt : j < n
    · have hjI : (j : Int) < (n : Int) := by omega
      have hj0 : (0 : Int) ≤ (j : Int) := by omega
      have hjl := crF_length rows path limit j
      have hsz : W1.heap.size ≤ wr.heap.size := HI.out.2.size
      have qn := HN.out.later HI.out.2
      have n0 : wr.cell? ⟨g, 0, none⟩ = some (.slice (some ad) n c) := by rw [qn.cell]; rfl
      obtain ⟨pd, hP, hpdb, hc⟩ := (HP1.out.below HI.out.2).2 (by omega)
      subst hP
      have c1 := hc j hlt
      have hx := HPI.out j hlt
      obtain ⟨x, hxe⟩ : ∃ x, path.getD j 0 = x := ⟨_, rfl⟩
      rw [hxe] at c1 hx
      obtain ⟨t, rfl⟩ : ∃ t : Nat, x = (t : Int) := ⟨x.toNat, by omega⟩
      have htm : t < m := by omega
      have htI : (t : Int) < (m : Int) := by omega
      have ht0 : (0 : Int) ≤ (t : Int) := by omega
      obtain ⟨bd, cb, r1, r2, hv0, hv1, _, _⟩ := grid_at (HR1.out.below HI.out.2) HGB.out j t hlt htm
      have HV : Hid (valAt rows path j = (rows.getD j []).getD t 0) := by show _ = _; unfold valAt; rw [hxe]; rfl
      obtain ⟨v, hve⟩ : ∃ v, (rows.getD j []).getD t 0 = v := ⟨_, rfl⟩
      rw [hve] at r2 hv0 hv1 HV
      clear hc hxe hve qn hx
      obtain ⟨ln, hln⟩ : ∃ ln, (crF rows path limit j).length = ln := ⟨_, rfl⟩
      have HLNE := Lib.hid hln
      rw [hln] at HI hjl
      have hlb : ln ≤ 1000000 := by omega
      obtain ⟨Ac, cap, rfl, hform⟩ := own_form HI.out.1
      by_cases hvl : v ≤ limit
      · have HJ : Hid (crF rows path limit (j + 1) = crF rows path limit j) := by
          show _ = _
          exact crF_skip (by rw [HV.out]; omega)
        clear hln hform
        go_wp2
        go_roundw
        case rel => exact ⟨j + 1, by omega, by go_num, by show _ ∧ _; rw [HJ.out, HLNE.out]; exact HI.out⟩
        case measure => simp [intOf]; omega
      · skip
        by_cases hl0 : ln = 0
        · subst hl0
          have HJ : Hid (crF rows path limit (j + 1) = crF rows path limit j ++ [((j : Int), (j : Int))]) := by
            show _ = _
            exact crF_first (by rw [HV.out]; omega) hln
          clear hln hform
          go_wp2_with (at_builtin; refine wpList_append_own _ rfl (.tmp 39) (.tmp 43) 59 rfl W1.heap.size 28 i0 _ 2 16 Tryd.underlying59 hi0 hz0 hz1 hz2 rfl (by decide) _ _ _ rfl (HI.out.1.alloc _) ⟨wr.heap.size, 0, none⟩ 1 1 [.int .i64 (j : Int), .int .i64 (j : Int)] rfl rfl (two_new _ _ _ _) (by simp [Value.oneCell']) (by unfold maxLen; omega) (by omega) (by simp; omega) ?_)
          intro v' w4 hown' hgrow _
          have HFIN : Hid (w4.ownsRow W1.heap.size 28 2 v' (crF rows path limit (j + 1)).length (pairCells (crF rows path limit (j + 1))) ∧ Below W1.heap.size W1 w4) := by
            refine ⟨?_, (HI.out.2.alloc HI.out.2.size _).grown hgrow (by simp; omega) (fun z e => (HI.out.1.lt z e).1)⟩
            rw [HJ.out, pairCells_snoc, List.length_append, HLNE.out]
            exact hown'
          clear hown' hgrow
          go_wp2
          go_roundw
          case rel => exact ⟨j + 1, by omega, by go_num, HFIN.out⟩
          case measure => simp [intOf]; omega
        · obtain ⟨q, hq⟩ : ∃ q, ln = q + 1 := ⟨ln - 1, by omega⟩
          obtain ⟨gc, rfl⟩ := hform (by omega)
          have HQ : Hid ((crF rows path limit j).length = q + 1) := hln.trans hq
          obtain ⟨_, hch⟩ := pairCells_at (crF rows path limit j) q (by rw [HQ.out]; omega)
          have hcq := (HI.out.1.cellAt (q * 2 + 1) (by omega)).trans hch
          have hfq := HI.out.1.frozenAt (q * 2 + 1)
          have hgc := (HI.out.1.lt gc rfl).1
          obtain ⟨hi, hhi⟩ : ∃ hi, ((crF rows path limit j).getD q (0, 0)).2 = hi := ⟨_, rfl⟩
          rw [hhi] at hcq
          have hz1' : IntKind.i64.wrap ((ln : Int) - 1) = (q : Int) := by rw [show (ln : Int) - 1 = (q : Int) by omega]; exact IntWalk.i64_in _ (by omega)
          have hz2' : (ln : Int) - 1 = (q : Int) := by omega
          have hz3' : (0 : Int) ≤ (q : Int) := by omega
          have hz4' : (q : Int) < (ln : Int) := by omega
          have hz5' : decide ((0 : Int) ≤ (q : Int)) = true := decide_eq_true (by omega)
          have hz6' : IntKind.i64.wrap ((j : Int) - 1) = (j : Int) - 1 := IntWalk.i64_in _ (by omega)
          have HLQ : Hid (ln = q + 1) := hq
          have hqb : q < 1000000 := by omega
          clear hch hln hq
          by_cases heq : hi = (j : Int) - 1
          · have HJ : Hid (crF rows path limit (j + 1) = (crF rows path limit j).set q (((crF rows path limit j).getD q (0, 0)).1, (j : Int))) := by
              show _ = _
              exact crF_join (by rw [HV.out]; omega) HQ.out (hhi.trans heq)
            have heb : (hi == (j : Int) - 1) = true := by rw [heq]; simp
            have HFIN : Hid ((wr.setCell ⟨gc, q * 2 + 1, none⟩ (.int .i64 (j : Int))).ownsRow W1.heap.size 28 2 (.slice (some ⟨gc, 0, none⟩) ln cap) (crF rows path limit (j + 1)).length (pairCells (crF rows path limit (j + 1))) ∧ Below W1.heap.size W1 (wr.setCell ⟨gc, q * 2 + 1, none⟩ (.int .i64 (j : Int)))) := by
              refine ⟨?_, HI.out.2.setCell (p := ⟨gc, q * 2 + 1, none⟩) hgc _⟩
              have h := (HI.out.1.stored (q * 2 + 1) (.int .i64 (j : Int))).1
              rw [pairCells_set2 _ _ _ (by rw [HQ.out]; omega)] at h
              rw [HJ.out, List.length_set, HLNE.out]
              exact h
            clear heq hhi
            go_wp2
            go_roundw
            case rel => exact ⟨j + 1, by omega, by go_num, HFIN.out⟩
            case measure => simp [intOf]; omega
          · have HJ : Hid (crF rows path limit (j + 1) = crF rows path limit j ++ [((j : Int), (j : Int))]) := by
              show _ = _
              exact crF_apart (by rw [HV.out]; omega) HQ.out (by rw [hhi]; exact heq)
            have heb : (hi == (j : Int) - 1) = false := by rw [beq_eq_false_iff_ne]; exact heq
            clear heq hhi
            go_wp2_with (at_builtin; refine wpList_append_own _ rfl (.tmp 39) (.tmp 43) 59 rfl W1.heap.size 28 i0 _ 2 16 Tryd.underlying59 hi0 hz0 hz1 hz2 rfl (by decide) _ _ _ rfl (HI.out.1.alloc _) ⟨wr.heap.size, 0, none⟩ 1 1 [.int .i64 (j : Int), .int .i64 (j : Int)] rfl rfl (two_new _ _ _ _) (by simp [Value.oneCell']) (by unfold maxLen; omega) (by omega) (by simp; omega) ?_)
            intro v' w4 hown' hgrow _
            have HFIN : Hid (w4.ownsRow W1.heap.size 28 2 v' (crF rows path limit (j + 1)).length (pairCells (crF rows path limit (j + 1))) ∧ Below W1.heap.size W1 w4) := by
              refine ⟨?_, (HI.out.2.alloc HI.out.2.size _).grown hgrow (by simp; omega) (fun z e => (HI.out.1.lt z e).1)⟩
              rw [HJ.out, pairCells_snoc, List.length_append, HLNE.out]
              exact hown'
            clear hown' hgrow
            go_wp2
            go_roundw
            case rel => exact ⟨j + 1, by omega, by go_num, HFIN.out⟩
            case measure => simp [intOf]; omega
    · obtain rfl : n = j := by omega
      go_wp2
      go_ret2
      exact ⟨⟨_, rfl, ownMono HI.out.1 HB2.out.size⟩, HB2.out.trans (HI.out.2.mono HB2.out.size)⟩

set_option maxRecDepth 100000 in
set_option maxHeartbeats 1000000 in
theorem CracksIn_err (A : Option Addr) (n c : Nat) (b limit : Int) (P : Option Addr) (k cp : Nat) (E : Int) (w : World) (hE : E ≠ 0)
    (hc : Calls Tryd.prog 53 #[.agg #[.slice A n c, .int .i64 b], .slice P k cp] (w.alloc (.cells #[.slice A n c, .int .i64 b] 53)) fun e w' => e = .returned (.tuple #[.agg #[.slice none 0 0, .int .i64 0, .int .i64 0], .int .i64 E]) ∧ Below (w.alloc (.cells #[.slice A n c, .int .i64 b] 53)).heap.size (w.alloc (.cells #[.slice A n c, .int .i64 b] 53)) w') :
    Calls Tryd.prog 23 #[.agg #[.slice A n c, .int .i64 b], .slice P k cp, .int .i64 limit] w (OwnResR w E []) := by
  have hb0 : Below w.heap.size w (w.alloc (.cells #[.slice A n c, .int .i64 b] 53)) := (Below.refl _ w).alloc (Nat.le_refl _) _
  have CC := Lib.hid hc
  have HB0 := Lib.hid hb0
  have h1 : (E != 0) = true := by simpa using hE
  clear hc hb0 hE
  go_enter Tryd.func23, Tryd.ntmps23
  go_wp2_with fail
  refine CC.out.mono ?_
  rintro e w1 ⟨rfl, hb1⟩
  have HB1 : Hid (Below w.heap.size w w1) := HB0.out.trans (hb1.mono HB0.out.size)
  clear hb1 CC
  go_wp2
  go_ret2
  exact OwnResR.none_ (HB1.out.alloc HB1.out.size _)

set_option maxRecDepth 100000 in
set_option maxHeartbeats 1000000 in
theorem CracksIn_lim (A : Option Addr) (n c m : Nat) (b limit : Int) (P : Option Addr) (k cp : Nat) (w : World) (hl : ¬ (0 ≤ limit ∧ limit ≤ 255))
    (hc : Calls Tryd.prog 53 #[.agg #[.slice A n c, .int .i64 b], .slice P k cp] (w.alloc (.cells #[.slice A n c, .int .i64 b] 53)) fun e w' => e = .returned (.tuple #[.agg #[.slice A n c, .int .i64 b, .int .i64 m], .int .i64 0]) ∧ Below (w.alloc (.cells #[.slice A n c, .int .i64 b] 53)).heap.size (w.alloc (.cells #[.slice A n c, .int .i64 b] 53)) w') :
    Calls Tryd.prog 23 #[.agg #[.slice A n c, .int .i64 b], .slice P k cp, .int .i64 limit] w (OwnResR w 2 []) := by
  have hb0 : Below w.heap.size w (w.alloc (.cells #[.slice A n c, .int .i64 b] 53)) := (Below.refl _ w).alloc (Nat.le_refl _) _
  have CC := Lib.hid hc
  have HB0 := Lib.hid hb0
  have CA : Hid (∀ W g', W.cell? ⟨g', 0, none⟩ = some (.int .i64 limit) → Calls Tryd.prog 48 #[.int .i64 0, .int .i64 255, .slice (some ⟨g', 0, none⟩) 1 1] W fun e w' => e = .returned (.bool false) ∧ W = w') := fun W g' h => by
    have h2 := areFrom_any (some ⟨g', 0, none⟩) 1 1 [limit] 0 255 W (lit1 _ _ _ h) (by omega)
    rw [show fromB 0 255 [limit] = false by rw [Bool.eq_false_iff]; intro e; exact hl (fromB_one.1 e)] at h2
    exact h2
  clear hc hb0 hl
  go_enter Tryd.func23, Tryd.ntmps23
  go_wp2_with fail
  refine CC.out.mono ?_
  rintro e w1 ⟨rfl, hb1⟩
  have HB1 : Hid (Below w.heap.size w w1) := HB0.out.trans (hb1.mono HB0.out.size)
  clear hb1 CC
  go_wp2_with (go_at_call 48; refine (CA.out _ _ (by simp [go_sem])).mono ?_; rintro e w' ⟨rfl, rfl⟩)
  go_ret2
  exact OwnResR.none_ ((HB1.out.alloc HB1.out.size _).alloc (by have := HB1.out.size; simp; omega) _)

def crkE (rows : List (List Int)) (b : Int) (n : Nat) (path : List Int) (limit : Int) : Int := if cstE rows b n path = 0 then (if 0 ≤ limit ∧ limit ≤ 255 then 0 else 2) else cstE rows b n path
def crkL (rows : List (List Int)) (b : Int) (n : Nat) (path : List Int) (limit : Int) : List (Int × Int) := if crkE rows b n path limit = 0 then crF rows path limit n else []
theorem CracksIn_any (A : Option Addr) (n c : Nat) (rows : List (List Int)) (b limit : Int) (P : Option Addr) (k cp : Nat) (path : List Int) (w : World) (hr : RdG w A n rows) (hn : n ≤ 1000000) (hp : RdI w P k path) (hk : k ≤ 1000000) :
    Calls Tryd.prog 23 #[.agg #[.slice A n c, .int .i64 b], .slice P k cp, .int .i64 limit] w (OwnResR w (crkE rows b n path limit) (crkL rows b n path limit)) := by
  have hb0 : Below w.heap.size w (w.alloc (.cells #[.slice A n c, .int .i64 b] 53)) := (Below.refl _ w).alloc (Nat.le_refl _) _
  by_cases hE : taskE rows b = 0
  · have hc : cstE rows b n path = pathE n (colsOf rows) path := by unfold cstE; rw [if_pos hE]
    obtain ⟨ad, m, c', B, rfl, hcm, h0, h40, hm0, hm12, hadb, hck, hbb, hg⟩ := task_parts hr hE
    rw [hcm] at hc
    by_cases hpe : pathE n m path = 0
    · have hkn : k = n := by rw [← hp.1, (path_in hpe).1]
      subst hkn
      rw [hpe] at hc
      by_cases hl : 0 ≤ limit ∧ limit ≤ 255
      · have e : crkE rows b k path limit = 0 := by unfold crkE; rw [if_pos hc, if_pos hl]
        unfold crkL
        rw [e, if_pos rfl]
        exact CracksIn_ok ad k c m c' B rows b limit P cp path w hr ⟨h0, hn⟩ (by omega) hadb hck hp hE hpe hg hl
      · have e : crkE rows b k path limit = 2 := by unfold crkE; rw [if_pos hc, if_neg hl]
        unfold crkL
        rw [e, if_neg (by decide)]
        exact CracksIn_lim (some ad) k c m b limit P k cp w hl (checkedWith_ok ad k c m c' B rows b P k cp path _ (hr.below hb0) ⟨h0, hn⟩ (by omega) hk (Nat.lt_of_lt_of_le hadb hb0.size) ((hb0.cell hadb).trans hck) (hp.below hb0) hE hpe)
    · have e : crkE rows b n path limit = pathE n m path := by unfold crkE; rw [if_neg (by rw [hc]; exact hpe), hc]
      unfold crkL
      rw [e, if_neg hpe]
      exact CracksIn_err (some ad) n c b limit P k cp _ w hpe (checkedWith_err2 ad n c m c' B rows b P k cp path _ (hr.below hb0) ⟨h0, hn⟩ (by omega) hk (Nat.lt_of_lt_of_le hadb hb0.size) ((hb0.cell hadb).trans hck) (hp.below hb0) hE hpe)
  · have hc : cstE rows b n path = taskE rows b := by unfold cstE; rw [if_neg hE]
    have e : crkE rows b n path limit = taskE rows b := by unfold crkE; rw [if_neg (by rw [hc]; exact hE), hc]
    unfold crkL
    rw [e, if_neg hE]
    exact CracksIn_err A n c b limit P k cp _ w hE (checkedWith_err1 A n c rows b P k cp _ (hr.below hb0) hn hE)

end Go.Proofs.YtofdjapbofagiaaDoor
