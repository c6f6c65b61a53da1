import Derived.Test.YtofdjapbofagiaaDoorP7
import Derived.Test.YtofdjapbofagiaaDoorS0
import Derived.Test.YtofdjapbofagiaaDoorH7
import Derived.Test.YtofdjapbofagiaaDoorV1
import Derived.Test.YtofdjapbofagiaaDoorH2
namespace Go.Proofs.YtofdjapbofagiaaDoor

/-- The first error of k of them. -/
def firstF (f : Nat → Int) : Nat → Int
  | 0 => 0
  | k + 1 => if firstF f k = 0 then f k else firstF f k
theorem firstF_zero (f : Nat → Int) : firstF f 0 = 0 := rfl
theorem firstF_step {f : Nat → Int} {k : Nat} (h : firstF f k = 0) : firstF f (k + 1) = f k := if_pos h
theorem firstF_keep {f : Nat → Int} {k : Nat} (h : firstF f k ≠ 0) : ∀ n, k ≤ n → firstF f n = firstF f k
  | 0, hk => by obtain rfl : k = 0 := by omega
                rfl
  | n + 1, hk => by
    by_cases e : k = n + 1
    · subst e; rfl
    · have ih := firstF_keep h n (by omega)
      show (if firstF f n = 0 then f n else firstF f n) = _
      rw [if_neg (by rw [ih]; exact h), ih]
theorem firstF_stop {f : Nat → Int} {k n : Nat} {x : Int} (h : firstF f k = 0) (hx : f k = x) (h0 : x ≠ 0) (hk : k < n) : firstF f n = x := by
  have e := (firstF_step h).trans hx
  rw [firstF_keep (k := k + 1) (by rw [e]; exact h0) n hk, e]
theorem firstF_ok {f : Nat → Int} : ∀ {n : Nat}, firstF f n = 0 → ∀ j, j < n → f j = 0
  | 0, _, j, hj => absurd hj (by omega)
  | n + 1, h, j, hj => by
    by_cases h0 : firstF f n = 0
    · rw [firstF_step h0] at h
      by_cases e : j = n
      · subst e; exact h
      · exact firstF_ok h0 j (by omega)
    · have := firstF_keep h0 (n + 1) (by omega)
      rw [h] at this; exact absurd this.symm h0

/-- What is wrong with a path at an index. -/
def pAt (m : Nat) (path : List Int) (i : Nat) : Int :=
  if 0 ≤ path.getD i 0 ∧ path.getD i 0 ≤ (m : Int) - 1 then (if i = 0 ∨ (-1 ≤ path.getD i 0 - path.getD (i - 1) 0 ∧ path.getD i 0 - path.getD (i - 1) 0 ≤ 1) then 0 else 9) else 6
def pathE (n m : Nat) (path : List Int) : Int := if path.length = n then firstF (pAt m path) n else 10
theorem pAt_in {m : Nat} {path : List Int} {i : Nat} (h : pAt m path i = 0) : 0 ≤ path.getD i 0 ∧ path.getD i 0 ≤ (m : Int) - 1 := by
  unfold pAt at h
  by_cases h0 : 0 ≤ path.getD i 0 ∧ path.getD i 0 ≤ (m : Int) - 1
  · exact h0
  · rw [if_neg h0] at h; omega
theorem pAt_out {m : Nat} {path : List Int} {i : Nat} (h : ¬ (0 ≤ path.getD i 0 ∧ path.getD i 0 ≤ (m : Int) - 1)) : pAt m path i = 6 := if_neg h
theorem pAt_first {m : Nat} {path : List Int} (h : 0 ≤ path.getD 0 0 ∧ path.getD 0 0 ≤ (m : Int) - 1) : pAt m path 0 = 0 := by
  unfold pAt; rw [if_pos h, if_pos (.inl rfl)]
theorem pAt_step {m : Nat} {path : List Int} {i : Nat} (h : 0 ≤ path.getD i 0 ∧ path.getD i 0 ≤ (m : Int) - 1) (hs : -1 ≤ path.getD i 0 - path.getD (i - 1) 0 ∧ path.getD i 0 - path.getD (i - 1) 0 ≤ 1) : pAt m path i = 0 := by
  unfold pAt; rw [if_pos h, if_pos (.inr hs)]
theorem pAt_jump {m : Nat} {path : List Int} {i : Nat} (h : 0 ≤ path.getD i 0 ∧ path.getD i 0 ≤ (m : Int) - 1) (h0 : i ≠ 0) (hs : ¬ (-1 ≤ path.getD i 0 - path.getD (i - 1) 0 ∧ path.getD i 0 - path.getD (i - 1) 0 ≤ 1)) : pAt m path i = 9 := by
  unfold pAt; rw [if_pos h, if_neg (by rintro (h1 | h1); exact h0 h1; exact hs h1)]
theorem path_in {n m : Nat} {path : List Int} (h : pathE n m path = 0) : path.length = n ∧ ∀ j, j < n → 0 ≤ path.getD j 0 ∧ path.getD j 0 ≤ (m : Int) - 1 := by
  unfold pathE at h
  by_cases h0 : path.length = n
  · rw [if_pos h0] at h
    exact ⟨h0, fun j hj => pAt_in (firstF_ok h j hj)⟩
  · rw [if_neg h0] at h; omega

/-- The value of a path at an index, and the cost of its beginning. -/
def valAt (rows : List (List Int)) (path : List Int) (i : Nat) : Int := (rows.getD i []).getD (path.getD i 0).toNat 0
def bendAt (b : Int) (path : List Int) (i : Nat) : Int := if i = 0 then 0 else if path.getD (i - 1) 0 = path.getD i 0 then 0 else b
def costF (rows : List (List Int)) (b : Int) (path : List Int) : Nat → Int
  | 0 => 0
  | k + 1 => costF rows b path k + valAt rows path k + bendAt b path k
theorem costF_bd {rows : List (List Int)} {b : Int} {path : List Int} (hb : 0 ≤ b ∧ b ≤ 1000) : ∀ {k : Nat}, (∀ j, j < k → 0 ≤ valAt rows path j ∧ valAt rows path j ≤ 255) → 0 ≤ costF rows b path k ∧ costF rows b path k ≤ 1255 * (k : Int)
  | 0, _ => ⟨Int.le_refl _, by simp [costF]⟩
  | k + 1, h => by
    have ih := costF_bd hb (k := k) (fun j hj => h j (by omega))
    have h1 := h k (by omega)
    have h2 : 0 ≤ bendAt b path k ∧ bendAt b path k ≤ 1000 := by
      unfold bendAt
      by_cases e : k = 0
      · rw [if_pos e]; omega
      · rw [if_neg e]; by_cases e2 : path.getD (k - 1) 0 = path.getD k 0
        · rw [if_pos e2]; omega
        · rw [if_neg e2]; exact hb
    show 0 ≤ costF rows b path k + valAt rows path k + bendAt b path k ∧ _ ≤ _
    have e : costF rows b path (k + 1) = costF rows b path k + valAt rows path k + bendAt b path k := rfl
    rw [e]
    omega

/-- The cracks of the beginning of a path. -/
def crF (rows : List (List Int)) (path : List Int) (limit : Int) : Nat → List (Int × Int)
  | 0 => []
  | k + 1 =>
    if valAt rows path k ≤ limit then crF rows path limit k
    else if 0 < (crF rows path limit k).length ∧ ((crF rows path limit k).getD ((crF rows path limit k).length - 1) (0, 0)).2 = (k : Int) - 1 then (crF rows path limit k).set ((crF rows path limit k).length - 1) (((crF rows path limit k).getD ((crF rows path limit k).length - 1) (0, 0)).1, (k : Int))
    else crF rows path limit k ++ [((k : Int), (k : Int))]
theorem crF_length (rows : List (List Int)) (path : List Int) (limit : Int) : ∀ k, (crF rows path limit k).length ≤ k
  | 0 => Nat.le_refl _
  | k + 1 => by
    have ih := crF_length rows path limit k
    unfold crF
    split
    · omega
    · split
      · simp; omega
      · simp; omega
theorem pairCells_set2 : ∀ (ps : List (Int × Int)) (j : Nat) (x : Int), j < ps.length → (pairCells ps).set (j * 2 + 1) (.int .i64 x) = pairCells (ps.set j ((ps.getD j (0, 0)).1, x))
  | [], j, _, h => absurd h (by simp)
  | p :: ps, 0, x, _ => rfl
  | p :: ps, j + 1, x, h => by
    have ih := pairCells_set2 ps j x (by simpa using h)
    have e : pairCells (p :: ps) = .int .i64 p.1 :: .int .i64 p.2 :: pairCells ps := rfl
    have e2 : pairCells (p :: ps.set j ((ps.getD j (0, 0)).1, x)) = .int .i64 p.1 :: .int .i64 p.2 :: pairCells (ps.set j ((ps.getD j (0, 0)).1, x)) := rfl
    rw [e, show (j + 1) * 2 + 1 = j * 2 + 1 + 1 + 1 by omega, List.set_cons_succ, List.set_cons_succ, ih]
    rw [List.set_cons_succ]
    exact e2.symm

end Go.Proofs.YtofdjapbofagiaaDoor

namespace Go.Proofs.YtofdjapbofagiaaDoor
open Go.RowKit

set_option maxRecDepth 100000 in
set_option maxHeartbeats 2000000 in
theorem checkPath_any (A : Option Addr) (n c m : Nat) (b : Int) (P : Option Addr) (k cp : Nat) (path : List Int) (w : World) (hr : RdI w P k path) (hk : k ≤ 1000000) (hn : n ≤ 1000000) (hm : m ≤ 1000000) :
    Calls Tryd.prog 75 #[.agg #[.slice A n c, .int .i64 b, .int .i64 m], .slice P k cp] w fun e w' => e = .returned (.int .i64 (pathE n m path)) ∧ Below w.heap.size w w' := by
  have HLN : Hid (path.length = k) := hr.1
  have hb0 : Below w.heap.size w (w.alloc (.cells #[.slice A n c, .int .i64 b, .int .i64 m] 105)) := (Below.refl _ w).alloc (Nat.le_refl _) _
  have q0 : (w.alloc (.cells #[.slice A n c, .int .i64 b, .int .i64 m] 105)).cell? ⟨w.heap.size, 2, none⟩ = some (.int .i64 m) := by simp [go_sem]
  have hz0 : w.heap.size < (w.alloc (.cells #[.slice A n c, .int .i64 b, .int .i64 m] 105)).heap.size := by simp
  have HR := Lib.hid (hr.below hb0)
  have HB0 := Lib.hid hb0
  have Q0 := Lib.hid q0
  have HZ0 := Lib.hid hz0
  clear hr hb0 q0 hz0
  by_cases hkn : k = n
  · subst hkn
    have HE : Hid (pathE k m path = firstF (pAt m path) k) := if_pos HLN.out
    have hne : ((k : Int) != (k : Int)) = false := bne_self_eq_false' _
    rw [HE.out]
    go_enter Tryd.func75, Tryd.ntmps75
    go_wp2
    obtain ⟨W0, hW0⟩ : ∃ W0, (w.alloc (.cells #[.slice A k c, .int .i64 b, .int .i64 m] 105)) = W0 := ⟨_, rfl⟩
    obtain ⟨g, hg⟩ : ∃ g, w.heap.size = g := ⟨_, rfl⟩
    rw [hW0] at HR HB0 Q0 HZ0 ⊢
    rw [hg] at Q0 HZ0 ⊢
    have HG := Lib.hid hg
    clear hW0 hne hg
    go_loopw [16] (fun i wr => ∃ j : Nat, j ≤ k ∧ i = .int .i64 j ∧ Hid (firstF (pAt m path) j = 0) ∧ Hid (Below W0.heap.size W0 wr)) (fun i _ => k - (intOf i).toNat)
    case atStart => exact ⟨0, Nat.zero_le _, rfl, rfl, Below.refl _ _⟩
    case round =>
      obtain ⟨j, hj, rfl, HF, HX⟩ := hrel
      by_cases hlt : j < k
      · have hjI : (j : Int) < (k : Int) := by omega
        have hj0 : (0 : Int) ≤ (j : Int) := by omega
        have q1 : wr.cell? ⟨g, 2, none⟩ = some (.int .i64 m) := (HX.out.cell (p := ⟨g, 2, none⟩) HZ0.out).trans Q0.out
        obtain ⟨ad, hP, hadb, hc⟩ := (HR.out.below HX.out).2 (by omega)
        subst hP
        have c1 := hc j hlt
        have HC := Lib.hid hc
        clear hc
        obtain ⟨x, hx⟩ : ∃ x, path.getD j 0 = x := ⟨_, rfl⟩
        rw [hx] at c1
        have HXE := Lib.hid hx
        have CA : Hid (∀ W g', W.cell? ⟨g', 0, none⟩ = some (.int .i64 x) → Calls Tryd.prog 48 #[.int .i64 0, .int .i64 ((m : Int) - 1), .slice (some ⟨g', 0, none⟩) 1 1] W fun e w' => e = .returned (.bool (fromB 0 ((m : Int) - 1) [x])) ∧ W = w') := fun W g' h => areFrom_any _ 1 1 [x] 0 ((m : Int) - 1) W (lit1 _ _ _ h) (by omega)
        clear hx
        by_cases hin : 0 ≤ x ∧ x ≤ (m : Int) - 1
        · rw [fromB_one.2 hin] at CA
          obtain ⟨hx0, hxm⟩ := hin
          by_cases h0 : j = 0
          · subst h0
            have HF2 : Hid (firstF (pAt m path) (0 + 1) = 0) := by
              show _ = _
              rw [firstF_step HF.out, pAt_first (by rw [HXE.out]; exact ⟨hx0, hxm⟩)]
            have hgd : decide ((0 : Int) < ((0 : Nat) : Int)) = false := rfl
            rw [addZ] at c1
            go_wp2_with (go_at_call 48; refine (CA.out _ _ (by simp [go_sem])).mono ?_; rintro e w' ⟨rfl, rfl⟩)
            go_roundw
            case rel => exact ⟨0 + 1, by omega, by go_num, HF2.out, HX.out.alloc HX.out.size _⟩
            case measure => simp [intOf]; omega
          · obtain ⟨q, hq⟩ : ∃ q, j = q + 1 := ⟨j - 1, by omega⟩
            have c2 := HC.out q (by omega)
            have hyb := pAt_in (firstF_ok HF.out q (by omega))
            obtain ⟨y, hy⟩ : ∃ y, path.getD q 0 = y := ⟨_, rfl⟩
            rw [hy] at c2 hyb
            have HYE : Hid (path.getD (j - 1) 0 = y) := by show _ = _; rw [show j - 1 = q by omega]; exact hy
            obtain ⟨hy0, hym⟩ := hyb
            have hz1 : IntKind.i64.wrap ((j : Int) - 1) = (q : Int) := by rw [show (j : Int) - 1 = (q : Int) by omega]; exact IntWalk.i64_in _ (by omega)
            have hz2 : (j : Int) - 1 = (q : Int) := by omega
            have hz3 : (0 : Int) ≤ (q : Int) := by omega
            have hz4 : (q : Int) < (k : Int) := by omega
            have hgd : decide ((0 : Int) < (j : Int)) = true := decide_eq_true (by omega)
            have hgp : (0 : Int) < (j : Int) := by omega
            have CM : Hid (∀ W g', W.cell? ⟨g', 0, none⟩ = some (.int .i64 (x - y)) → Calls Tryd.prog 60 #[.int .i64 1, .slice (some ⟨g', 0, none⟩) 1 1] W fun e w' => e = .returned (.bool (fromB (-1) 1 [x - y])) ∧ W = w') := fun W g' h => areAtMost_any _ 1 1 [x - y] 1 W (lit1 _ _ _ h) (by omega) (by omega)
            have c3 : (wr.alloc (.cells #[.int .i64 x] 3)).cell? (ad.add q) = some (.int .i64 y) := cellA _ c2
            clear hy hq
            by_cases hs : -1 ≤ x - y ∧ x - y ≤ 1
            · rw [fromB_one.2 hs] at CM
              have HF2 : Hid (firstF (pAt m path) (j + 1) = 0) := by
                show _ = _
                rw [firstF_step HF.out, pAt_step (by rw [HXE.out]; exact ⟨hx0, hxm⟩) (by rw [HXE.out, HYE.out]; exact hs)]
              clear hs
              go_wp2_with (first | (go_at_call 48; refine (CA.out _ _ (by simp [go_sem])).mono ?_; rintro e w' ⟨rfl, rfl⟩) | (go_at_call 60; refine (CM.out _ _ (by simp [go_sem])).mono ?_; rintro e w' ⟨rfl, rfl⟩))
              go_roundw
              case rel => exact ⟨j + 1, by omega, by go_num, HF2.out, (HX.out.alloc HX.out.size _).alloc (by simp; have := HX.out.size; omega) _⟩
              case measure => simp [intOf]; omega
            · rw [show fromB (-1) 1 [x - y] = false by rw [Bool.eq_false_iff]; intro e; exact hs (fromB_one.1 e)] at CM
              have HF2 : Hid (firstF (pAt m path) k = 9) := firstF_stop HF.out (pAt_jump (by rw [HXE.out]; exact ⟨hx0, hxm⟩) h0 (by rw [HXE.out, HYE.out]; exact hs)) (by decide) hlt
              clear hs
              go_wp2_with (first | (go_at_call 48; refine (CA.out _ _ (by simp [go_sem])).mono ?_; rintro e w' ⟨rfl, rfl⟩) | (go_at_call 60; refine (CM.out _ _ (by simp [go_sem])).mono ?_; rintro e w' ⟨rfl, rfl⟩))
              go_ret
              refine ⟨by rw [HF2.out]; rfl, ?_⟩
              exact HB0.out.trans (((HX.out.alloc HX.out.size _).alloc (by simp; have := HX.out.size; omega) _).mono HB0.out.size)
        · rw [show fromB 0 ((m : Int) - 1) [x] = false by rw [Bool.eq_false_iff]; intro e; exact hin (fromB_one.1 e)] at CA
          have HF2 : Hid (firstF (pAt m path) k = 6) := firstF_stop HF.out (pAt_out (by rw [HXE.out]; exact hin)) (by decide) hlt
          clear hin
          go_wp2_with (go_at_call 48; refine (CA.out _ _ (by simp [go_sem])).mono ?_; rintro e w' ⟨rfl, rfl⟩)
          go_ret
          refine ⟨by rw [HF2.out]; rfl, ?_⟩
          exact HB0.out.trans ((HX.out.alloc HX.out.size _).mono HB0.out.size)
      · obtain rfl : k = j := by omega
        go_wp2
        go_ret
        refine ⟨by rw [HF.out]; rfl, ?_⟩
        exact HB0.out.trans (HX.out.mono HB0.out.size)
  · have HE : Hid (pathE n m path = 10) := if_neg (by rw [HLN.out]; exact hkn)
    have hne : ((k : Int) != (n : Int)) = true := by rw [bne_iff_ne]; omega
    rw [HE.out]
    clear hkn HE
    go_enter Tryd.func75, Tryd.ntmps75
    go_wp2
    go_ret
    exact ⟨rfl, HB0.out⟩

end Go.Proofs.YtofdjapbofagiaaDoor

namespace Go.Proofs.YtofdjapbofagiaaDoor
open Go.RowKit

def cstE (rows : List (List Int)) (b : Int) (n : Nat) (path : List Int) : Int := if taskE rows b = 0 then pathE n (colsOf rows) path else taskE rows b

set_option maxRecDepth 100000 in
set_option maxHeartbeats 1000000 in
theorem checkedWith_err1 (A : Option Addr) (n c : Nat) (rows : List (List Int)) (b : Int) (P : Option Addr) (k cp : Nat) (w : World) (hr : RdG w A n rows) (hn : n ≤ 1000000) (hE : taskE rows b ≠ 0) :
    Calls Tryd.prog 53 #[.agg #[.slice A n c, .int .i64 b], .slice P k cp] w fun e w' => e = .returned (.tuple #[.agg #[.slice none 0 0, .int .i64 0, .int .i64 0], .int .i64 (taskE rows b)]) ∧ Below w.heap.size w w' := by
  have hb0 : Below w.heap.size w ((w.alloc (.cells #[.slice A n c, .int .i64 b] 53)).alloc (.cells #[.slice none 0 0, .int .i64 0, .int .i64 0] 105)) := ((Below.refl _ w).alloc (Nat.le_refl _) _).alloc (by simp) _
  have qb : Bk ((w.alloc (.cells #[.slice A n c, .int .i64 b] 53)).alloc (.cells #[.slice none 0 0, .int .i64 0, .int .i64 0] 105)) (w.heap.size + 1) 105 #[.slice none 0 0, .int .i64 0, .int .i64 0] := by
    have := Bk.new (w.alloc (.cells #[.slice A n c, .int .i64 b] 53)) 105 #[.slice none 0 0, .int .i64 0, .int .i64 0]
    simpa using this
  have HQ := Lib.hid qb
  have HB0 := Lib.hid hb0
  have CC := Lib.hid (checked_err A n c rows b _ (hr.below hb0) (by omega) hE)
  obtain ⟨E, hEe⟩ : ∃ E, taskE rows b = E := ⟨_, rfl⟩
  rw [hEe] at CC hE ⊢
  have h1 : (E != 0) = true := by simpa using hE
  have h2 : (E == 0) = false := by simpa using hE
  clear hr hb0 qb hEe hE
  go_enter Tryd.func53, Tryd.ntmps53
  go_wp2_with fail
  refine CC.out.mono ?_
  rintro e w1 ⟨rfl, hb1⟩
  have pb : Bk w1 (w.heap.size + 1) 105 #[.slice none 0 0, .int .i64 0, .int .i64 0] := HQ.out.later hb1
  have HB1 : Hid (Below w.heap.size w w1) := HB0.out.trans (hb1.mono HB0.out.size)
  have hz1 : w.heap.size + 2 ≤ w1.heap.size := by have := hb1.size; simp at this; omega
  have pb2 := pb.alloc (.cells #[.slice none 0 0, .int .i64 0, .int .i64 0] 105)
  have t0 : (w1.alloc (.cells #[.slice none 0 0, .int .i64 0, .int .i64 0] 105)).cell? ⟨w.heap.size + 1, 0, none⟩ = some (.slice none 0 0) := by rw [pb2.cell]; rfl
  have f0 := pb2.frozen 0
  have t1 : (w1.alloc (.cells #[.slice none 0 0, .int .i64 0, .int .i64 0] 105)).cell? ⟨w.heap.size + 1, 1, none⟩ = some (.int .i64 0) := by rw [pb2.cell]; rfl
  have f1 := pb2.frozen 1
  have t2 : (w1.alloc (.cells #[.slice none 0 0, .int .i64 0, .int .i64 0] 105)).cell? ⟨w.heap.size + 1, 2, none⟩ = some (.int .i64 0) := by rw [pb2.cell]; rfl
  have f2 := pb2.frozen 2
  have HPB := Lib.hid pb2
  clear pb pb2 hb1 CC
  go_wp2
  have HF := Lib.hid (((HPB.out.set_ 0 (.slice none 0 0)).set_ 1 (.int .i64 0)).set_ 2 (.int .i64 0))
  refine bodyPost_ret (v := .tuple #[.agg #[.slice none 0 0, .int .i64 0, .int .i64 0], .int .i64 E]) ?_ rfl ⟨rfl, (((HB1.out.alloc (by omega) _).setCell (p := ⟨w.heap.size + 1, 0, none⟩) (by dsimp only; omega) _).setCell (p := ⟨w.heap.size + 1, 1, none⟩) (by dsimp only; omega) _).setCell (p := ⟨w.heap.size + 1, 2, none⟩) (by dsimp only; omega) _⟩
  exact results_cell_tmp (fn := Tryd.f53) rfl _ _ (w.heap.size + 1) 105 _ (0, 0) _ rfl HF.out Tryd.underlying105 rfl taskSize

set_option maxRecDepth 100000 in
set_option maxHeartbeats 1000000 in
theorem checkedWith_err2 (ad : Addr) (n c m c' : Nat) (B : Option Addr) (rows : List (List Int)) (b : Int) (P : Option Addr) (k cp : Nat) (path : List Int) (w : World) (hr : RdG w (some ad) n rows) (hn : 0 < n ∧ n ≤ 1000000) (hm : m ≤ 1000000) (hk : k ≤ 1000000) (hadb : ad.block < w.heap.size) (hck : w.cell? ad = some (.slice B m c')) (hp : RdI w P k path) (hE : taskE rows b = 0) (hpe : pathE n m path ≠ 0) :
    Calls Tryd.prog 53 #[.agg #[.slice (some ad) n c, .int .i64 b], .slice P k cp] w fun e w' => e = .returned (.tuple #[.agg #[.slice none 0 0, .int .i64 0, .int .i64 0], .int .i64 (pathE n m path)]) ∧ Below w.heap.size w w' := by
  have hb0 : Below w.heap.size w ((w.alloc (.cells #[.slice (some ad) n c, .int .i64 b] 53)).alloc (.cells #[.slice none 0 0, .int .i64 0, .int .i64 0] 105)) := ((Below.refl _ w).alloc (Nat.le_refl _) _).alloc (by simp) _
  have qb : Bk ((w.alloc (.cells #[.slice (some ad) n c, .int .i64 b] 53)).alloc (.cells #[.slice none 0 0, .int .i64 0, .int .i64 0] 105)) (w.heap.size + 1) 105 #[.slice none 0 0, .int .i64 0, .int .i64 0] := by
    have := Bk.new (w.alloc (.cells #[.slice (some ad) n c, .int .i64 b] 53)) 105 #[.slice none 0 0, .int .i64 0, .int .i64 0]
    simpa using this
  have HQ := Lib.hid qb
  have HB0 := Lib.hid hb0
  have CC := Lib.hid (checked_ok ad n c m c' B rows b _ (hr.below hb0) (by omega) (Nat.lt_of_lt_of_le hadb hb0.size) ((hb0.cell hadb).trans hck) hn.1 hE)
  have HP := Lib.hid (hp.below hb0)
  obtain ⟨E, hEe⟩ : ∃ E, pathE n m path = E := ⟨_, rfl⟩
  rw [hEe] at hpe ⊢
  have HPE := Lib.hid hEe
  have h1 : (E != 0) = true := by simpa using hpe
  clear hr hb0 qb hE hEe hpe hck hadb hp
  go_enter Tryd.func53, Tryd.ntmps53
  go_wp2_with fail
  refine CC.out.mono ?_
  rintro e w1 ⟨rfl, hb1⟩
  have pb : Bk w1 (w.heap.size + 1) 105 #[.slice none 0 0, .int .i64 0, .int .i64 0] := HQ.out.later hb1
  have HB1 : Hid (Below w.heap.size w w1) := HB0.out.trans (hb1.mono HB0.out.size)
  have hz1 : w.heap.size + 2 ≤ w1.heap.size := by have := hb1.size; simp at this; omega
  have hb2' : Below w1.heap.size w1 (w1.alloc (.cells #[.slice (some ad) n c, .int .i64 b, .int .i64 m] 105)) := (Below.refl _ _).alloc (Nat.le_refl _) _
  have CP := Lib.hid (checkPath_any (some ad) n c m b P k cp path (w1.alloc (.cells #[.slice (some ad) n c, .int .i64 b, .int .i64 m] 105)) ((HP.out.below hb1).below hb2') hk hn.2 hm)
  have HPB := Lib.hid (pb.alloc (.cells #[.slice (some ad) n c, .int .i64 b, .int .i64 m] 105))
  have HN := Lib.hid (Bk.new w1 105 #[.slice (some ad) n c, .int .i64 b, .int .i64 m])
  clear pb hb1 CC hb2'
  rw [HPE.out] at CP
  go_wp2_with fail
  refine CP.out.mono ?_
  rintro e w2 ⟨rfl, hb2⟩
  have qn : Bk w2 w1.heap.size 105 #[.slice (some ad) n c, .int .i64 b, .int .i64 m] := HN.out.later hb2
  have pb : Bk w2 (w.heap.size + 1) 105 #[.slice none 0 0, .int .i64 0, .int .i64 0] := HPB.out.later hb2
  have HB2 : Hid (Below w.heap.size w w2) := HB1.out.trans ((((Below.refl _ w1).alloc (Nat.le_refl _) (.cells #[.slice (some ad) n c, .int .i64 b, .int .i64 m] 105)).trans (hb2.mono (by simp))).mono HB1.out.size)
  have n0 : w2.cell? ⟨w1.heap.size, 0, none⟩ = some (.slice (some ad) n c) := by rw [qn.cell]; rfl
  have n1 : w2.cell? ⟨w1.heap.size, 1, none⟩ = some (.int .i64 b) := by rw [qn.cell]; rfl
  have n2 : w2.cell? ⟨w1.heap.size, 2, none⟩ = some (.int .i64 m) := by rw [qn.cell]; rfl
  have t0 : w2.cell? ⟨w.heap.size + 1, 0, none⟩ = some (.slice none 0 0) := by rw [pb.cell]; rfl
  have f0 := pb.frozen 0
  have t1 : w2.cell? ⟨w.heap.size + 1, 1, none⟩ = some (.int .i64 0) := by rw [pb.cell]; rfl
  have f1 := pb.frozen 1
  have t2 : w2.cell? ⟨w.heap.size + 1, 2, none⟩ = some (.int .i64 0) := by rw [pb.cell]; rfl
  have f2 := pb.frozen 2
  have HPB2 := Lib.hid pb
  clear pb hb2 CP qn HN HPB
  go_wp2
  have HF := Lib.hid (((HPB2.out.set_ 0 (.slice none 0 0)).set_ 1 (.int .i64 0)).set_ 2 (.int .i64 0))
  refine bodyPost_ret (v := .tuple #[.agg #[.slice none 0 0, .int .i64 0, .int .i64 0], .int .i64 E]) ?_ rfl ⟨rfl, ((HB2.out.setCell (p := ⟨w.heap.size + 1, 0, none⟩) (by dsimp only; omega) _).setCell (p := ⟨w.heap.size + 1, 1, none⟩) (by dsimp only; omega) _).setCell (p := ⟨w.heap.size + 1, 2, none⟩) (by dsimp only; omega) _⟩
  exact results_cell_tmp (fn := Tryd.f53) rfl _ _ (w.heap.size + 1) 105 _ (0, 0) _ rfl HF.out Tryd.underlying105 rfl taskSize

set_option maxRecDepth 100000 in
set_option maxHeartbeats 1000000 in
theorem checkedWith_ok (ad : Addr) (n c m c' : Nat) (B : Option Addr) (rows : List (List Int)) (b : Int) (P : Option Addr) (k cp : Nat) (path : List Int) (w : World) (hr : RdG w (some ad) n rows) (hn : 0 < n ∧ n ≤ 1000000) (hm : m ≤ 1000000) (hk : k ≤ 1000000) (hadb : ad.block < w.heap.size) (hck : w.cell? ad = some (.slice B m c')) (hp : RdI w P k path) (hE : taskE rows b = 0) (hpe : pathE n m path = 0) :
    Calls Tryd.prog 53 #[.agg #[.slice (some ad) n c, .int .i64 b], .slice P k cp] w fun e w' => e = .returned (.tuple #[.agg #[.slice (some ad) n c, .int .i64 b, .int .i64 m], .int .i64 0]) ∧ Below w.heap.size w w' := by
  have hb0 : Below w.heap.size w ((w.alloc (.cells #[.slice (some ad) n c, .int .i64 b] 53)).alloc (.cells #[.slice none 0 0, .int .i64 0, .int .i64 0] 105)) := ((Below.refl _ w).alloc (Nat.le_refl _) _).alloc (by simp) _
  have qb : Bk ((w.alloc (.cells #[.slice (some ad) n c, .int .i64 b] 53)).alloc (.cells #[.slice none 0 0, .int .i64 0, .int .i64 0] 105)) (w.heap.size + 1) 105 #[.slice none 0 0, .int .i64 0, .int .i64 0] := by
    have := Bk.new (w.alloc (.cells #[.slice (some ad) n c, .int .i64 b] 53)) 105 #[.slice none 0 0, .int .i64 0, .int .i64 0]
    simpa using this
  have HQ := Lib.hid qb
  have HB0 := Lib.hid hb0
  have CC := Lib.hid (checked_ok ad n c m c' B rows b _ (hr.below hb0) (by omega) (Nat.lt_of_lt_of_le hadb hb0.size) ((hb0.cell hadb).trans hck) hn.1 hE)
  have HP := Lib.hid (hp.below hb0)
  have HPE := Lib.hid hpe
  clear hr hb0 qb hE hpe hck hadb hp
  go_enter Tryd.func53, Tryd.ntmps53
  go_wp2_with fail
  refine CC.out.mono ?_
  rintro e w1 ⟨rfl, hb1⟩
  have pb : Bk w1 (w.heap.size + 1) 105 #[.slice none 0 0, .int .i64 0, .int .i64 0] := HQ.out.later hb1
  have HB1 : Hid (Below w.heap.size w w1) := HB0.out.trans (hb1.mono HB0.out.size)
  have hz1 : w.heap.size + 2 ≤ w1.heap.size := by have := hb1.size; simp at this; omega
  have hb2' : Below w1.heap.size w1 (w1.alloc (.cells #[.slice (some ad) n c, .int .i64 b, .int .i64 m] 105)) := (Below.refl _ _).alloc (Nat.le_refl _) _
  have CP := Lib.hid (checkPath_any (some ad) n c m b P k cp path (w1.alloc (.cells #[.slice (some ad) n c, .int .i64 b, .int .i64 m] 105)) ((HP.out.below hb1).below hb2') hk hn.2 hm)
  have HPB := Lib.hid (pb.alloc (.cells #[.slice (some ad) n c, .int .i64 b, .int .i64 m] 105))
  have HN := Lib.hid (Bk.new w1 105 #[.slice (some ad) n c, .int .i64 b, .int .i64 m])
  clear pb hb1 CC hb2'
  rw [HPE.out] at CP
  go_wp2_with fail
  refine CP.out.mono ?_
  rintro e w2 ⟨rfl, hb2⟩
  have qn : Bk w2 w1.heap.size 105 #[.slice (some ad) n c, .int .i64 b, .int .i64 m] := HN.out.later hb2
  have pb : Bk w2 (w.heap.size + 1) 105 #[.slice none 0 0, .int .i64 0, .int .i64 0] := HPB.out.later hb2
  have HB2 : Hid (Below w.heap.size w w2) := HB1.out.trans ((((Below.refl _ w1).alloc (Nat.le_refl _) (.cells #[.slice (some ad) n c, .int .i64 b, .int .i64 m] 105)).trans (hb2.mono (by simp))).mono HB1.out.size)
  have n0 : w2.cell? ⟨w1.heap.size, 0, none⟩ = some (.slice (some ad) n c) := by rw [qn.cell]; rfl
  have n1 : w2.cell? ⟨w1.heap.size, 1, none⟩ = some (.int .i64 b) := by rw [qn.cell]; rfl
  have n2 : w2.cell? ⟨w1.heap.size, 2, none⟩ = some (.int .i64 m) := by rw [qn.cell]; rfl
  have t0 : w2.cell? ⟨w.heap.size + 1, 0, none⟩ = some (.slice none 0 0) := by rw [pb.cell]; rfl
  have f0 := pb.frozen 0
  have t1 : w2.cell? ⟨w.heap.size + 1, 1, none⟩ = some (.int .i64 0) := by rw [pb.cell]; rfl
  have f1 := pb.frozen 1
  have t2 : w2.cell? ⟨w.heap.size + 1, 2, none⟩ = some (.int .i64 0) := by rw [pb.cell]; rfl
  have f2 := pb.frozen 2
  have HPB2 := Lib.hid pb
  clear pb hb2 CP qn HN HPB
  go_wp2
  have HF := Lib.hid (((HPB2.out.set_ 0 (.slice (some ad) n c)).set_ 1 (.int .i64 b)).set_ 2 (.int .i64 m))
  refine bodyPost_ret (v := .tuple #[.agg #[.slice (some ad) n c, .int .i64 b, .int .i64 m], .int .i64 0]) ?_ rfl ⟨rfl, ((HB2.out.setCell (p := ⟨w.heap.size + 1, 0, none⟩) (by dsimp only; omega) _).setCell (p := ⟨w.heap.size + 1, 1, none⟩) (by dsimp only; omega) _).setCell (p := ⟨w.heap.size + 1, 2, none⟩) (by dsimp only; omega) _⟩
  exact results_cell_tmp (fn := Tryd.f53) rfl _ _ (w.heap.size + 1) 105 _ (0, 0) _ rfl HF.out Tryd.underlying105 rfl taskSize

end Go.Proofs.YtofdjapbofagiaaDoor

namespace Go.Proofs.YtofdjapbofagiaaDoor
open Go.RowKit

theorem getD_in {α : Type} (l : List α) (j : Nat) (d : α) (h : j < l.length) : l.getD j d ∈ l := by
  rw [List.getD_eq_getElem?_getD, List.getElem?_eq_getElem h]; exact List.getElem_mem _
/-- A value of a grid, where it lies. -/
theorem grid_at {w : World} {ad : Addr} {n m : Nat} {rows : List (List Int)} (hr : RdG w (some ad) n rows) (hb : ∀ r ∈ rows, r.length = m ∧ ∀ x ∈ r, 0 ≤ x ∧ x ≤ 255) (j t : Nat) (hj : j < n) (ht : t < m) :
    ∃ bd c, w.cell? (ad.add j) = some (.slice (some bd) m c) ∧ w.cell? (bd.add t) = some (.int .i64 ((rows.getD j []).getD t 0)) ∧ 0 ≤ (rows.getD j []).getD t 0 ∧ (rows.getD j []).getD t 0 ≤ 255 ∧ ad.block < w.heap.size ∧ bd.block < w.heap.size := by
  obtain ⟨ad', e, hlt, hc⟩ := hr.2 (by omega)
  cases e
  obtain ⟨B, m', c, h1, h2, _⟩ := hc j hj
  have hm := hb _ (getD_in rows j [] (by rw [hr.1]; exact hj))
  obtain rfl : m' = m := by rw [← h2.1, hm.1]
  obtain ⟨bd, rfl, hbb, hcb⟩ := h2.2 (by omega)
  have hv := hm.2 _ (getD_in (rows.getD j []) t 0 (by rw [hm.1]; exact ht))
  exact ⟨bd, c, h1, hcb t ht, hv.1, hv.2, hlt, hbb⟩
theorem cost_bd {rows : List (List Int)} {b : Int} {path : List Int} {n m : Nat} (hb : 0 ≤ b ∧ b ≤ 1000) (hl : rows.length = n) (hn : n ≤ 1000000) (hg : ∀ r ∈ rows, r.length = m ∧ ∀ x ∈ r, 0 ≤ x ∧ x ≤ 255) (hp : ∀ j, j < n → 0 ≤ path.getD j 0 ∧ path.getD j 0 ≤ (m : Int) - 1) (k : Nat) (hk : k ≤ n) : 0 ≤ costF rows b path k ∧ costF rows b path k ≤ 2000000000 := by
  have h := costF_bd (rows := rows) (path := path) hb (k := k) (fun j hj => by
    have hm := hg _ (getD_in rows j [] (by omega))
    have hpj := hp j (by omega)
    exact hm.2 _ (getD_in (rows.getD j []) _ 0 (by rw [hm.1]; omega)))
  omega
theorem bendAt_zero (b : Int) (path : List Int) : bendAt b path 0 = 0 := rfl
theorem bendAt_succ (b : Int) (path : List Int) (q : Nat) : bendAt b path (q + 1) = if path.getD q 0 = path.getD (q + 1) 0 then 0 else b := rfl
theorem cst_ok {rows : List (List Int)} {b : Int} {n : Nat} {path : List Int} (h : cstE rows b n path = 0) : taskE rows b = 0 ∧ pathE n (colsOf rows) path = 0 := by
  unfold cstE at h
  by_cases h0 : taskE rows b = 0
  · rw [if_pos h0] at h; exact ⟨h0, h⟩
  · rw [if_neg h0] at h; exact absurd h h0

set_option maxRecDepth 100000 in
set_option maxHeartbeats 4000000 in
theorem CostOf_ok (ad : Addr) (n c m c' : Nat) (B : Option Addr) (rows : List (List Int)) (b : Int) (P : Option Addr) (cp : Nat) (path : List Int) (w : World) (hr : RdG w (some ad) n rows) (hn : 0 < n ∧ n ≤ 1000000) (hm : m ≤ 1000000) (hadb : ad.block < w.heap.size) (hck : w.cell? ad = some (.slice B m c')) (hp : RdI w P n path) (hE : taskE rows b = 0) (hpe : pathE n m path = 0)
    (hbb : 0 ≤ b ∧ b ≤ 1000) (hg : ∀ r ∈ rows, r.length = m ∧ ∀ x ∈ r, 0 ≤ x ∧ x ≤ 255) :
    Calls Tryd.prog 20 #[.agg #[.slice (some ad) n c, .int .i64 b], .slice P n cp] w fun e w' => e = .returned (.tuple #[.int .i64 (costF rows b path n), .int .i64 0]) ∧ Below w.heap.size w w' := by
  have hb0 : Below w.heap.size w (w.alloc (.cells #[.slice (some ad) n c, .int .i64 b] 53)) := (Below.refl _ w).alloc (Nat.le_refl _) _
  have CC := Lib.hid (checkedWith_ok ad n c m c' B rows b P n cp path _ (hr.below hb0) hn hm hn.2 (Nat.lt_of_lt_of_le hadb hb0.size) ((hb0.cell hadb).trans hck) (hp.below hb0) hE hpe)
  have HR := Lib.hid (hr.below hb0)
  have HP := Lib.hid (hp.below hb0)
  have HB0 := Lib.hid hb0
  have HGB := Lib.hid hg
  have hpi := (path_in hpe).2
  have HPI := Lib.hid hpi
  have HCB := Lib.hid (cost_bd hbb hr.1 hn.2 hg hpi)
  have HBB := Lib.hid hbb
  have hnb : n ≤ 1000000 := hn.2
  clear hr hb0 hck hp hE hpe hg hpi hbb hadb
  go_enter Tryd.func20, Tryd.ntmps20
  go_wp2_with fail
  refine CC.out.mono ?_
  rintro e w1 ⟨rfl, hb1⟩
  have HB1 : Hid (Below w.heap.size w w1) := HB0.out.trans (hb1.mono HB0.out.size)
  have hb2 : Below w1.heap.size w1 (w1.alloc (.cells #[.slice (some ad) n c, .int .i64 b, .int .i64 m] 105)) := (Below.refl _ _).alloc (Nat.le_refl _) _
  have HR1 := Lib.hid ((HR.out.below hb1).below hb2)
  have HP1 := Lib.hid ((HP.out.below hb1).below hb2)
  have HN := Lib.hid (Bk.new w1 105 #[.slice (some ad) n c, .int .i64 b, .int .i64 m])
  have HB2 : Hid (Below w.heap.size w (w1.alloc (.cells #[.slice (some ad) n c, .int .i64 b, .int .i64 m] 105))) := HB1.out.trans (hb2.mono HB1.out.size)
  clear hb1 hb2 CC HR HP HB0
  go_wp2
  obtain ⟨g, hgw⟩ : ∃ g, w1.heap.size = g := ⟨_, rfl⟩
  rw [hgw] at HN
  obtain ⟨W1, hW1⟩ : ∃ W, (w1.alloc (.cells #[.slice (some ad) n c, .int .i64 b, .int .i64 m] 105)) = W := ⟨_, rfl⟩
  rw [hW1] at HR1 HP1 HN HB2 ⊢
  try rw [hgw]
  clear hW1 hgw
  go_loopw [8, 22] (fun s i wr => ∃ j : Nat, j ≤ n ∧ i = .int .i64 j ∧ s = .int .i64 (costF rows b path j) ∧ Hid (Below W1.heap.size W1 wr)) (fun _ i _ => n - (intOf i).toNat)
  case atStart => exact ⟨0, Nat.zero_le _, rfl, rfl, Below.refl _ _⟩
  case round =>
    obtain ⟨j, hj, rfl, rfl, HX⟩ := hrel
    have hSb := HCB.out j hj
    have HSN : Hid (costF rows b path (j + 1) = costF rows b path j + valAt rows path j + bendAt b path j) := rfl
    by_cases hlt : j < n
    · have hjI : (j : Int) < (n : Int) := by omega
      have hj0 : (0 : Int) ≤ (j : Int) := by omega
      have hSb2 := HCB.out (j + 1) hlt
      have qn := HN.out.later HX.out
      have n0 : wr.cell? ⟨g, 0, none⟩ = some (.slice (some ad) n c) := by rw [qn.cell]; rfl
      have n1 : wr.cell? ⟨g, 1, none⟩ = some (.int .i64 b) := by rw [qn.cell]; rfl
      have n2 : wr.cell? ⟨g, 2, none⟩ = some (.int .i64 m) := by rw [qn.cell]; rfl
      obtain ⟨pd, hP, hpdb, hc⟩ := (HP1.out.below HX.out).2 (by omega)
      subst hP
      have c1 := hc j hlt
      have HC := Lib.hid hc
      have hx := HPI.out j hlt
      obtain ⟨x, hxe⟩ : ∃ x, path.getD j 0 = x := ⟨_, rfl⟩
      have HXE := Lib.hid hxe
      rw [hxe] at c1 hx
      obtain ⟨t, rfl⟩ : ∃ t : Nat, x = (t : Int) := ⟨x.toNat, by omega⟩
      have htm : t < m := by omega
      have htI : (t : Int) < (m : Int) := by omega
      have ht0 : (0 : Int) ≤ (t : Int) := by omega
      obtain ⟨bd, cb, r1, r2, hv0, hv1, _, _⟩ := grid_at (HR1.out.below HX.out) HGB.out j t hlt htm
      have HV : Hid (valAt rows path j = (rows.getD j []).getD t 0) := by show _ = _; unfold valAt; rw [hxe]; rfl
      obtain ⟨v, hve⟩ : ∃ v, (rows.getD j []).getD t 0 = v := ⟨_, rfl⟩
      rw [hve] at r2 hv0 hv1 HV
      rw [HSN.out, HV.out] at hSb2
      obtain ⟨s, hse⟩ : ∃ s, costF rows b path j = s := ⟨_, rfl⟩
      rw [hse] at hSb hSb2 HSN ⊢
      clear hc hxe hve hse qn hx
      by_cases h0 : j = 0
      · subst h0
        have hgd : decide ((0 : Int) < ((0 : Nat) : Int)) = false := rfl
        have HF : Hid (s + v = costF rows b path (0 + 1)) := by show _ = _; rw [HSN.out, HV.out, bendAt_zero]; omega
        rw [addZ] at c1 r1
        clear hSb2
        go_wp2
        go_roundw
        case rel => exact ⟨0 + 1, by omega, by go_num, by rw [HF.out], HX.out⟩
        case measure => simp [intOf]; omega
      · obtain ⟨q, hq⟩ : ∃ q, j = q + 1 := ⟨j - 1, by omega⟩
        have c2 := HC.out q (by omega)
        obtain ⟨y, hy⟩ : ∃ y, path.getD q 0 = y := ⟨_, rfl⟩
        rw [hy] at c2
        have HBD : Hid (bendAt b path j = if y = (t : Int) then 0 else b) := by show _ = _; rw [hq, bendAt_succ, ← hq, hy, HXE.out]
        obtain ⟨d, hde⟩ : ∃ d, (if y = (t : Int) then 0 else b) = d := ⟨_, rfl⟩
        have hdb : 0 ≤ d ∧ d ≤ 1000 := by have := HBB.out; rw [← hde]; split <;> omega
        have HDE := Lib.hid hde
        rw [hde] at HBD
        rw [HBD.out] at hSb2
        have HF : Hid (costF rows b path (j + 1) = s + v + d) := by show _ = _; rw [HSN.out, HV.out, HBD.out]
        obtain ⟨R, hR⟩ : ∃ R, s + v + d = R := ⟨_, rfl⟩
        rw [hR] at HF hSb2
        have hz5 : IntKind.i64.wrap (s + v + d) = R := by rw [hR]; exact IntWalk.i64_in _ (by omega)
        have hz1 : IntKind.i64.wrap ((j : Int) - 1) = (q : Int) := by rw [show (j : Int) - 1 = (q : Int) by omega]; exact IntWalk.i64_in _ (by omega)
        have hz3 : (0 : Int) ≤ (q : Int) := by omega
        have hz4 : (q : Int) < (n : Int) := by omega
        have hgd : decide ((0 : Int) < (j : Int)) = true := decide_eq_true (by omega)
        have hgp : (0 : Int) < (j : Int) := by omega
        have HS0 : Hid ((fun w' : World => w'.cell? ⟨g, 0, none⟩ = some (.slice (some ad) n c) ∧ w'.cell? ⟨g, 1, none⟩ = some (.int .i64 b) ∧ w'.cell? ⟨g, 2, none⟩ = some (.int .i64 m) ∧ w'.cell? (pd.add q) = some (.int .i64 y) ∧ Below W1.heap.size W1 w') wr.drew) := ⟨n0, n1, n2, c2, HX.out.drew⟩
        have CB : Hid (∀ W', (fun w' : World => w'.cell? ⟨g, 0, none⟩ = some (.slice (some ad) n c) ∧ w'.cell? ⟨g, 1, none⟩ = some (.int .i64 b) ∧ w'.cell? ⟨g, 2, none⟩ = some (.int .i64 m) ∧ w'.cell? (pd.add q) = some (.int .i64 y) ∧ Below W1.heap.size W1 w') W' → Calls Tryd.prog 54 #[.agg #[.slice (some ad) n c, .int .i64 b, .int .i64 m], .int .i64 y, .int .i64 t] W' fun e w' => e = .returned (.int .i64 d) ∧ (fun w' : World => w'.cell? ⟨g, 0, none⟩ = some (.slice (some ad) n c) ∧ w'.cell? ⟨g, 1, none⟩ = some (.int .i64 b) ∧ w'.cell? ⟨g, 2, none⟩ = some (.int .i64 m) ∧ w'.cell? (pd.add q) = some (.int .i64 y) ∧ Below W1.heap.size W1 w') w') := by
          rintro W' ⟨g1, g2, g3, g4, g5⟩
          refine (bend_any (.slice (some ad) n c) b m y t W').mono ?_
          rintro e w' ⟨he, o, rfl⟩
          exact ⟨by rw [he, HDE.out], cellA o g1, cellA o g2, cellA o g3, cellA o g4, g5.alloc g5.size _⟩
        clear hde hy hq hR c2 hSb2
        go_wp2
        refine wp_region_held_drew (S := (fun w' : World => w'.cell? ⟨g, 0, none⟩ = some (.slice (some ad) n c) ∧ w'.cell? ⟨g, 1, none⟩ = some (.int .i64 b) ∧ w'.cell? ⟨g, 2, none⟩ = some (.int .i64 m) ∧ w'.cell? (pd.add q) = some (.int .i64 y) ∧ Below W1.heap.size W1 w')) (by kernel_rfl) ?_ ?_
        · first | exact hs2 | exact HS0.out
        intro hHeld
        refine wpAnyH_take (i := 0) (v := ?_) rfl (by kernel_rfl) (by kernel_rfl) (by kernel_rfl) (fun _ _ _ h => h) (Or.inl ⟨by rfl, ?_⟩) (by assumption) ?_
        rotate_left
        · intro w hSw; (try dsimp only at hSw); go_simp; (try (with_reducible rfl))
        try simp only [List.getElem_toArray, List.getElem_cons_succ, List.getElem_cons_zero, Act.put, List.setIfInBounds_toArray, List.set_cons_zero, List.set_cons_succ]
        refine wpAnyH_take (i := 1) (v := ?_) rfl (by kernel_rfl) (by kernel_rfl) (by kernel_rfl) (fun _ _ _ h => h) (Or.inl ⟨by rfl, ?_⟩) (by assumption) ?_
        rotate_left
        · intro w hSw; (try dsimp only at hSw); go_simp; (try (with_reducible rfl))
        try simp only [List.getElem_toArray, List.getElem_cons_succ, List.getElem_cons_zero, Act.put, List.setIfInBounds_toArray, List.set_cons_zero, List.set_cons_succ]
        refine wpAnyH_take (i := 2) (v := ?_) rfl (by kernel_rfl) (by kernel_rfl) (by kernel_rfl) (fun _ _ _ h => h) (Or.inl ⟨by rfl, ?_⟩) (by assumption) ?_
        rotate_left
        · intro w hSw; (try dsimp only at hSw); go_simp; (try (with_reducible rfl))
        try simp only [List.getElem_toArray, List.getElem_cons_succ, List.getElem_cons_zero, Act.put, List.setIfInBounds_toArray, List.set_cons_zero, List.set_cons_succ]
        refine wpAnyH_take (i := 3) (v := ?_) rfl (by kernel_rfl) (by kernel_rfl) (by kernel_rfl) (fun _ _ _ h => h) (Or.inl ⟨by rfl, ?_⟩) (by assumption) ?_
        rotate_left
        · intro w hSw; (try dsimp only at hSw); go_simp; (try (with_reducible rfl))
        try simp only [List.getElem_toArray, List.getElem_cons_succ, List.getElem_cons_zero, Act.put, List.setIfInBounds_toArray, List.set_cons_zero, List.set_cons_succ]
        refine wpAnyH_take (i := 4) (v := ?_) rfl (by kernel_rfl) (by kernel_rfl) (by kernel_rfl) (fun _ _ _ h => h) (Or.inl ⟨by rfl, ?_⟩) (by assumption) ?_
        rotate_left
        · intro w hSw; (try dsimp only at hSw); go_simp; (try (with_reducible rfl))
        try simp only [List.getElem_toArray, List.getElem_cons_succ, List.getElem_cons_zero, Act.put, List.setIfInBounds_toArray, List.set_cons_zero, List.set_cons_succ]
        refine wpAnyH_take (i := 5) (v := ?_) rfl (by kernel_rfl) (by kernel_rfl) (by kernel_rfl) (fun _ _ _ h => h) (Or.inl ⟨by rfl, ?_⟩) (by assumption) ?_
        rotate_left
        · intro w hSw; (try dsimp only at hSw); go_simp; (try (with_reducible rfl))
        try simp only [List.getElem_toArray, List.getElem_cons_succ, List.getElem_cons_zero, Act.put, List.setIfInBounds_toArray, List.set_cons_zero, List.set_cons_succ]
        refine wpAnyH_take (i := 6) (v := ?_) rfl (by kernel_rfl) (by kernel_rfl) (by kernel_rfl) (fun _ _ _ h => h) (Or.inl ⟨by rfl, ?_⟩) (by assumption) ?_
        rotate_left
        · intro w hSw; (try dsimp only at hSw); go_simp; (try (with_reducible rfl))
        try simp only [List.getElem_toArray, List.getElem_cons_succ, List.getElem_cons_zero, Act.put, List.setIfInBounds_toArray, List.set_cons_zero, List.set_cons_succ]
        refine wpAnyH_take (i := 7) (v := ?_) rfl (by kernel_rfl) (by kernel_rfl) (by kernel_rfl) (fun _ _ _ h => h) (Or.inl ⟨by rfl, ?_⟩) (by assumption) ?_
        rotate_left
        · intro w hSw; (try dsimp only at hSw); go_simp; (try (with_reducible rfl))
        try simp only [List.getElem_toArray, List.getElem_cons_succ, List.getElem_cons_zero, Act.put, List.setIfInBounds_toArray, List.set_cons_zero, List.set_cons_succ]
        refine wpAnyH_ready (rs := [8]) (by kernel_rfl) (by simp) ?_
        refine AllReadyH.cons rfl (fun K hK => ?_) AllReadyH.nil
        go_simp
        go_at_call 54; refine (CB.out _ hHeld).mono ?_; rintro e w' ⟨rfl, hs2⟩
        go_wp2_with fail
        refine hK.out _ _ ?_ (fun hHeld => ?_)
        · clear hK K; first | exact hs2 | exact HS0.out
        clear hK K
        try simp only [List.getElem_toArray, List.getElem_cons_succ, List.getElem_cons_zero, Act.put, List.setIfInBounds_toArray, List.set_cons_zero, List.set_cons_succ]
        refine wpAnyH_take (i := 9) (v := ?_) rfl (by kernel_rfl) (by kernel_rfl) (by kernel_rfl) (fun _ _ _ h => h) (Or.inl ⟨by rfl, ?_⟩) (by assumption) ?_
        rotate_left
        · intro w hSw; (try dsimp only at hSw); go_simp; (try (with_reducible rfl))
        try simp only [List.getElem_toArray, List.getElem_cons_succ, List.getElem_cons_zero, Act.put, List.setIfInBounds_toArray, List.set_cons_zero, List.set_cons_succ]
        refine wpAnyH_take (i := 10) (v := ?_) rfl (by kernel_rfl) (by kernel_rfl) (by kernel_rfl) (fun _ _ _ h => h) (Or.inl ⟨by rfl, ?_⟩) (by assumption) ?_
        rotate_left
        · intro w hSw; (try dsimp only at hSw); go_simp; (try (with_reducible rfl))
        try simp only [List.getElem_toArray, List.getElem_cons_succ, List.getElem_cons_zero, Act.put, List.setIfInBounds_toArray, List.set_cons_zero, List.set_cons_succ]
        refine wpAnyH_done (by kernel_rfl) ?_ _
        obtain ⟨_, _, _, _, hbl⟩ := hHeld
        have HBL := Lib.hid hbl
        clear hbl HS0 CB hz5 hz1 n0 n1 n2 c1 r1 r2
        go_wp2
        go_roundw
        case rel => exact ⟨j + 1, by omega, by go_num, by rw [HF.out], HBL.out⟩
        case measure => simp [intOf]; omega
    · obtain rfl : n = j := by omega
      go_wp2
      go_ret2
      exact ⟨rfl, HB2.out.trans (HX.out.mono HB2.out.size)⟩

set_option maxRecDepth 100000 in
set_option maxHeartbeats 1000000 in
theorem CostOf_err (A : Option Addr) (n c : Nat) (b : Int) (P : Option Addr) (k cp : Nat) (E : Int) (w : World) (hE : E ≠ 0)
    (hc : Calls Tryd.prog 53 #[.agg #[.slice A n c, .int .i64 b], .slice P k cp] (w.alloc (.cells #[.slice A n c, .int .i64 b] 53)) fun e w' => e = .returned (.tuple #[.agg #[.slice none 0 0, .int .i64 0, .int .i64 0], .int .i64 E]) ∧ Below (w.alloc (.cells #[.slice A n c, .int .i64 b] 53)).heap.size (w.alloc (.cells #[.slice A n c, .int .i64 b] 53)) w') :
    Calls Tryd.prog 20 #[.agg #[.slice A n c, .int .i64 b], .slice P k cp] w fun e w' => e = .returned (.tuple #[.int .i64 0, .int .i64 E]) ∧ Below w.heap.size w w' := by
  have hb0 : Below w.heap.size w (w.alloc (.cells #[.slice A n c, .int .i64 b] 53)) := (Below.refl _ w).alloc (Nat.le_refl _) _
  have CC := Lib.hid hc
  have HB0 := Lib.hid hb0
  have h1 : (E != 0) = true := by simpa using hE
  clear hc hb0 hE
  go_enter Tryd.func20, Tryd.ntmps20
  go_wp2_with fail
  refine CC.out.mono ?_
  rintro e w1 ⟨rfl, hb1⟩
  have HB1 : Hid (Below w.heap.size w w1) := HB0.out.trans (hb1.mono HB0.out.size)
  clear hb1 CC
  go_wp2
  go_ret2
  exact ⟨rfl, HB1.out.alloc HB1.out.size _⟩

/-- What a task and a path need: a first row, and its length. -/
theorem task_parts {A : Option Addr} {n : Nat} {rows : List (List Int)} {b : Int} {w : World} (hr : RdG w A n rows) (hE : taskE rows b = 0) :
    ∃ ad m c' B, A = some ad ∧ colsOf rows = m ∧ 0 < n ∧ n ≤ 40 ∧ 0 < m ∧ m ≤ 12 ∧ ad.block < w.heap.size ∧ w.cell? ad = some (.slice B m c') ∧ (0 ≤ b ∧ b ≤ 1000) ∧ ∀ r ∈ rows, r.length = m ∧ ∀ x ∈ r, 0 ≤ x ∧ x ≤ 255 := by
  obtain ⟨hg, hbb⟩ := task_ok hE
  obtain ⟨m, g1, g2, g3, g4, g5, g6⟩ := grid_ok hg
  have hln := hr.1
  obtain ⟨ad, rfl, hadb, hc⟩ := hr.2 (by omega)
  obtain ⟨B, m', c', hck, hrow, _⟩ := hc 0 (by omega)
  obtain rfl : m' = m := by rw [← hrow.1, g5]
  rw [addZ] at hck
  exact ⟨ad, m', c', B, rfl, g5, by omega, by omega, g2, g4, hadb, hck, hbb, row_bounds g6⟩

theorem CostOf_any (A : Option Addr) (n c : Nat) (rows : List (List Int)) (b : Int) (P : Option Addr) (k cp : Nat) (path : List Int) (w : World) (hr : RdG w A n rows) (hn : n ≤ 1000000) (hp : RdI w P k path) (hk : k ≤ 1000000) :
    Calls Tryd.prog 20 #[.agg #[.slice A n c, .int .i64 b], .slice P k cp] w fun e w' => e = .returned (.tuple #[.int .i64 (if cstE rows b n path = 0 then costF rows b path n else 0), .int .i64 (cstE rows b n path)]) ∧ Below w.heap.size w w' := by
  have hb0 : Below w.heap.size w (w.alloc (.cells #[.slice A n c, .int .i64 b] 53)) := (Below.refl _ w).alloc (Nat.le_refl _) _
  by_cases hE : taskE rows b = 0
  · have hc : cstE rows b n path = pathE n (colsOf rows) path := by unfold cstE; rw [if_pos hE]
    obtain ⟨ad, m, c', B, rfl, hcm, h0, h40, hm0, hm12, hadb, hck, hbb, hg⟩ := task_parts hr hE
    rw [hc, hcm]
    by_cases hpe : pathE n m path = 0
    · rw [if_pos hpe, hpe]
      have hkn : k = n := by rw [← hp.1, (path_in hpe).1]
      subst hkn
      exact CostOf_ok ad k c m c' B rows b P cp path w hr ⟨h0, hn⟩ (by omega) hadb hck hp hE hpe hbb hg
    · rw [if_neg hpe]
      exact CostOf_err (some ad) n c b P k cp _ w hpe (checkedWith_err2 ad n c m c' B rows b P k cp path _ (hr.below hb0) ⟨h0, hn⟩ (by omega) hk (Nat.lt_of_lt_of_le hadb hb0.size) ((hb0.cell hadb).trans hck) (hp.below hb0) hE hpe)
  · have hc : cstE rows b n path = taskE rows b := by unfold cstE; rw [if_neg hE]
    rw [hc, if_neg hE]
    exact CostOf_err A n c b P k cp _ w hE (checkedWith_err1 A n c rows b P k cp _ (hr.below hb0) hn hE)

end Go.Proofs.YtofdjapbofagiaaDoor

