import Derived.Test.YtmeddnpahkigeaaDoorW71
namespace Go.Proofs.YtmeddnpahkigeaaDoor
open Go.RowKit

theorem getD_out (l : List Int) (k : Nat) (h : l.length ≤ k) : l.getD k 0 = 0 := by
  rw [List.getD_eq_getElem?_getD, List.getElem?_eq_none h]; rfl
theorem len_consT {α : Type} (l : List α) (n : Nat) (h : l.length = n + 1) : ∃ a r, l = a :: r ∧ r.length = n := by
  cases l with
  | nil => simp at h
  | cons a r => exact ⟨a, r, rfl, by simpa using h⟩
/-- The first k samples of block i, then zeros. -/
def part8 (xs : List Int) (i k : Nat) : List Int := (List.range 8).map fun j => if j < k then xs.getD (i * 8 + j) 0 else 0
theorem part8_length (xs : List Int) (i k : Nat) : (part8 xs i k).length = 8 := by simp [part8]
theorem part8_at (xs : List Int) (i k j : Nat) (hj : j < 8) : (part8 xs i k).getD j 0 = if j < k then xs.getD (i * 8 + j) 0 else 0 := by
  simp [part8, List.getD_eq_getElem?_getD, hj]
theorem part8_step (xs : List Int) (i k : Nat) : (part8 xs i k).set k (xs.getD (i * 8 + k) 0) = part8 xs i (k + 1) := by
  apply List.ext_getElem (by simp [part8])
  intro j h1 h2
  rw [List.getElem_set]
  simp only [part8, List.getElem_map, List.getElem_range]
  by_cases e : k = j
  · subst e; simp
  · rw [if_neg e]
    by_cases h : j < k
    · rw [if_pos h, if_pos (by omega)]
    · rw [if_neg h, if_neg (by omega)]
theorem part8_end (xs : List Int) (i k : Nat) (h : xs.length ≤ i * 8 + k) : part8 xs i k = part8 xs i 8 := by
  apply List.ext_getElem (by simp [part8])
  intro j h1 h2
  simp only [part8, List.getElem_map, List.getElem_range]
  have hj : j < 8 := by simpa [part8] using h1
  by_cases e : j < k
  · rw [if_pos e, if_pos hj]
  · rw [if_neg e, if_pos hj, getD_out _ _ (by omega)]
theorem part8_zero (xs : List Int) (i : Nat) : part8 xs i 0 = [0, 0, 0, 0, 0, 0, 0, 0] := by simp [part8, List.range, List.range.loop]
theorem bl_set (c h : Int) (ys : List Int) (s v : Int) (k : Nat) (hl : ys.length = 8) (hk : k < 8) : (Bl.mk c h ys s).arr.setIfInBounds (2 + k) (.int .i64 v) = (Bl.mk c h (ys.set k v) s).arr := by
  obtain ⟨a0, t0, rfl, l0⟩ := len_consT ys 7 hl
  obtain ⟨a1, t1, rfl, l1⟩ := len_consT t0 6 l0
  obtain ⟨a2, t2, rfl, l2⟩ := len_consT t1 5 l1
  obtain ⟨a3, t3, rfl, l3⟩ := len_consT t2 4 l2
  obtain ⟨a4, t4, rfl, l4⟩ := len_consT t3 3 l3
  obtain ⟨a5, t5, rfl, l5⟩ := len_consT t4 2 l4
  obtain ⟨a6, t6, rfl, l6⟩ := len_consT t5 1 l5
  obtain ⟨a7, t7, rfl, l7⟩ := len_consT t6 0 l6
  obtain rfl := List.eq_nil_of_length_eq_zero l7
  match k, hk with
  | 0, _ => rfl
  | 1, _ => rfl
  | 2, _ => rfl
  | 3, _ => rfl
  | 4, _ => rfl
  | 5, _ => rfl
  | 6, _ => rfl
  | 7, _ => rfl
theorem bl_at (c h : Int) (ys : List Int) (s : Int) (k : Nat) (hk : k < 8) : (Bl.mk c h ys s).arr[2 + k]? = some (.int .i64 (ys.getD k 0)) := by
  match k, hk with
  | 0, _ => rfl
  | 1, _ => rfl
  | 2, _ => rfl
  | 3, _ => rfl
  | 4, _ => rfl
  | 5, _ => rfl
  | 6, _ => rfl
  | 7, _ => rfl
/-- Block i of a signal. -/
def blkX (xs : List Int) (h c : Int) (i : Nat) : Bl := ⟨c + i, h, part8 xs i 8, sumT (c + i) h (part8 xs i 8)⟩
def blksX (xs : List Int) (h c : Int) (k : Nat) : List Bl := (List.range k).map (blkX xs h c)
def blCells (bs : List Bl) : List Value := bs.flatMap fun b => b.arr.toList
theorem blksX_length (xs : List Int) (h c : Int) (k : Nat) : (blksX xs h c k).length = k := by simp [blksX]
theorem blksX_succ (xs : List Int) (h c : Int) (k : Nat) : blksX xs h c (k + 1) = blksX xs h c k ++ [blkX xs h c k] := by simp [blksX, List.range_succ]
theorem blCells_snoc (bs : List Bl) (b : Bl) : blCells (bs ++ [b]) = blCells bs ++ b.arr.toList := by simp [blCells]
theorem blCells_len (bs : List Bl) : (blCells bs).length = bs.length * 11 := by
  induction bs with
  | nil => rfl
  | cons b t ih => simp only [blCells, List.flatMap_cons, List.length_append, List.length_cons] at ih ⊢; rw [ih]; simp [Bl.arr, bkA]; omega
theorem blkInfo : (Tryd.prog.info? 67).map (fun i => (i.zero, i.size, i.bytes)) = some (some (.agg #[.int .i64 0, .int .i64 0, .int .i64 0, .int .i64 0, .int .i64 0, .int .i64 0, .int .i64 0, .int .i64 0, .int .i64 0, .int .i64 0, .int .i64 0]), 11, 88) := by kernel_rfl
theorem part8_bnd (xs : List Int) (i : Nat) (h : Bnd xs 32767) : Bnd [(part8 xs i 8).getD 0 0, (part8 xs i 8).getD 1 0, (part8 xs i 8).getD 2 0, (part8 xs i 8).getD 3 0, (part8 xs i 8).getD 4 0, (part8 xs i 8).getD 5 0, (part8 xs i 8).getD 6 0, (part8 xs i 8).getD 7 0] 32767 := by
  intro j
  have h2 : ∀ j, -32767 ≤ (part8 xs i 8).getD j 0 ∧ (part8 xs i 8).getD j 0 ≤ 32767 := fun j => by
    by_cases hj : j < 8
    · rw [part8_at xs i 8 j hj, if_pos hj]; exact h _
    · rw [getD_out _ _ (by rw [part8_length]; omega)]; decide
  match j with
  | 0 => exact h2 0
  | 1 => exact h2 1
  | 2 => exact h2 2
  | 3 => exact h2 3
  | 4 => exact h2 4
  | 5 => exact h2 5
  | 6 => exact h2 6
  | 7 => exact h2 7
  | j + 8 => simp


theorem new11 (w : World) (arr : Array Value) (t : TypeId) : ∀ j u, arr.toList[j]? = some u → (w.alloc (.cells arr t)).cell? ((⟨w.heap.size, 0, none⟩ : Addr).add j) = some u := by
  intro j u hj
  rw [Addr.add_mid, Nat.zero_add, cell_of_row _ _ _ _ _ (0, 0) (heap_alloc_new w _)]
  simpa using hj

theorem eight_eq (ys : List Int) (hl : ys.length = 8) : [ys.getD 0 0, ys.getD 1 0, ys.getD 2 0, ys.getD 3 0, ys.getD 4 0, ys.getD 5 0, ys.getD 6 0, ys.getD 7 0] = ys := by
  obtain ⟨a0, t0, rfl, l0⟩ := len_consT ys 7 hl
  obtain ⟨a1, t1, rfl, l1⟩ := len_consT t0 6 l0
  obtain ⟨a2, t2, rfl, l2⟩ := len_consT t1 5 l1
  obtain ⟨a3, t3, rfl, l3⟩ := len_consT t2 4 l2
  obtain ⟨a4, t4, rfl, l4⟩ := len_consT t3 3 l3
  obtain ⟨a5, t5, rfl, l5⟩ := len_consT t4 2 l4
  obtain ⟨a6, t6, rfl, l6⟩ := len_consT t5 1 l5
  obtain ⟨a7, t7, rfl, l7⟩ := len_consT t6 0 l6
  obtain rfl := List.eq_nil_of_length_eq_zero l7
  rfl

theorem ownBelowT {w w' : World} {base : Nat} {e : TypeId} {size : Nat} {v : Value} {n : Nat} {xs : List Value} (h : w.ownsRow base e size v n xs) (hb : Below w.heap.size w w') : w'.ownsRow base e size v n xs := by
  refine ⟨h.1, ?_⟩
  rcases h.2 with h0 | ⟨g, cap, cur, h1, h2, h3, h4⟩
  · exact .inl h0
  · exact .inr ⟨g, cap, cur, h1, h2, (hb.block g (Array.getElem?_eq_some_iff.1 h3).1).trans h3, h4⟩
theorem own_formT {w : World} {base size n : Nat} {t : TypeId} {v : Value} {xs : List Value} (h : w.ownsRow base t size v n xs) : ∃ A cap, v = .slice A n cap ∧ (0 < n → ∃ g, A = some ⟨g, 0, none⟩) := by
  rcases h.2 with ⟨rfl, rfl⟩ | ⟨g, cap, cur, rfl, _⟩
  · exact ⟨none, 0, rfl, fun h => absurd h (by omega)⟩
  · exact ⟨_, cap, rfl, fun _ => ⟨g, rfl⟩⟩
set_option maxRecDepth 100000 in
set_option maxHeartbeats 2000000 in
theorem refBlocksOf_any (A : Option Addr) (n cp : Nat) (xs : List Int) (h c : Int) (w : World) (hr : RdI w A n xs) (hx : Bnd xs 32767) (hn : n ≤ 330) (hh : 0 ≤ h ∧ h ≤ 3) (hc : 0 ≤ c ∧ c + ((cntN n - 1 : Nat) : Int) ≤ 65535) :
    Calls Tryd.prog 12 #[.slice A n cp, .agg #[.int .i64 h, .int .i64 c]] w fun e w' => (∃ v, e = .returned v ∧ w'.ownsRow (w.heap.size + 1) 67 11 v (cntN n) (blCells (blksX xs h c (cntN n)))) ∧ Below w.heap.size w w' := by
  obtain ⟨i0, hi0, hz0, hz1, hz2⟩ := info_parts blkInfo
  have HR := Lib.hid hr; clear hr
  have HX := Lib.hid hx; clear hx
  have hk : cntN n ≤ 50 := by unfold cntN; omega
  have hkn : ∀ i, i < cntN n → i * 8 < n := fun i hi => by unfold cntN at hi; omega
  have HKN := Lib.hid hkn
  have CC : Hid (∀ W, Calls Tryd.prog 47 #[.slice A n cp] W fun e w' => e = .returned (.int .i64 (cntN n)) ∧ W = w') := fun W => count_any A n cp (by omega) W
  obtain ⟨k, hkk⟩ : ∃ k, cntN n = k := ⟨_, rfl⟩
  rw [hkk] at hk CC HKN hc ⊢
  clear hkk hkn
  have hm : ∀ j : Nat, j < k → 0 ≤ c + (j : Int) ∧ c + (j : Int) ≤ 65535 := fun j hj => by omega
  have HM := Lib.hid hm
  clear hm hc
  obtain ⟨w1, hw1⟩ : ∃ W, w.alloc (.cells #[.int .i64 h, .int .i64 c] 24) = W := ⟨_, rfl⟩
  have hB0 : Hid (Below w.heap.size w w1) := by show Below _ _ _; rw [← hw1]; exact (Below.refl _ _).alloc (Nat.le_refl _) _
  have hs1 : w1.heap.size = w.heap.size + 1 := by rw [← hw1]; simp
  have hbx : Hid (Bk w1 w.heap.size 24 #[.int .i64 h, .int .i64 c]) := by show Bk _ _ _ _; rw [← hw1]; exact Bk.new _ _ _
  go_enter Tryd.func12, Tryd.ntmps12
  go_wp2
  try rw [hw1]
  clear hw1
  go_loopw [5, 6, 7, 8] (fun v i _ _ wr => ∃ j : Nat, j ≤ k ∧ i = .int .i64 j ∧ Hid (wr.ownsRow w1.heap.size 67 11 v j (blCells (blksX xs h c j)) ∧ Below w1.heap.size w1 wr)) (fun _ i _ _ _ => k - (intOf i).toNat)
  case atStart => exact ⟨0, Nat.zero_le _, rfl, World.ownsRow_nil _ _ _ _, Below.refl _ _⟩
  case round =>
    obtain ⟨j, hj, rfl, HI⟩ := hrel
    obtain ⟨Ac, ca, rfl, _⟩ := own_formT HI.out.1
    have hsz : w1.heap.size ≤ wr.heap.size := HI.out.2.size
    by_cases hlt : j < k
    · have hjI : (j : Int) < (k : Int) := by omega
      have hmj := HM.out j hlt
      have hbj := hbx.out.below HI.out.2 (by omega)
      have z0 : wr.cell? ⟨w.heap.size, 0, none⟩ = some (.int .i64 h) := by rw [hbj.cell]; rfl
      have z1 : wr.cell? ⟨w.heap.size, 1, none⟩ = some (.int .i64 c) := by rw [hbj.cell]; rfl
      clear hbj
      go_wp2_with (go_at_call 47; refine (CC.out _).mono ?_; rintro e w' ⟨rfl, rfl⟩)
      obtain ⟨wA, hwA⟩ : ∃ W, W = wr := ⟨_, rfl⟩
      subst hwA
      obtain ⟨g, hg⟩ : ∃ g, wA.heap.size = g := ⟨_, rfl⟩
      obtain ⟨w2, hw2⟩ : ∃ W, (wA.alloc (.cells #[.int .i64 (c + (j : Int)), .int .i64 h, .int .i64 0, .int .i64 0, .int .i64 0, .int .i64 0, .int .i64 0, .int .i64 0, .int .i64 0, .int .i64 0, .int .i64 0] 67)) = W := ⟨_, rfl⟩
      have hbk : Hid (Bk w2 g 67 (Bl.mk (c + (j : Int)) h (part8 xs j 0) 0).arr) := by
        show Bk _ _ _ _
        rw [← hw2, ← hg, part8_zero]
        exact Bk.new _ _ _
      have hb2 : Hid (Below g wA w2) := by show Below _ _ _; rw [← hw2, ← hg]; exact (Below.refl _ _).alloc (Nat.le_refl _) _
      have hg2 : g < w2.heap.size := hbk.out.lt
      rw [hw2, hg]
      try rw [hg] at hsz
      have HG := Lib.hid hg
      have HW1 : Hid (Below w1.heap.size w1 wA) := HI.out.2
      have HOW : Hid (wA.ownsRow w1.heap.size 67 11 (.slice Ac j ca) j (blCells (blksX xs h c j))) := HI.out.1
      clear hw2 hg HI
      go_loopw [8] (fun i W => ∃ m : Nat, m ≤ 8 ∧ i = .int .i64 m ∧ Hid (Bk W g 67 (Bl.mk (c + (j : Int)) h (part8 xs j m) 0).arr) ∧ Hid (Below g wA W)) (fun i _ => 8 - (intOf i).toNat)
      case atStart => exact ⟨0, Nat.zero_le _, rfl, hbk.out, hb2.out⟩
      case round =>
        clear hbk hb2 hg2
        obtain ⟨m, hm8, rfl, hbk, hb2⟩ := hrel
        have hj50 : j ≤ 50 := by omega
        have HBW : Hid (Below w.heap.size w wr) := hB0.out.trans ((HW1.out.mono (by omega)).trans (hb2.out.mono (by have := HG.out; omega)))
        by_cases hin : m < 8 ∧ j * 8 + m < n
        · obtain ⟨hm7, hmn⟩ := hin
          obtain ⟨ad, rfl, _, hcx⟩ := (HR.out.below HBW.out).2 (by omega)
          have hck := hcx (j * 8 + m) hmn
          obtain ⟨x, hx⟩ : ∃ x, xs.getD (j * 8 + m) 0 = x := ⟨_, rfl⟩
          rw [hx] at hck
          have hold : wr.cell? ⟨g, 2 + m, none⟩ = some (.int .i64 ((part8 xs j m).getD m 0)) := by rw [hbk.out.cell]; exact bl_at _ _ _ _ m hm7
          have hfr : wr.frozen? ⟨g, 2 + m, none⟩ = false := hbk.out.frozen _
          obtain ⟨o, ho⟩ : ∃ o, (part8 xs j m).getD m 0 = o := ⟨_, rfl⟩
          rw [ho] at hold
          have FIN : Hid (Bk (wr.setCell ⟨g, 2 + m, none⟩ (.int .i64 x)) g 67 (Bl.mk (c + (j : Int)) h (part8 xs j (m + 1)) 0).arr ∧ Below g wA (wr.setCell ⟨g, 2 + m, none⟩ (.int .i64 x))) := by
            refine ⟨?_, hb2.out.setCell (by simp) _⟩
            rw [← part8_step, hx, ← bl_set _ _ _ _ _ m (part8_length _ _ _) hm7]
            exact hbk.out.set_ _ _
          have hmI : (m : Int) < 8 := by omega
          have hmnI : (j : Int) * 8 + (m : Int) < (n : Int) := by omega
          clear ho hx hcx hbk hb2
          go_wp2
          go_roundw
          case rel => exact ⟨m + 1, by omega, by go_num, FIN.out.1, FIN.out.2⟩
          case measure => simp [intOf]; omega
        · have hend : Hid (part8 xs j m = part8 xs j 8) := by
            show _ = _
            by_cases h8 : m = 8
            · rw [h8]
            · exact part8_end xs j m (by have := HR.out.1; omega)
          have hb8 : Hid (Bk wr g 67 (Bl.mk (c + (j : Int)) h (part8 xs j 8) 0).arr) := by show Bk _ _ _ _; rw [← hend.out]; exact hbk.out
          have hbn := part8_bnd xs j HX.out
          have hei := eight_eq (part8 xs j 8) (part8_length xs j 8)
          have HBL : Hid (blkX xs h c j = ⟨c + (j : Int), h, part8 xs j 8, sumT (c + (j : Int)) h (part8 xs j 8)⟩) := rfl
          obtain ⟨ys, hys⟩ : ∃ ys, part8 xs j 8 = ys := ⟨_, rfl⟩
          rw [hys] at hb8 hbn hei HBL
          have hb8 : Hid (Bk wr g 67 #[.int .i64 (c + (j : Int)), .int .i64 h, .int .i64 (ys.getD 0 0), .int .i64 (ys.getD 1 0), .int .i64 (ys.getD 2 0), .int .i64 (ys.getD 3 0), .int .i64 (ys.getD 4 0), .int .i64 (ys.getD 5 0), .int .i64 (ys.getD 6 0), .int .i64 (ys.getD 7 0), .int .i64 0]) := hb8.out
          have HBA : Hid ((blkX xs h c j).arr.toList = [.int .i64 (c + (j : Int)), .int .i64 h, .int .i64 (ys.getD 0 0), .int .i64 (ys.getD 1 0), .int .i64 (ys.getD 2 0), .int .i64 (ys.getD 3 0), .int .i64 (ys.getD 4 0), .int .i64 (ys.getD 5 0), .int .i64 (ys.getD 6 0), .int .i64 (ys.getD 7 0), .int .i64 (sumT (c + (j : Int)) h ys)]) := by show _ = _; rw [HBL.out]; rfl
          have CS : Hid (∀ W, Calls Tryd.prog 50 #[.agg #[.int .i64 (c + (j : Int)), .int .i64 h, .int .i64 (ys.getD 0 0), .int .i64 (ys.getD 1 0), .int .i64 (ys.getD 2 0), .int .i64 (ys.getD 3 0), .int .i64 (ys.getD 4 0), .int .i64 (ys.getD 5 0), .int .i64 (ys.getD 6 0), .int .i64 (ys.getD 7 0), .int .i64 0]] W fun e w' => e = .returned (.int .i64 (sumT (c + (j : Int)) h ys)) ∧ Below W.heap.size W w') := fun W => by
            have := refSumOf_ok (c + (j : Int)) h (ys.getD 0 0) (ys.getD 1 0) (ys.getD 2 0) (ys.getD 3 0) (ys.getD 4 0) (ys.getD 5 0) (ys.getD 6 0) (ys.getD 7 0) 0 W hmj hh hbn
            rw [hei] at this
            exact this
          clear hbn hei HBL hend hbk hys
          obtain ⟨sm, hsm⟩ : ∃ sm, sumT (c + (j : Int)) h ys = sm := ⟨_, rfl⟩
          rw [hsm] at CS HBA
          clear hsm
          generalize ys.getD 0 0 = y0 at *
          generalize ys.getD 1 0 = y1 at *
          generalize ys.getD 2 0 = y2 at *
          generalize ys.getD 3 0 = y3 at *
          generalize ys.getD 4 0 = y4 at *
          generalize ys.getD 5 0 = y5 at *
          generalize ys.getD 6 0 = y6 at *
          generalize ys.getD 7 0 = y7 at *
          have d0 : wr.cell? ⟨g, 0, none⟩ = some (.int .i64 (c + (j : Int))) := by rw [hb8.out.cell]; rfl
          have d1 : wr.cell? ⟨g, 1, none⟩ = some (.int .i64 h) := by rw [hb8.out.cell]; rfl
          have d2 : wr.cell? ⟨g, 2, none⟩ = some (.int .i64 y0) := by rw [hb8.out.cell]; rfl
          have d3 : wr.cell? ⟨g, 3, none⟩ = some (.int .i64 y1) := by rw [hb8.out.cell]; rfl
          have d4 : wr.cell? ⟨g, 4, none⟩ = some (.int .i64 y2) := by rw [hb8.out.cell]; rfl
          have d5 : wr.cell? ⟨g, 5, none⟩ = some (.int .i64 y3) := by rw [hb8.out.cell]; rfl
          have d6 : wr.cell? ⟨g, 6, none⟩ = some (.int .i64 y4) := by rw [hb8.out.cell]; rfl
          have d7 : wr.cell? ⟨g, 7, none⟩ = some (.int .i64 y5) := by rw [hb8.out.cell]; rfl
          have d8 : wr.cell? ⟨g, 8, none⟩ = some (.int .i64 y6) := by rw [hb8.out.cell]; rfl
          have d9 : wr.cell? ⟨g, 9, none⟩ = some (.int .i64 y7) := by rw [hb8.out.cell]; rfl
          have d10 : wr.cell? ⟨g, 10, none⟩ = some (.int .i64 0) := by rw [hb8.out.cell]; rfl
          have hgl : g < wr.heap.size := hb8.out.lt
          have HB8 := hb8
          have hj0 : j * 8 ≤ 400 := by omega
          have rest : True := trivial
          by_cases h8 : m = 8
          · subst h8
            go_wp2_with fail
            refine (CS.out _).mono ?_
            rintro e w4 ⟨rfl, hb4⟩
            have hb84 := hb8.out.below hb4 hgl
            have hlt4 : g < w4.heap.size := hb84.lt
            have hB4 : Hid (Below g wA w4) := hb2.out.trans (hb4.mono (by omega))
            clear hb4 d0 d1 d2 d3 d4 d5 d6 d7 d8 d9 d10
            have e0 : w4.cell? ⟨g, 0, none⟩ = some (.int .i64 (c + (j : Int))) := by rw [hb84.cell]; rfl
            have e1 : w4.cell? ⟨g, 1, none⟩ = some (.int .i64 h) := by rw [hb84.cell]; rfl
            have e2 : w4.cell? ⟨g, 2, none⟩ = some (.int .i64 y0) := by rw [hb84.cell]; rfl
            have e3 : w4.cell? ⟨g, 3, none⟩ = some (.int .i64 y1) := by rw [hb84.cell]; rfl
            have e4 : w4.cell? ⟨g, 4, none⟩ = some (.int .i64 y2) := by rw [hb84.cell]; rfl
            have e5 : w4.cell? ⟨g, 5, none⟩ = some (.int .i64 y3) := by rw [hb84.cell]; rfl
            have e6 : w4.cell? ⟨g, 6, none⟩ = some (.int .i64 y4) := by rw [hb84.cell]; rfl
            have e7 : w4.cell? ⟨g, 7, none⟩ = some (.int .i64 y5) := by rw [hb84.cell]; rfl
            have e8 : w4.cell? ⟨g, 8, none⟩ = some (.int .i64 y6) := by rw [hb84.cell]; rfl
            have e9 : w4.cell? ⟨g, 9, none⟩ = some (.int .i64 y7) := by rw [hb84.cell]; rfl
            have e10 : w4.cell? ⟨g, 10, none⟩ = some (.int .i64 0) := by rw [hb84.cell]; rfl
            have efr : w4.frozen? ⟨g, 10, none⟩ = false := hb84.frozen _
            have HB5 : Hid (Below g wA (w4.setCell ⟨g, 10, none⟩ (.int .i64 sm))) := hB4.out.setCell (by simp) _
            have HO5 : Hid ((w4.setCell ⟨g, 10, none⟩ (.int .i64 sm)).ownsRow w1.heap.size 67 11 (.slice Ac j ca) j (blCells (blksX xs h c j))) := ownBelowT HOW.out (by rw [HG.out]; exact HB5.out)
            have hz5 : w1.heap.size ≤ (w4.setCell ⟨g, 10, none⟩ (.int .i64 sm)).heap.size := Nat.le_trans hsz (Nat.le_trans (by have := HG.out; omega) HB5.out.size)
            clear hB4 hb84
            have hsz4 : (w4.setCell ⟨g, 10, none⟩ (.int .i64 sm)).heap.size = w4.heap.size := by simp
            have HN11 : Hid (∀ i u, [.int .i64 (c + (j : Int)), .int .i64 h, .int .i64 y0, .int .i64 y1, .int .i64 y2, .int .i64 y3, .int .i64 y4, .int .i64 y5, .int .i64 y6, .int .i64 y7, .int .i64 sm][i]? = some u → ((w4.setCell ⟨g, 10, none⟩ (.int .i64 sm)).alloc (.cells #[.int .i64 (c + (j : Int)), .int .i64 h, .int .i64 y0, .int .i64 y1, .int .i64 y2, .int .i64 y3, .int .i64 y4, .int .i64 y5, .int .i64 y6, .int .i64 y7, .int .i64 sm] 67)).cell? ((⟨w4.heap.size, 0, none⟩ : Addr).add i) = some u) := by
              show ∀ i u, _ → _
              rw [← hsz4]
              exact new11 _ #[.int .i64 (c + (j : Int)), .int .i64 h, .int .i64 y0, .int .i64 y1, .int .i64 y2, .int .i64 y3, .int .i64 y4, .int .i64 y5, .int .i64 y6, .int .i64 y7, .int .i64 sm] _
            clear hsz4
            go_wp2_with (at_builtin; refine wpList_append_own _ rfl (.tmp 48) (.tmp 50) 26 rfl w1.heap.size 67 i0 _ 11 88 Tryd.underlying26 hi0 hz0 hz1 hz2 rfl (by decide) _ _ _ rfl (HO5.out.alloc _) ⟨w4.heap.size, 0, none⟩ 1 1 [.int .i64 (c + (j : Int)), .int .i64 h, .int .i64 y0, .int .i64 y1, .int .i64 y2, .int .i64 y3, .int .i64 y4, .int .i64 y5, .int .i64 y6, .int .i64 y7, .int .i64 sm] rfl rfl HN11.out (by simp [Value.oneCell']) (by unfold maxLen; omega) (by omega) (by simp at hz5 ⊢; omega) ?_)
            intro v' w6 hown' hgrow _
            have HFIN : Hid (w6.ownsRow w1.heap.size 67 11 v' (j + 1) (blCells (blksX xs h c (j + 1))) ∧ Below w1.heap.size w1 w6) := by
              refine ⟨?_, ((HW1.out.trans (HB5.out.mono (by have := HG.out; omega))).alloc hz5 _).grown hgrow (by simp at hz5 ⊢; omega) (fun z e => (HOW.out.lt z e).1)⟩
              rw [blksX_succ, blCells_snoc, HBA.out]
              first | exact hown' | (rw [hs1]; exact hown')
            clear hown' hgrow
            go_wp2
            go_roundw
            case rel => exact ⟨j + 1, by omega, by go_num, HFIN.out⟩
            case measure => simp [intOf]; omega
          · have hm7 : (m : Int) < 8 := by omega
            have hmn : ¬ (j : Int) * 8 + (m : Int) < (n : Int) := by omega
            go_wp2_with fail
            refine (CS.out _).mono ?_
            rintro e w4 ⟨rfl, hb4⟩
            have hb84 := hb8.out.below hb4 hgl
            have hlt4 : g < w4.heap.size := hb84.lt
            have hB4 : Hid (Below g wA w4) := hb2.out.trans (hb4.mono (by omega))
            clear hb4 d0 d1 d2 d3 d4 d5 d6 d7 d8 d9 d10
            have e0 : w4.cell? ⟨g, 0, none⟩ = some (.int .i64 (c + (j : Int))) := by rw [hb84.cell]; rfl
            have e1 : w4.cell? ⟨g, 1, none⟩ = some (.int .i64 h) := by rw [hb84.cell]; rfl
            have e2 : w4.cell? ⟨g, 2, none⟩ = some (.int .i64 y0) := by rw [hb84.cell]; rfl
            have e3 : w4.cell? ⟨g, 3, none⟩ = some (.int .i64 y1) := by rw [hb84.cell]; rfl
            have e4 : w4.cell? ⟨g, 4, none⟩ = some (.int .i64 y2) := by rw [hb84.cell]; rfl
            have e5 : w4.cell? ⟨g, 5, none⟩ = some (.int .i64 y3) := by rw [hb84.cell]; rfl
            have e6 : w4.cell? ⟨g, 6, none⟩ = some (.int .i64 y4) := by rw [hb84.cell]; rfl
            have e7 : w4.cell? ⟨g, 7, none⟩ = some (.int .i64 y5) := by rw [hb84.cell]; rfl
            have e8 : w4.cell? ⟨g, 8, none⟩ = some (.int .i64 y6) := by rw [hb84.cell]; rfl
            have e9 : w4.cell? ⟨g, 9, none⟩ = some (.int .i64 y7) := by rw [hb84.cell]; rfl
            have e10 : w4.cell? ⟨g, 10, none⟩ = some (.int .i64 0) := by rw [hb84.cell]; rfl
            have efr : w4.frozen? ⟨g, 10, none⟩ = false := hb84.frozen _
            have HB5 : Hid (Below g wA (w4.setCell ⟨g, 10, none⟩ (.int .i64 sm))) := hB4.out.setCell (by simp) _
            have HO5 : Hid ((w4.setCell ⟨g, 10, none⟩ (.int .i64 sm)).ownsRow w1.heap.size 67 11 (.slice Ac j ca) j (blCells (blksX xs h c j))) := ownBelowT HOW.out (by rw [HG.out]; exact HB5.out)
            have hz5 : w1.heap.size ≤ (w4.setCell ⟨g, 10, none⟩ (.int .i64 sm)).heap.size := Nat.le_trans hsz (Nat.le_trans (by have := HG.out; omega) HB5.out.size)
            clear hB4 hb84
            have hsz4 : (w4.setCell ⟨g, 10, none⟩ (.int .i64 sm)).heap.size = w4.heap.size := by simp
            have HN11 : Hid (∀ i u, [.int .i64 (c + (j : Int)), .int .i64 h, .int .i64 y0, .int .i64 y1, .int .i64 y2, .int .i64 y3, .int .i64 y4, .int .i64 y5, .int .i64 y6, .int .i64 y7, .int .i64 sm][i]? = some u → ((w4.setCell ⟨g, 10, none⟩ (.int .i64 sm)).alloc (.cells #[.int .i64 (c + (j : Int)), .int .i64 h, .int .i64 y0, .int .i64 y1, .int .i64 y2, .int .i64 y3, .int .i64 y4, .int .i64 y5, .int .i64 y6, .int .i64 y7, .int .i64 sm] 67)).cell? ((⟨w4.heap.size, 0, none⟩ : Addr).add i) = some u) := by
              show ∀ i u, _ → _
              rw [← hsz4]
              exact new11 _ #[.int .i64 (c + (j : Int)), .int .i64 h, .int .i64 y0, .int .i64 y1, .int .i64 y2, .int .i64 y3, .int .i64 y4, .int .i64 y5, .int .i64 y6, .int .i64 y7, .int .i64 sm] _
            clear hsz4
            go_wp2_with (at_builtin; refine wpList_append_own _ rfl (.tmp 48) (.tmp 50) 26 rfl w1.heap.size 67 i0 _ 11 88 Tryd.underlying26 hi0 hz0 hz1 hz2 rfl (by decide) _ _ _ rfl (HO5.out.alloc _) ⟨w4.heap.size, 0, none⟩ 1 1 [.int .i64 (c + (j : Int)), .int .i64 h, .int .i64 y0, .int .i64 y1, .int .i64 y2, .int .i64 y3, .int .i64 y4, .int .i64 y5, .int .i64 y6, .int .i64 y7, .int .i64 sm] rfl rfl HN11.out (by simp [Value.oneCell']) (by unfold maxLen; omega) (by omega) (by simp at hz5 ⊢; omega) ?_)
            intro v' w6 hown' hgrow _
            have HFIN : Hid (w6.ownsRow w1.heap.size 67 11 v' (j + 1) (blCells (blksX xs h c (j + 1))) ∧ Below w1.heap.size w1 w6) := by
              refine ⟨?_, ((HW1.out.trans (HB5.out.mono (by have := HG.out; omega))).alloc hz5 _).grown hgrow (by simp at hz5 ⊢; omega) (fun z e => (HOW.out.lt z e).1)⟩
              rw [blksX_succ, blCells_snoc, HBA.out]
              first | exact hown' | (rw [hs1]; exact hown')
            clear hown' hgrow
            go_wp2
            go_roundw
            case rel => exact ⟨j + 1, by omega, by go_num, HFIN.out⟩
            case measure => simp [intOf]; omega
    · obtain rfl : k = j := by omega
      go_wp2_with (go_at_call 47; refine (CC.out _).mono ?_; rintro e w' ⟨rfl, rfl⟩)
      go_ret
      exact ⟨⟨_, rfl, by rw [← hs1]; exact HI.out.1⟩, hB0.out.trans (HI.out.2.mono (by omega))⟩

end Go.Proofs.YtmeddnpahkigeaaDoor
