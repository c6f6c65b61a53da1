import Derived.Test.YtmeddnpahkigeaaDoorW87
namespace Go.Proofs.YtmeddnpahkigeaaDoor
open Go.RowKit
open Go.Shelf

/-- The first parities of data. -/
def parL (n : Nat) (ds : List (List Int)) (k : Nat) : List (List Int) := (List.range k).map fun (j : Nat) => parP ds (j : Int) (List.range n)
theorem parL_length (n : Nat) (ds : List (List Int)) (k : Nat) : (parL n ds k).length = k := by simp [parL]
theorem parL_succ (n : Nat) (ds : List (List Int)) (k : Nat) : parL n ds (k + 1) = parL n ds k ++ [parP ds (k : Int) (List.range n)] := by simp [parL, List.range_succ]
theorem parL_ok8 (n : Nat) (ds : List (List Int)) (k : Nat) : Ok8 (parL n ds k) := by
  induction k with
  | zero => exact Ok8.nil
  | succ k ih => rw [parL_succ]; exact ih.snoc (parP_length _ _ _)

theorem mixC_zero (ps : List (List Int)) (h8 : Ok8 ps) (j i : Nat) (r : Nat) (hj : ps.length = j) (hi : i < 8) : (mixC ps (r + 1))[j * 8 + i]? = some (.int .i64 0) := by
  have hl : (dCells ps).length = j * 8 := by rw [dCells_len ps h8, hj]
  unfold mixC
  rw [List.getElem?_toArray, List.getElem?_append_right (by omega), hl, Nat.add_sub_cancel_left, List.getElem?_replicate, if_pos (by omega)]

theorem own_full {w : World} {base g n size : Nat} {t : TypeId} {cs : Array Value} (h : w.ownsRow base t size (.slice (some ⟨g, 0, none⟩) n n) n cs.toList) (hz : cs.size = n * size) : Bk w g t cs := by
  rcases h.2 with ⟨h1, _⟩ | ⟨g', cap, cur, h1, _, hg, _, _, hs, ht⟩
  · cases h1
  · simp only [Value.slice.injEq, Option.some.injEq, Addr.mk.injEq] at h1
    obtain ⟨⟨rfl, _⟩, _, rfl⟩ := h1
    rw [List.take_of_length_le (by rw [Array.length_toList, hs]; exact Nat.le_refl _)] at ht
    have : cur = cs := by cases cur; cases cs; simpa using ht
    rw [← this]; exact hg

theorem RdD.of_bk {w : World} {g n : Nat} {ds : List (List Int)} (h : Bk w g 65 (mixC ds 0)) (hl : ds.length = n) (h8 : Ok8 ds) : RdD w (some ⟨g, 0, none⟩) n ds := by
  refine ⟨hl, h8, fun h0 => ⟨⟨g, 0, none⟩, rfl, h.lt, fun i k hi hk => ?_⟩⟩
  rw [Addr.add_mid, Addr.add_mid, Nat.zero_add, h.cell]
  unfold mixC
  simp only [Nat.zero_mul, List.replicate_zero, List.append_nil, List.getElem?_toArray]
  exact dCells_at ds h8 i k (by omega) hk

set_option maxRecDepth 100000 in
set_option maxHeartbeats 2000000 in
theorem parityOf_ok (A : Option Addr) (n c : Nat) (ds : List (List Int)) (count : Int) (w : World) (hr : RdD w A n ds) (hE : datE n ds count = 0) (K : Nat) (hK : (K : Int) = count) :
    Calls Tryd.prog 14 #[.slice A n c, .int .i64 count] w fun e w' => (∃ A3 c3, e = .returned (.tuple #[.slice A3 K c3, .int .i64 0]) ∧ RdD w' A3 K (parL n ds K)) ∧ Below w.heap.size w w' := by
  obtain ⟨hn1, hn2, hX, hc1, hc2⟩ := datE_parts hE
  subst hK
  have hK4 : K ≤ 4 := by omega
  have HR := Lib.hid hr
  have HF := Lib.hid (datE_first n ds (K : Int))
  have CD : Hid (∀ W : World, RdD W A n ds → Calls Tryd.prog 53 #[.slice A n c, .func (Fn.func 54) #[] #[]] W fun e w' => e = .returned (.int .i64 (dataE ds)) ∧ Below W.heap.size W w') := fun W h => checkEach8_any A n c ds W h (by omega)
  have CP : Hid (∀ (j : Nat) (W : World), j < K → RdD W A n ds → Calls Tryd.prog 56 #[.slice A n c, .int .i64 j] W fun e w' => e = .returned (.agg (iArr (parP ds (j : Int) (List.range n)))) ∧ Below W.heap.size W w') := fun j W hj h => parityOf_any A n c ds j W h hX (by omega) (by omega)
  obtain ⟨i0, hi0, hz0, hz1, hz2⟩ := info_parts arr8Info
  obtain ⟨r, hrr⟩ : ∃ r, dataE ds = r := ⟨_, rfl⟩
  rw [hE] at HF
  rw [hrr] at HF CD
  clear hrr hr hE hX
  go_enter Tryd.func14, Tryd.ntmps14
  go_wp2_with (first
    | (go_at_call 41; refine (when_any _ _ _).mono ?_; rintro e w' ⟨rfl, rfl⟩)
    | (go_at_call 53; refine (CD.out _ HR.out).mono ?_; rintro e w' ⟨rfl, hb⟩)
    | (go_at_call 55; refine (checkRange_any _ _ _ _).mono ?_; rintro e w' ⟨rfl, rfl⟩)
    | (go_at_call 40; refine (first4 _ _ _ _ _).mono ?_; rw [HF.out]; rintro e w' ⟨rfl, rfl⟩)
    | (with_reducible refine wpList_make_full _ rfl (.tmp 26) (.tmp 26) 35 rfl w.heap.size 65 i0 (.agg zero8) 8 Tryd.underlying35 hi0 hz0 hz1 .i64 .i64 (K : Int) (K : Int) K rfl rfl rfl rfl (by rw [hz2]; omega) (by unfold maxLen; omega) (by have := hb.size; simp; omega) ?_; intro w4 ho4 hg4))
  obtain ⟨g, hg⟩ : ∃ g, w'.heap.size + 1 = g := ⟨_, rfl⟩
  have hbk0 : Hid (Bk w4 g 65 (mixC (parL n ds 0) (K - 0))) := by
    show Bk _ _ _ _
    have h1 : Bk w4 (w'.heap.size + 1) 65 (madeCells (Value.agg zero8).cells (K * 8)) := own_full (by simpa using ho4) (by simp [madeCells])
    rw [made8, hg] at h1
    exact h1
  have hbw4 : Hid (Below w.heap.size w w4) := (hb.alloc hb.size _).grown hg4 (by have := hb.size; simp; omega) (fun k e => by cases e)
  have hgw : w.heap.size < g := by have := hb.size; omega
  rw [hg]
  clear ho4 hg4 hb hg
  go_loopw [30] (fun i wr => ∃ j : Nat, j ≤ K ∧ i = .int .i64 j ∧ Hid (Bk wr g 65 (mixC (parL n ds j) (K - j))) ∧ Hid (Below w.heap.size w wr)) (fun i _ => K - (intOf i).toNat)
  case atStart => exact ⟨0, Nat.zero_le _, rfl, hbk0, hbw4⟩
  case round =>
    clear hbk0 hbw4
    obtain ⟨j, hj, rfl, HK, HB⟩ := hrel
    by_cases hlt : j < K
    · have hjI : (j : Int) < (K : Int) := by omega
      have hR2 := HR.out.below HB.out
      obtain ⟨pp, hpp⟩ : ∃ pp, parP ds (j : Int) (List.range n) = pp := ⟨_, rfl⟩
      have CPj := CP.out j wr hlt hR2
      have hp8 : pp.length = 8 := by rw [← hpp]; exact parP_length _ _ _
      have hsu := parL_succ n ds j
      rw [hpp] at CPj hsu
      have hl8 := iArr8 pp hp8
      have hls := list8 pp hp8
      rw [hl8] at CPj
      obtain ⟨ps, hps⟩ : ∃ ps, parL n ds j = ps := ⟨_, rfl⟩
      have hpl : ps.length = j := by rw [← hps]; exact parL_length _ _ _
      have hp8s : Ok8 ps := by rw [← hps]; exact parL_ok8 _ _ _
      rw [hps] at HK hsu
      rw [hls] at hsu
      have HSU := Lib.hid hsu
      have HCP := Lib.hid CPj
      have hgl : g < wr.heap.size := HK.out.lt
      have hszr := HB.out.size
      clear hpp hl8 hls hps hsu CPj hR2
      generalize pp.getD 0 0 = x0 at *
      generalize pp.getD 1 0 = x1 at *
      generalize pp.getD 2 0 = x2 at *
      generalize pp.getD 3 0 = x3 at *
      generalize pp.getD 4 0 = x4 at *
      generalize pp.getD 5 0 = x5 at *
      generalize pp.getD 6 0 = x6 at *
      generalize pp.getD 7 0 = x7 at *
      go_wp2_with fail
      refine HCP.out.mono ?_
      rintro e wB ⟨rfl, hbB⟩
      obtain ⟨q, hq⟩ : ∃ q, K - j = q + 1 := ⟨K - j - 1, by omega⟩
      have hbk : Bk wB g 65 (mixC ps (q + 1)) := by rw [← hq]; exact HK.out.below hbB hgl
      have hbe : Below w.heap.size w wB := HB.out.trans (hbB.mono hszr)
      have hgl : w.heap.size < g := hgw
      have z0 : wB.cell? ⟨g, j * 8, none⟩ = some (.int .i64 0) := by rw [hbk.cell]; exact mixC_zero ps hp8s j 0 q hpl (by omega)
      have f0 : wB.frozen? ⟨g, j * 8, none⟩ = false := hbk.frozen _
      have z1 : wB.cell? ⟨g, j * 8 + 1, none⟩ = some (.int .i64 0) := by rw [hbk.cell]; exact mixC_zero ps hp8s j 1 q hpl (by omega)
      have f1 : wB.frozen? ⟨g, j * 8 + 1, none⟩ = false := hbk.frozen _
      have z2 : wB.cell? ⟨g, j * 8 + 2, none⟩ = some (.int .i64 0) := by rw [hbk.cell]; exact mixC_zero ps hp8s j 2 q hpl (by omega)
      have f2 : wB.frozen? ⟨g, j * 8 + 2, none⟩ = false := hbk.frozen _
      have z3 : wB.cell? ⟨g, j * 8 + 3, none⟩ = some (.int .i64 0) := by rw [hbk.cell]; exact mixC_zero ps hp8s j 3 q hpl (by omega)
      have f3 : wB.frozen? ⟨g, j * 8 + 3, none⟩ = false := hbk.frozen _
      have z4 : wB.cell? ⟨g, j * 8 + 4, none⟩ = some (.int .i64 0) := by rw [hbk.cell]; exact mixC_zero ps hp8s j 4 q hpl (by omega)
      have f4 : wB.frozen? ⟨g, j * 8 + 4, none⟩ = false := hbk.frozen _
      have z5 : wB.cell? ⟨g, j * 8 + 5, none⟩ = some (.int .i64 0) := by rw [hbk.cell]; exact mixC_zero ps hp8s j 5 q hpl (by omega)
      have f5 : wB.frozen? ⟨g, j * 8 + 5, none⟩ = false := hbk.frozen _
      have z6 : wB.cell? ⟨g, j * 8 + 6, none⟩ = some (.int .i64 0) := by rw [hbk.cell]; exact mixC_zero ps hp8s j 6 q hpl (by omega)
      have f6 : wB.frozen? ⟨g, j * 8 + 6, none⟩ = false := hbk.frozen _
      have z7 : wB.cell? ⟨g, j * 8 + 7, none⟩ = some (.int .i64 0) := by rw [hbk.cell]; exact mixC_zero ps hp8s j 7 q hpl (by omega)
      have f7 : wB.frozen? ⟨g, j * 8 + 7, none⟩ = false := hbk.frozen _
      have HFK : Hid (Bk ((((((((wB.setCell ⟨g, (j * 8), none⟩ (.int .i64 x0)).setCell ⟨g, (j * 8) + 1, none⟩ (.int .i64 x1)).setCell ⟨g, (j * 8) + 2, none⟩ (.int .i64 x2)).setCell ⟨g, (j * 8) + 3, none⟩ (.int .i64 x3)).setCell ⟨g, (j * 8) + 4, none⟩ (.int .i64 x4)).setCell ⟨g, (j * 8) + 5, none⟩ (.int .i64 x5)).setCell ⟨g, (j * 8) + 6, none⟩ (.int .i64 x6)).setCell ⟨g, (j * 8) + 7, none⟩ (.int .i64 x7)) g 65 (mixC (parL n ds (j + 1)) (K - (j + 1)))) := by
        show Bk _ _ _ _
        rw [HSU.out, show K - (j + 1) = q by omega, ← mixC_set ps q hp8s x0 x1 x2 x3 x4 x5 x6 x7 (j * 8) (by rw [hpl])]
        exact ((((((((hbk.set_ (j * 8) (.int .i64 x0)).set_ (j * 8 + 1) (.int .i64 x1)).set_ (j * 8 + 2) (.int .i64 x2)).set_ (j * 8 + 3) (.int .i64 x3)).set_ (j * 8 + 4) (.int .i64 x4)).set_ (j * 8 + 5) (.int .i64 x5)).set_ (j * 8 + 6) (.int .i64 x6)).set_ (j * 8 + 7) (.int .i64 x7))
      have HFB : Hid (Below w.heap.size w ((((((((wB.setCell ⟨g, (j * 8), none⟩ (.int .i64 x0)).setCell ⟨g, (j * 8) + 1, none⟩ (.int .i64 x1)).setCell ⟨g, (j * 8) + 2, none⟩ (.int .i64 x2)).setCell ⟨g, (j * 8) + 3, none⟩ (.int .i64 x3)).setCell ⟨g, (j * 8) + 4, none⟩ (.int .i64 x4)).setCell ⟨g, (j * 8) + 5, none⟩ (.int .i64 x5)).setCell ⟨g, (j * 8) + 6, none⟩ (.int .i64 x6)).setCell ⟨g, (j * 8) + 7, none⟩ (.int .i64 x7))) := ((((((((hbe.setCell (p := ⟨g, j * 8, none⟩) (Nat.le_of_lt hgl) (.int .i64 x0)).setCell (p := ⟨g, j * 8 + 1, none⟩) (Nat.le_of_lt hgl) (.int .i64 x1)).setCell (p := ⟨g, j * 8 + 2, none⟩) (Nat.le_of_lt hgl) (.int .i64 x2)).setCell (p := ⟨g, j * 8 + 3, none⟩) (Nat.le_of_lt hgl) (.int .i64 x3)).setCell (p := ⟨g, j * 8 + 4, none⟩) (Nat.le_of_lt hgl) (.int .i64 x4)).setCell (p := ⟨g, j * 8 + 5, none⟩) (Nat.le_of_lt hgl) (.int .i64 x5)).setCell (p := ⟨g, j * 8 + 6, none⟩) (Nat.le_of_lt hgl) (.int .i64 x6)).setCell (p := ⟨g, j * 8 + 7, none⟩) (Nat.le_of_lt hgl) (.int .i64 x7))
      clear hbk hbe HCP hbB
      go_wp2
      go_roundw
      case rel => exact ⟨j + 1, by omega, by go_num, HFK.out, HFB.out⟩
      case measure => simp [intOf]; omega
    · obtain rfl : K = j := by omega
      rw [Nat.sub_self] at HK
      have HRD := Lib.hid (RdD.of_bk HK.out (parL_length _ _ _) (parL_ok8 _ _ _))
      clear HK
      go_wp2
      go_ret2
      exact ⟨⟨_, _, rfl, HRD.out⟩, HB.out⟩

end Go.Proofs.YtmeddnpahkigeaaDoor
