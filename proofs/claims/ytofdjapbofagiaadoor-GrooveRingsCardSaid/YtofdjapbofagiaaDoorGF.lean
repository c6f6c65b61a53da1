import Derived.Test.YtofdjapbofagiaaDoorGE
namespace Go.Proofs.YtofdjapbofagiaaDoor
open Go.RowKit

theorem StripR.to {W : World} {b n : Nat} {L L' : Nat → List Int} {more : List (Value × List Int)} (h : StripR W b n L more) (he : ∀ k, k < n → L k = L' k) : StripR W b n L' more := by
  obtain ⟨Ls, h1, h2, h3, h4⟩ := h
  exact ⟨Ls, h1, fun k hk => (h2 k hk).trans (he k hk), h3, h4⟩
set_option maxRecDepth 100000 in
set_option maxHeartbeats 8000000 in
theorem un_well (ad : Addr) (n c m c' : Nat) (B : Option Addr) (rows : List (List Int)) (cx cy : Int) (lo hi st cnt : Nat) (w : World) (hr : RdG w (some ad) n rows) (hn : 0 < n ∧ n ≤ 24) (hm : 0 < m ∧ m ≤ 24) (hck : CellAt w ad (.slice B m c')) (hlm : (rows.getD 0 []).length = m) (hg : gridE 24 24 rows = 0) (h1 : (1 ≤ (lo : Int) ∧ (lo : Int) ≤ 24) ∧ 1 ≤ (hi : Int) ∧ (hi : Int) ≤ 24) (h2 : 1 ≤ (st : Int) ∧ (st : Int) ≤ 40) (hcn : lo + cnt = hi + 1) (hc12 : 1 ≤ cnt ∧ cnt ≤ 12) (hl : LaidSides w) (hrg : ∀ r ∈ rows, r.length = m) (hhb : hasB rows cx cy (hi : Int) = true) :
    Calls Tryd.prog 13 #[.agg #[.slice (some ad) n c], .agg #[.int .i64 cx, .int .i64 cy, .int .i64 (lo : Int), .int .i64 (hi : Int), .int .i64 (st : Int)]] w (ResG w 0 (unL rows cx cy st lo cnt)) := by
  have hb0 : Below w.heap.size w ((w.alloc (.cells #[.slice (some ad) n c] 24)).alloc (.cells #[.int .i64 cx, .int .i64 cy, .int .i64 (lo : Int), .int .i64 (hi : Int), .int .i64 (st : Int)] 30)) := ((Below.refl _ w).alloc (Nat.le_refl _) _).alloc (by simp) _
  have HNI : Hid (Bk ((w.alloc (.cells #[.slice (some ad) n c] 24)).alloc (.cells #[.int .i64 cx, .int .i64 cy, .int .i64 (lo : Int), .int .i64 (hi : Int), .int .i64 (st : Int)] 30)) w.heap.size 24 #[.slice (some ad) n c]) := (Bk.new w 24 #[.slice (some ad) n c]).alloc _
  have HNV : Hid (Bk ((w.alloc (.cells #[.slice (some ad) n c] 24)).alloc (.cells #[.int .i64 cx, .int .i64 cy, .int .i64 (lo : Int), .int .i64 (hi : Int), .int .i64 (st : Int)] 30)) (w.heap.size + 1) 30 #[.int .i64 cx, .int .i64 cy, .int .i64 (lo : Int), .int .i64 (hi : Int), .int .i64 (st : Int)]) := by
    have := Bk.new (w.alloc (.cells #[.slice (some ad) n c] 24)) 30 #[.int .i64 cx, .int .i64 cy, .int .i64 (lo : Int), .int .i64 (hi : Int), .int .i64 (st : Int)]
    show Bk _ _ _ _
    simpa using this
  have HB0 := Lib.hid hb0
  have CI := Lib.hid (checkImage_any (some ad) n c rows _ (hr.below hb0) (by omega))
  rw [hg] at CI
  have CA2 : Hid (∀ W g, W.cell? ⟨g, 0, none⟩ = some (.int .i64 (lo : Int)) → W.cell? ⟨g, 1, none⟩ = some (.int .i64 (hi : Int)) → Calls Tryd.prog 48 #[.int .i64 1, .int .i64 24, .slice (some ⟨g, 0, none⟩) 2 2] W fun e w' => e = .returned (.bool true) ∧ W = w') := fun W g k1 k2 => by
    have h := areFrom_any (some ⟨g, 0, none⟩) 2 2 [(lo : Int), (hi : Int)] 1 24 W (lit2 _ _ _ _ k1 k2) (by omega)
    rw [show fromB 1 24 [(lo : Int), (hi : Int)] = true by rw [from_both]; exact h1] at h
    exact h
  have CA1 : Hid (∀ W g, W.cell? ⟨g, 0, none⟩ = some (.int .i64 (st : Int)) → Calls Tryd.prog 48 #[.int .i64 1, .int .i64 40, .slice (some ⟨g, 0, none⟩) 1 1] W fun e w' => e = .returned (.bool true) ∧ W = w') := fun W g k1 => by
    have h := areFrom_any (some ⟨g, 0, none⟩) 1 1 [(st : Int)] 1 40 W (lit1 _ _ _ k1) (by omega)
    rw [show fromB 1 40 [(st : Int)] = true by rw [fromB_one]; exact h2] at h
    exact h
  have CH : Hid (∀ W, CellAt W ad (.slice B m c') → Calls Tryd.prog 49 #[.agg #[.slice (some ad) n c], .agg #[.int .i64 cx, .int .i64 cy], .int .i64 (hi : Int)] W fun e w' => e = .returned (.bool true) ∧ Below W.heap.size W w') := fun W h => by
    have h' := hasRing_any ad n c m c' B rows cx cy (hi : Int) W h hn hm (by omega) hr.1 hlm
    rw [hhb] at h'
    exact h'
  have HCK := Lib.hid (hck.below hb0)
  obtain ⟨RS, hRS⟩ : ∃ RS, (List.replicate st (Value.slice none 0 0)).toArray = RS := ⟨_, rfl⟩
  have hmk := make_strip st (by omega)
  rw [hRS] at hmk
  have HRS := Lib.hid hRS
  clear hRS
  obtain ⟨i0', hi0', hz0', hz1', hz2'⟩ := info_parts intInfo'
  have CRO : Hid (∀ W, Below w.heap.size w W → ∀ r : Nat, r ≤ hi → Calls Tryd.prog 50 #[.agg #[.slice (some ad) n c], .agg #[.int .i64 cx, .int .i64 cy], .int .i64 (r : Int)] W fun e w' => (∃ v, e = .returned v ∧ w'.ownsRow W.heap.size 3 1 v ((ringTo cx cy r 5).map (pix rows)).length (((ringTo cx cy r 5).map (pix rows)).map (Value.int .i64))) ∧ Below W.heap.size W w') := fun W hW r hrh => by
    have hbb := hhb
    unfold hasB at hbb
    rw [Bool.and_eq_true, fromB_one, fromB_one, hlm, hr.1] at hbb
    have h := ringOf_any (some ad) n c rows cx cy r W (hl.later hW) (hr.below hW) (by omega) (by omega) (by omega) (fun p hp => by
      have hin := ring_in hp
      obtain ⟨y, hy⟩ := Int.eq_ofNat_of_zero_le (show 0 ≤ p.2 by omega)
      have hyn : y < rows.length := by have := hr.1; omega
      have hrl : (rows.getD p.2.toNat []).length = m := by
        rw [hy, Int.toNat_natCast, List.getD_eq_getElem?_getD, List.getElem?_eq_getElem hyn]
        exact hrg _ (List.getElem_mem hyn)
      rw [hrl]; omega)
    rw [List.length_map]
    exact h
  obtain ⟨⟨a1, a2⟩, a3, a4⟩ := h1
  obtain ⟨a5, a6⟩ := h2
  have h5 : ¬ (hi : Int) < (lo : Int) := by omega
  have h6 : ¬ 12 < (hi : Int) - (lo : Int) + 1 := by omega
  have hst0 : 0 < st ∧ st ≤ 40 := by omega
  clear hr hb0 hg hck hlm hl hrg hhb
  go_enter Tryd.func13, Tryd.ntmps13
  go_wp2_with fail
  refine CI.out.mono ?_
  rintro e w1 ⟨rfl, hb1⟩
  have HB1 : Hid (Below w.heap.size w w1) := HB0.out.trans (hb1.mono HB0.out.size)
  have HNI1 := Lib.hid (HNI.out.later hb1)
  have HNV1 := Lib.hid (HNV.out.later hb1)
  have hz1 : w.heap.size + 2 ≤ w1.heap.size := by have := hb1.size; simp at this; omega
  have i0 : w1.cell? ⟨w.heap.size, 0, none⟩ = some (.slice (some ad) n c) := by rw [HNI1.out.cell]; rfl
  have v0 : w1.cell? ⟨w.heap.size + 1, 0, none⟩ = some (.int .i64 cx) := by rw [HNV1.out.cell]; rfl
  have v1 : w1.cell? ⟨w.heap.size + 1, 1, none⟩ = some (.int .i64 cy) := by rw [HNV1.out.cell]; rfl
  have v2 : w1.cell? ⟨w.heap.size + 1, 2, none⟩ = some (.int .i64 (lo : Int)) := by rw [HNV1.out.cell]; rfl
  have v3 : w1.cell? ⟨w.heap.size + 1, 3, none⟩ = some (.int .i64 (hi : Int)) := by rw [HNV1.out.cell]; rfl
  have v4 : w1.cell? ⟨w.heap.size + 1, 4, none⟩ = some (.int .i64 (st : Int)) := by rw [HNV1.out.cell]; rfl
  have x4 := cellA (.cells #[.int .i64 (lo : Int), .int .i64 (hi : Int)] 3) v4
  have y4 := cellA (.cells #[.int .i64 (st : Int)] 3) x4
  have yi := cellA (.cells #[.int .i64 (st : Int)] 3) (cellA (.cells #[.int .i64 (lo : Int), .int .i64 (hi : Int)] 3) i0)
  have y0 := cellA (.cells #[.int .i64 (st : Int)] 3) (cellA (.cells #[.int .i64 (lo : Int), .int .i64 (hi : Int)] 3) v0)
  have y1 := cellA (.cells #[.int .i64 (st : Int)] 3) (cellA (.cells #[.int .i64 (lo : Int), .int .i64 (hi : Int)] 3) v1)
  have y2 := cellA (.cells #[.int .i64 (st : Int)] 3) (cellA (.cells #[.int .i64 (lo : Int), .int .i64 (hi : Int)] 3) v2)
  have y3 := cellA (.cells #[.int .i64 (st : Int)] 3) (cellA (.cells #[.int .i64 (lo : Int), .int .i64 (hi : Int)] 3) v3)
  go_wp2_with fail
  refine (CA2.out _ _ (by simp [go_sem]) (by simp [go_sem])).mono ?_
  rintro e w' ⟨rfl, rfl⟩
  go_wp2_with fail
  refine (CA1.out _ _ ?_).mono ?_
  · simp [go_sem]
  rintro e w' ⟨rfl, rfl⟩
  have HCK2 := Lib.hid ((HCK.out.below hb1).below (((Below.refl _ w1).alloc (Nat.le_refl _) (.cells #[.int .i64 (lo : Int), .int .i64 (hi : Int)] 3)).alloc (by simp) (.cells #[.int .i64 (st : Int)] 3)))
  clear hb1 CI HNI HNV HB0
  go_wp2_with fail
  refine (CH.out _ HCK2.out).mono ?_
  rintro e w3 ⟨rfl, hb3⟩
  have HB2 : Hid (Below w.heap.size w ((w1.alloc (.cells #[.int .i64 (lo : Int), .int .i64 (hi : Int)] 3)).alloc (.cells #[.int .i64 (st : Int)] 3))) := (HB1.out.alloc (by omega) _).alloc (by simp; omega) _
  have HB3 : Hid (Below w.heap.size w w3) := HB2.out.trans (hb3.mono HB2.out.size)
  have HV3 := Lib.hid ((HNV1.out.alloc (.cells #[.int .i64 (lo : Int), .int .i64 (hi : Int)] 3)).alloc (.cells #[.int .i64 (st : Int)] 3))
  have HI3 := Lib.hid ((HNI1.out.alloc (.cells #[.int .i64 (lo : Int), .int .i64 (hi : Int)] 3)).alloc (.cells #[.int .i64 (st : Int)] 3))
  have HV4b := Lib.hid (HV3.out.later hb3)
  have HI4b := Lib.hid (HI3.out.later hb3)
  have hz3 : w.heap.size + 2 ≤ w3.heap.size := by have := hb3.size; simp at this; omega
  clear hb3 CH HCK HCK2 i0 v0 v1 v2 v3 v4 x4 y4 yi y0 y1 y2 y3
  have v2 : w3.cell? ⟨w.heap.size + 1, 2, none⟩ = some (.int .i64 (lo : Int)) := by rw [HV4b.out.cell]; rfl
  have v4 : w3.cell? ⟨w.heap.size + 1, 4, none⟩ = some (.int .i64 (st : Int)) := by rw [HV4b.out.cell]; rfl
  obtain ⟨W1, hW1⟩ : ∃ W, w3.alloc (.cells RS 38) = W := ⟨_, rfl⟩
  obtain ⟨b1, hb1e⟩ : ∃ b, w3.heap.size = b := ⟨_, rfl⟩
  have HBW : Hid (Below w.heap.size w W1) := by rw [← hW1]; exact HB3.out.alloc HB3.out.size _
  have HV : Hid (Bk W1 (w.heap.size + 1) 30 #[.int .i64 cx, .int .i64 cy, .int .i64 (lo : Int), .int .i64 (hi : Int), .int .i64 (st : Int)]) := by rw [← hW1]; exact HV4b.out.alloc _
  have HI : Hid (Bk W1 w.heap.size 24 #[.slice (some ad) n c]) := by rw [← hW1]; exact HI4b.out.alloc _
  have HMD : Hid (StripR W1 b1 st (fun _ => []) []) := by rw [← hW1, ← hb1e]; refine StripR.made ?_; rw [HRS.out]; exact Bk.new w3 _ _
  have HZ1 : Hid (b1 < W1.heap.size) := by show _ < _; rw [← hW1, ← hb1e]; simp
  have hzb : w.heap.size + 2 ≤ b1 := by rw [← hb1e]; exact hz3
  have HV4 : Hid (W1.cell? ⟨w.heap.size + 1, 4, none⟩ = some (.int .i64 (st : Int))) := by show _ = _; rw [HV.out.cell]; rfl
  have z2 := cellA (.cells RS 38) v2
  have y2 : W1.cell? ⟨w.heap.size + 1, 2, none⟩ = some (.int .i64 (lo : Int)) := by rw [HV.out.cell]; rfl
  go_wp2
  try rw [hb1e]
  try rw [hW1]
  clear hW1 hb1e v2 v4 z2 y2 hmk hz3 hz1 HV4b HI4b HV3 HI3 HNI1 HNV1 HB1 HB2 HB3
  go_loopw [8] (fun s wr => ∃ i : Nat, i ≤ cnt ∧ s = .int .i64 ((lo + i : Nat) : Int) ∧ Hid (StripR wr b1 st (fun k => rowU rows cx cy st lo k i) []) ∧ Hid (Below b1 W1 wr)) (fun s _ => hi + 1 - (intOf s).toNat)
  case atStart => exact ⟨0, Nat.zero_le _, rfl, HMD.out, Below.refl _ _⟩
  case round =>
    obtain ⟨i, hi', rfl, HST, HX⟩ := hrel
    have v0 : wr.cell? ⟨w.heap.size + 1, 0, none⟩ = some (.int .i64 cx) := (HX.out.cell (p := ⟨w.heap.size + 1, 0, none⟩) (by dsimp only; omega)).trans (by rw [HV.out.cell]; rfl)
    have v1 : wr.cell? ⟨w.heap.size + 1, 1, none⟩ = some (.int .i64 cy) := (HX.out.cell (p := ⟨w.heap.size + 1, 1, none⟩) (by dsimp only; omega)).trans (by rw [HV.out.cell]; rfl)
    have v3 : wr.cell? ⟨w.heap.size + 1, 3, none⟩ = some (.int .i64 (hi : Int)) := (HX.out.cell (p := ⟨w.heap.size + 1, 3, none⟩) (by dsimp only; omega)).trans (by rw [HV.out.cell]; rfl)
    have i1 : wr.cell? ⟨w.heap.size, 0, none⟩ = some (.slice (some ad) n c) := (HX.out.cell (p := ⟨w.heap.size, 0, none⟩) (by dsimp only; omega)).trans (by rw [HI.out.cell]; rfl)
    by_cases hlt : i < cnt
    · obtain ⟨r, hre⟩ : ∃ r, lo + i = r := ⟨_, rfl⟩
      have hrb : 1 ≤ r ∧ r ≤ hi ∧ r ≤ 24 := by omega
      have hrI : (r : Int) ≤ (hi : Int) := by omega
      have C := Lib.hid (CRO.out wr (HBW.out.trans (HX.out.mono (by omega))) r (by omega))
      have hszr : b1 ≤ wr.heap.size := by have := HX.out.size; have := HZ1.out; omega
      obtain ⟨xs, hxs⟩ : ∃ xs, (ringTo cx cy r 5).map (pix rows) = xs := ⟨_, rfl⟩
      have hxl : xs.length = 8 * r := by rw [← hxs, List.length_map, ring_size]
      obtain ⟨R8, hR8⟩ : ∃ R, 8 * r = R := ⟨_, rfl⟩
      rw [hR8] at hxl
      rw [hxs] at C
      have HXS := Lib.hid hxs
      have HXL := Lib.hid hxl
      have HR8 := Lib.hid hR8
      have hR8b : 0 < R8 ∧ R8 ≤ 192 := by omega
      have HRE := Lib.hid hre
      rw [hre]
      clear hxs hxl hR8 hre
      go_wp2_with fail
      refine C.out.mono ?_
      rintro e w2 ⟨⟨v, rfl, ho⟩, hb2⟩
      have HS2 : Hid (StripR w2 b1 st (fun k => rowU rows cx cy st lo k i) [(v, xs)]) := HST.out.and hb2 ho hszr
      rw [HXL.out] at ho
      obtain ⟨Av, cr, rfl, hf⟩ := own_form ho
      obtain ⟨gr, rfl⟩ := hf hR8b.1
      have HX2 : Hid (Below b1 W1 w2) := HX.out.trans (hb2.mono hszr)
      clear C ho hb2 hf v0 v1 v3 i1 HST HX
      go_wp2
      go_loopw [79] (fun s wq => ∃ k : Nat, k ≤ st ∧ s = .int .i64 k ∧ Hid (StripR wq b1 st (fun j => rowU rows cx cy st lo j (if j < k then i + 1 else i)) [(.slice (some ⟨gr, 0, none⟩) R8 cr, xs)]) ∧ Hid (Below b1 W1 wq)) (fun s _ => st - (intOf s).toNat)
      case atStart => exact ⟨0, Nat.zero_le _, rfl, HS2.out.to (fun k hk => by rw [if_neg (by omega)]), HX2.out⟩
      case round =>
        obtain ⟨k, hk, rfl, HSQ, HBQ⟩ := hrel
        obtain ⟨wq, hwq⟩ : ∃ W, W = wr := ⟨_, rfl⟩
        subst hwq
        by_cases hkst : k < st
        · have hkI : (k : Int) < (st : Int) := by omega
          have hk0 : (0 : Int) ≤ (k : Int) := by omega
          obtain ⟨Lk, hLk⟩ : ∃ L : Nat → List Int, (fun j => rowU rows cx cy st lo j (if j < k then i + 1 else i)) = L := ⟨_, rfl⟩
          rw [hLk] at HSQ
          have hlk : (Lk k).length = i := by rw [← hLk]; dsimp only; rw [if_neg (by omega), rowU_length]
          obtain ⟨vk, pre, post, ck, hpl, hbk, hpn, hpg, hrw⟩ := HSQ.out.at_ hkst
          have HROW := Lib.hid (hrw.1 (vk, Lk k) (by simp))
          have HRING := Lib.hid (hrw.1 (.slice (some ⟨gr, 0, none⟩) R8 cr, xs) (by simp))
          have HBK := Lib.hid hbk
          have HPG := Lib.hid hpg
          have HRW := Lib.hid hrw
          obtain ⟨P, hP⟩ : ∃ P, R8 * k = P := ⟨_, rfl⟩
          obtain ⟨Q, hQ⟩ : ∃ Q, P / st = Q := ⟨_, rfl⟩
          have hPb : P ≤ 192 * 40 := by rw [← hP]; exact Nat.mul_le_mul hR8b.2 (by omega)
          have hQb : Q < R8 := by
            rw [← hQ, Nat.div_lt_iff_lt_mul hst0.1, ← hP]
            exact Nat.mul_lt_mul_of_pos_left hkst hR8b.1
          have hq1 : IntKind.i64.wrap ((R8 : Int) * (k : Int)) = (P : Int) := by rw [show (R8 : Int) * (k : Int) = (P : Int) by rw [← hP]; simp]; exact IntWalk.i64_in _ (by omega)
          have hq2 : (P : Int).tdiv (st : Int) = (Q : Int) := by rw [← hQ]; exact (Int.ofNat_tdiv P st).symm
          have hq3 : IntKind.i64.wrap (Q : Int) = (Q : Int) := IntWalk.i64_in _ (by omega)
          have hq4 : (0 : Int) ≤ (Q : Int) := by omega
          have hq5 : (Q : Int) < (R8 : Int) := by omega
          have hq7 : ¬ st = 0 := by omega
          have hq6 : ((st : Int) == 0) = false := by rw [beq_eq_false_iff_ne]; omega
          obtain ⟨x, hx⟩ : ∃ x, xs.getD Q 0 = x := ⟨_, rfl⟩
          have HXQ : Hid ((xs.map (Value.int .i64))[Q]? = some (.int .i64 x)) := by
            show _ = _
            rw [List.getElem?_map, List.getElem?_eq_getElem (by rw [HXL.out]; exact hQb), ← hx, List.getD_eq_getElem?_getD, List.getElem?_eq_getElem (by rw [HXL.out]; exact hQb)]
            rfl
          have HXC : Hid (wq.cell? ⟨gr, Q, none⟩ = some (.int .i64 x)) := by
            have h := HRING.out
            dsimp only at h
            rw [HXL.out] at h
            exact (h.cellAt Q (by omega)).trans HXQ.out
          have HXV : Hid (x = cellU rows cx cy st k (lo + i)) := by
            show _ = _
            unfold cellU
            rw [HRE.out, HXS.out, HR8.out, hP, hQ, hx]
          have HLK : Hid (∀ x, x = cellU rows cx cy st k (lo + i) → (fun j => if j = k then Lk k ++ [x] else Lk j) = fun j => rowU rows cx cy st lo j (if j < k + 1 then i + 1 else i)) := fun x hx => by
            funext j
            rw [← hLk]
            dsimp only
            by_cases e : j = k
            · subst e
              rw [if_pos rfl, if_neg (by omega), if_pos (by omega), rowU_succ, hx]
            · rw [if_neg e]
              by_cases e2 : j < k
              · rw [if_pos e2, if_pos (by omega)]
              · rw [if_neg e2, if_neg (by omega)]
          have HV4Q : Hid (wq.cell? ⟨w.heap.size + 1, 4, none⟩ = some (.int .i64 (st : Int))) := (HBQ.out.cell (p := ⟨w.heap.size + 1, 4, none⟩) (by dsimp only; omega)).trans HV4.out
          have HS0 : Hid ((fun w' : World => w'.cell? ⟨w.heap.size + 1, 4, none⟩ = some (.int .i64 (st : Int)) ∧ w'.cell? ⟨gr, Q, none⟩ = some (.int .i64 x) ∧ Below b1 W1 w') wq.drew) := ⟨HV4Q.out, HXC.out, HBQ.out.drew⟩
          have hszq : b1 ≤ wq.heap.size := by have := HBQ.out.size; have := HZ1.out; omega
          have hilb : i ≤ 1000 := by omega
          have hlkb : (Lk k).length ≤ 1000 := by rw [hlk]; omega
          have HLEN := Lib.hid hlk
          clear hLk hbk hpg hrw hP hQ hx HSQ HRING hlk
          go_wp2
          refine wp_region_held_drew (S := (fun w' : World => w'.cell? ⟨w.heap.size + 1, 4, none⟩ = some (.int .i64 (st : Int)) ∧ w'.cell? ⟨gr, Q, none⟩ = some (.int .i64 x) ∧ Below b1 W1 w')) (by kernel_rfl) ?_ ?_
          · exact HS0.out
          intro hHeld
          refine wpAnyH_take (i := 0) (v := ?_) rfl (by kernel_rfl) (by kernel_rfl) (by kernel_rfl) (fun _ _ _ h => h) (Or.inl ⟨by rfl, ?_⟩) (by assumption) ?_
          rotate_left
          · intro w hSw; (try dsimp only at hSw); go_simp; (try (with_reducible rfl))
          try simp only [List.getElem_toArray, List.getElem_cons_succ, List.getElem_cons_zero, Act.put, List.setIfInBounds_toArray, List.set_cons_zero, List.set_cons_succ]
          refine wpAnyH_take (i := 1) (v := ?_) rfl (by kernel_rfl) (by kernel_rfl) (by kernel_rfl) (fun _ _ _ h => h) (Or.inl ⟨by rfl, ?_⟩) (by assumption) ?_
          rotate_left
          · intro w hSw; (try dsimp only at hSw); go_simp; (try (with_reducible rfl))
          try simp only [List.getElem_toArray, List.getElem_cons_succ, List.getElem_cons_zero, Act.put, List.setIfInBounds_toArray, List.set_cons_zero, List.set_cons_succ]
          refine wpAnyH_take (i := 2) (v := ?_) rfl (by kernel_rfl) (by kernel_rfl) (by kernel_rfl) (fun _ _ _ h => h) (Or.inl ⟨by rfl, ?_⟩) (by assumption) ?_
          rotate_left
          · intro w hSw; (try dsimp only at hSw); go_simp; (try (with_reducible rfl))
          try simp only [List.getElem_toArray, List.getElem_cons_succ, List.getElem_cons_zero, Act.put, List.setIfInBounds_toArray, List.set_cons_zero, List.set_cons_succ]
          refine wpAnyH_take (i := 3) (v := ?_) rfl (by kernel_rfl) (by kernel_rfl) (by kernel_rfl) (fun _ _ _ h => h) (Or.inl ⟨by rfl, ?_⟩) (by assumption) ?_
          rotate_left
          · intro w hSw; (try dsimp only at hSw); go_simp; (try (with_reducible rfl))
          try simp only [List.getElem_toArray, List.getElem_cons_succ, List.getElem_cons_zero, Act.put, List.setIfInBounds_toArray, List.set_cons_zero, List.set_cons_succ]
          refine wpAnyH_take (i := 4) (v := ?_) rfl (by kernel_rfl) (by kernel_rfl) (by kernel_rfl) (fun _ _ _ h => h) (Or.inl ⟨by rfl, ?_⟩) (by assumption) ?_
          rotate_left
          · intro w hSw; (try dsimp only at hSw); go_simp; (try (with_reducible rfl))
          try simp only [List.getElem_toArray, List.getElem_cons_succ, List.getElem_cons_zero, Act.put, List.setIfInBounds_toArray, List.set_cons_zero, List.set_cons_succ]
          refine wpAnyH_take (i := 6) (v := ?_) rfl (by kernel_rfl) (by kernel_rfl) (by kernel_rfl) (fun _ _ _ h => h) (Or.inl ⟨by rfl, ?_⟩) (by assumption) ?_
          rotate_left
          · intro w hSw; (try dsimp only at hSw); go_simp; (try (with_reducible rfl))
          try simp only [List.getElem_toArray, List.getElem_cons_succ, List.getElem_cons_zero, Act.put, List.setIfInBounds_toArray, List.set_cons_zero, List.set_cons_succ]
          refine wpAnyH_take (i := 7) (v := ?_) rfl (by kernel_rfl) (by kernel_rfl) (by kernel_rfl) (fun _ _ _ h => h) (Or.inl ⟨by rfl, ?_⟩) (by assumption) ?_
          rotate_left
          · intro w hSw; (try dsimp only at hSw); go_simp; (try (with_reducible rfl))
          try simp only [List.getElem_toArray, List.getElem_cons_succ, List.getElem_cons_zero, Act.put, List.setIfInBounds_toArray, List.set_cons_zero, List.set_cons_succ]
          refine wpAnyH_take (i := 8) (v := ?_) rfl (by kernel_rfl) (by kernel_rfl) (by kernel_rfl) (fun _ _ _ h => h) (Or.inl ⟨by rfl, ?_⟩) (by assumption) ?_
          rotate_left
          · intro w hSw; (try dsimp only at hSw); go_simp; (try (with_reducible rfl))
          try simp only [List.getElem_toArray, List.getElem_cons_succ, List.getElem_cons_zero, Act.put, List.setIfInBounds_toArray, List.set_cons_zero, List.set_cons_succ]
          refine wpAnyH_take (i := 9) (v := ?_) rfl (by kernel_rfl) (by kernel_rfl) (by kernel_rfl) (fun _ _ _ h => h) (Or.inl ⟨by rfl, ?_⟩) (by assumption) ?_
          rotate_left
          · intro w hSw; (try dsimp only at hSw); go_simp; (try (with_reducible rfl))
          try simp only [List.getElem_toArray, List.getElem_cons_succ, List.getElem_cons_zero, Act.put, List.setIfInBounds_toArray, List.set_cons_zero, List.set_cons_succ]
          refine wpAnyH_take (i := 10) (v := ?_) rfl (by kernel_rfl) (by kernel_rfl) (by kernel_rfl) (fun _ _ _ h => h) (Or.inl ⟨by rfl, ?_⟩) (by assumption) ?_
          rotate_left
          · intro w hSw; (try dsimp only at hSw); go_simp; (try (with_reducible rfl))
          try simp only [List.getElem_toArray, List.getElem_cons_succ, List.getElem_cons_zero, Act.put, List.setIfInBounds_toArray, List.set_cons_zero, List.set_cons_succ]
          refine wpAnyH_take (i := 11) (v := ?_) rfl (by kernel_rfl) (by kernel_rfl) (by kernel_rfl) (fun _ _ _ h => h) (Or.inl ⟨by rfl, ?_⟩) (by assumption) ?_
          rotate_left
          · intro w hSw; (try dsimp only at hSw); go_simp; (try (with_reducible rfl))
          try simp only [List.getElem_toArray, List.getElem_cons_succ, List.getElem_cons_zero, Act.put, List.setIfInBounds_toArray, List.set_cons_zero, List.set_cons_succ]
          refine wpAnyH_take (i := 12) (v := ?_) rfl (by kernel_rfl) (by kernel_rfl) (by kernel_rfl) (fun _ _ _ h => h) (Or.inl ⟨by rfl, ?_⟩) (by assumption) ?_
          rotate_left
          · intro w hSw; (try dsimp only at hSw); go_simp; (try (with_reducible rfl))
          try simp only [List.getElem_toArray, List.getElem_cons_succ, List.getElem_cons_zero, Act.put, List.setIfInBounds_toArray, List.set_cons_zero, List.set_cons_succ]
          refine wpAnyH_take (i := 13) (v := ?_) rfl (by kernel_rfl) (by kernel_rfl) (by kernel_rfl) (fun _ _ _ h => h) (Or.inl ⟨by rfl, ?_⟩) (by assumption) ?_
          rotate_left
          · intro w hSw; (try dsimp only at hSw); go_simp; (try (with_reducible rfl))
          try simp only [List.getElem_toArray, List.getElem_cons_succ, List.getElem_cons_zero, Act.put, List.setIfInBounds_toArray, List.set_cons_zero, List.set_cons_succ]
          refine wpAnyH_take (i := 14) (v := ?_) rfl (by kernel_rfl) (by kernel_rfl) (by kernel_rfl) (fun _ _ _ h => h) (Or.inl ⟨by rfl, ?_⟩) (by assumption) ?_
          rotate_left
          · intro w hSw; (try dsimp only at hSw); go_simp; (try (with_reducible rfl))
          try simp only [List.getElem_toArray, List.getElem_cons_succ, List.getElem_cons_zero, Act.put, List.setIfInBounds_toArray, List.set_cons_zero, List.set_cons_succ]
          refine wpAnyH_take (i := 15) (v := ?_) rfl (by kernel_rfl) (by kernel_rfl) (by kernel_rfl) (fun _ _ _ h => h) (Or.inl ⟨by rfl, ?_⟩) (by assumption) ?_
          rotate_left
          · intro w hSw; (try dsimp only at hSw); go_simp; (try (with_reducible rfl))
          try simp only [List.getElem_toArray, List.getElem_cons_succ, List.getElem_cons_zero, Act.put, List.setIfInBounds_toArray, List.set_cons_zero, List.set_cons_succ]
          refine wpAnyH_ready (rs := [5, 16]) (by kernel_rfl) (by simp) ?_
          refine (AllReadyH.cons rfl (fun K hK => ?_) (AllReadyH.cons rfl (fun K hK => ?_) AllReadyH.nil))
          · go_simp
            refine hK.out _ _ ?_ (fun hHeld => ?_)
            · clear hK K; exact ⟨HV4Q.out, HXC.out, HBQ.out.drew⟩
            clear hK K
            try simp only [List.getElem_toArray, List.getElem_cons_succ, List.getElem_cons_zero, Act.put, List.setIfInBounds_toArray, List.set_cons_zero, List.set_cons_succ]
            refine wpAnyH_ready (rs := [16]) (by kernel_rfl) (by simp) ?_
            refine (AllReadyH.cons rfl (fun K hK => ?_) AllReadyH.nil)
            go_simp
            refine hK.out _ _ ?_ (fun hHeld => ?_)
            · clear hK K; exact ⟨cellA _ HV4Q.out, cellA _ HXC.out, (HBQ.out.alloc (by omega) _).drew⟩
            clear hK K
            try simp only [List.getElem_toArray, List.getElem_cons_succ, List.getElem_cons_zero, Act.put, List.setIfInBounds_toArray, List.set_cons_zero, List.set_cons_succ]
            refine wpAnyH_ready (rs := [17]) (by kernel_rfl) (by simp) ?_
            refine (AllReadyH.cons rfl (fun K hK => ?_) AllReadyH.nil)
            refine step_append_at _ rfl (.tmp 87) (.tmp 98) 38 rfl b1 3 i0' _ 1 8 Tryd.underlying38 hi0' hz0' hz1' hz2' rfl (by decide) _ (Lk k).length _ rfl ((HROW.out.alloc _).drew) ⟨wq.heap.size, 0, none⟩ 1 1 [.int .i64 x] rfl rfl (cell_one_new _ _ _) (by simp [Value.oneCell']) (by simp only [maxLen]; omega) (by omega) (by simp; omega) ?_
            intro v' w4 hown' hgrow _ hat
            obtain ⟨g', cap', rfl⟩ := ownsRow_succ hown'
            have HB4 : Hid (Below b1 W1 w4) := (HBQ.out.alloc (by omega) (.cells #[.int .i64 x] 3)).drew.grown hgrow (by simp; omega) (fun z e => (HROW.out.lt z e).1)
            have HR4 : Hid (RowsN w4 b1 (pre ++ (.slice (some ⟨g', 0, none⟩) ((Lk k).length + 1) cap', Lk k ++ [x]) :: (post ++ [(.slice (some ⟨gr, 0, none⟩) R8 cr, xs)]))) := (HRW.out.alloc (.cells #[.int .i64 x] 3)).drew.step hown' hgrow hat
            have HN4 : Hid (StripR (w4.setCell ⟨b1, k, none⟩ (.slice (some ⟨g', 0, none⟩) ((Lk k).length + 1) cap')) b1 st (fun j => if j = k then Lk k ++ [x] else Lk j) [(.slice (some ⟨gr, 0, none⟩) R8 cr, xs)]) := StripR.put hkst hpl (HBK.out.alloc (.cells #[.int .i64 x] 3)).drew hpn HPG.out (HRW.out.alloc (.cells #[.int .i64 x] 3)).drew hown' hgrow hat
            have hring4 : w4.cell? ⟨gr, Q, none⟩ = some (.int .i64 x) := by
              have h := HR4.out.1 (.slice (some ⟨gr, 0, none⟩) R8 cr, xs) (by simp)
              rw [HXL.out] at h
              rw [h.cellAt Q (by omega)]
              exact HXQ.out
            have hview4 : w4.cell? ⟨w.heap.size + 1, 4, none⟩ = some (.int .i64 (st : Int)) := (HB4.out.cell (p := ⟨w.heap.size + 1, 4, none⟩) (by dsimp only; omega)).trans HV4.out
            have hbk4 : Bk w4 b1 38 ((pre ++ (vk, Lk k) :: post).map Prod.fst).toArray := (HBK.out.alloc (.cells #[.int .i64 x] 3)).drew.grown hgrow (fun e => (row_not HROW.out HBK.out) e.symm)
            have hfr4 := hbk4.frozen k
            have hck4 : w4.cell? ⟨b1, k, none⟩ = some vk := (hbk4.cell k).trans ((HBK.out.cell k).symm.trans ck)
            have hrne : b1 ≠ gr := by
              intro e
              have h := row_not (HR4.out.1 (.slice (some ⟨gr, 0, none⟩) R8 cr, xs) (by simp)) hbk4
              exact h (by rw [e]; rfl)
            have HS4 : Hid ((fun w' : World => w'.cell? ⟨w.heap.size + 1, 4, none⟩ = some (.int .i64 (st : Int)) ∧ w'.cell? ⟨gr, Q, none⟩ = some (.int .i64 x) ∧ Below b1 W1 w') w4) := ⟨hview4, hring4, HB4.out⟩
            have HS5 : Hid ((fun w' : World => w'.cell? ⟨w.heap.size + 1, 4, none⟩ = some (.int .i64 (st : Int)) ∧ w'.cell? ⟨gr, Q, none⟩ = some (.int .i64 x) ∧ Below b1 W1 w') (w4.setCell ⟨b1, k, none⟩ (.slice (some ⟨g', 0, none⟩) ((Lk k).length + 1) cap'))) := ⟨by rw [World.cell?_setCell_far _ _ _ _ (by dsimp only; omega)]; exact hview4, by rw [World.cell?_setCell_far _ _ _ _ hrne]; exact hring4, HB4.out.setCell (p := ⟨b1, k, none⟩) (Nat.le_refl _) _⟩
            clear hring4 hview4 hbk4 hown' hgrow hat hrne
            refine hK.out _ _ ?_ (fun hHeld => ?_)
            · clear hK K; exact HS4.out
            clear hK K
            try simp only [List.getElem_toArray, List.getElem_cons_succ, List.getElem_cons_zero, Act.put, List.setIfInBounds_toArray, List.set_cons_zero, List.set_cons_succ]
            refine wpAnyH_take (i := 18) (v := ?_) rfl (by kernel_rfl) (by kernel_rfl) (by kernel_rfl) (fun _ _ _ h => h) (Or.inl ⟨by rfl, ?_⟩) (by assumption) ?_
            rotate_left
            · intro w hSw; (try dsimp only at hSw); go_simp; (try (with_reducible rfl))
            try simp only [List.getElem_toArray, List.getElem_cons_succ, List.getElem_cons_zero, Act.put, List.setIfInBounds_toArray, List.set_cons_zero, List.set_cons_succ]
            refine wpAnyH_ready (rs := [19]) (by kernel_rfl) (by simp) ?_
            refine (AllReadyH.cons rfl (fun K hK => ?_) AllReadyH.nil)
            go_simp
            refine hK.out _ _ ?_ (fun hHeld => ?_)
            · clear hK K; exact HS5.out
            clear hK K
            try simp only [List.getElem_toArray, List.getElem_cons_succ, List.getElem_cons_zero, Act.put, List.setIfInBounds_toArray, List.set_cons_zero, List.set_cons_succ]
            refine wpAnyH_done (by kernel_rfl) ?_ _
            have HB5 := Lib.hid HS5.out.2.2
            clear hHeld HS5 HS4 hck4 hfr4 HR4 HB4
            go_wp2
            go_roundw
            case rel =>
              refine ⟨k + 1, by omega, by go_num, ?_, HB5.out⟩
              show StripR _ _ _ _ _
              have e := HLK.out x HXV.out
              rw [← e]
              exact HN4.out
            case measure => simp [intOf]; omega
          · go_simp
            refine hK.out _ _ ?_ (fun hHeld => ?_)
            · clear hK K; exact ⟨cellA _ HV4Q.out, cellA _ HXC.out, (HBQ.out.alloc (by omega) _).drew⟩
            clear hK K
            try simp only [List.getElem_toArray, List.getElem_cons_succ, List.getElem_cons_zero, Act.put, List.setIfInBounds_toArray, List.set_cons_zero, List.set_cons_succ]
            refine wpAnyH_ready (rs := [5]) (by kernel_rfl) (by simp) ?_
            refine (AllReadyH.cons rfl (fun K hK => ?_) AllReadyH.nil)
            have ck2 := cellA (.cells #[.int .i64 x] 3) ck
            go_simp
            refine hK.out _ _ ?_ (fun hHeld => ?_)
            · clear hK K; exact ⟨cellA _ HV4Q.out, cellA _ HXC.out, (HBQ.out.alloc (by omega) _).drew⟩
            clear hK K
            try simp only [List.getElem_toArray, List.getElem_cons_succ, List.getElem_cons_zero, Act.put, List.setIfInBounds_toArray, List.set_cons_zero, List.set_cons_succ]
            refine wpAnyH_ready (rs := [17]) (by kernel_rfl) (by simp) ?_
            refine (AllReadyH.cons rfl (fun K hK => ?_) AllReadyH.nil)
            refine step_append_at _ rfl (.tmp 87) (.tmp 98) 38 rfl b1 3 i0' _ 1 8 Tryd.underlying38 hi0' hz0' hz1' hz2' rfl (by decide) _ (Lk k).length _ rfl ((HROW.out.alloc _).drew) ⟨wq.heap.size, 0, none⟩ 1 1 [.int .i64 x] rfl rfl (cell_one_new _ _ _) (by simp [Value.oneCell']) (by simp only [maxLen]; omega) (by omega) (by simp; omega) ?_
            intro v' w4 hown' hgrow _ hat
            obtain ⟨g', cap', rfl⟩ := ownsRow_succ hown'
            have HB4 : Hid (Below b1 W1 w4) := (HBQ.out.alloc (by omega) (.cells #[.int .i64 x] 3)).drew.grown hgrow (by simp; omega) (fun z e => (HROW.out.lt z e).1)
            have HR4 : Hid (RowsN w4 b1 (pre ++ (.slice (some ⟨g', 0, none⟩) ((Lk k).length + 1) cap', Lk k ++ [x]) :: (post ++ [(.slice (some ⟨gr, 0, none⟩) R8 cr, xs)]))) := (HRW.out.alloc (.cells #[.int .i64 x] 3)).drew.step hown' hgrow hat
            have HN4 : Hid (StripR (w4.setCell ⟨b1, k, none⟩ (.slice (some ⟨g', 0, none⟩) ((Lk k).length + 1) cap')) b1 st (fun j => if j = k then Lk k ++ [x] else Lk j) [(.slice (some ⟨gr, 0, none⟩) R8 cr, xs)]) := StripR.put hkst hpl (HBK.out.alloc (.cells #[.int .i64 x] 3)).drew hpn HPG.out (HRW.out.alloc (.cells #[.int .i64 x] 3)).drew hown' hgrow hat
            have hring4 : w4.cell? ⟨gr, Q, none⟩ = some (.int .i64 x) := by
              have h := HR4.out.1 (.slice (some ⟨gr, 0, none⟩) R8 cr, xs) (by simp)
              rw [HXL.out] at h
              rw [h.cellAt Q (by omega)]
              exact HXQ.out
            have hview4 : w4.cell? ⟨w.heap.size + 1, 4, none⟩ = some (.int .i64 (st : Int)) := (HB4.out.cell (p := ⟨w.heap.size + 1, 4, none⟩) (by dsimp only; omega)).trans HV4.out
            have hbk4 : Bk w4 b1 38 ((pre ++ (vk, Lk k) :: post).map Prod.fst).toArray := (HBK.out.alloc (.cells #[.int .i64 x] 3)).drew.grown hgrow (fun e => (row_not HROW.out HBK.out) e.symm)
            have hfr4 := hbk4.frozen k
            have hck4 : w4.cell? ⟨b1, k, none⟩ = some vk := (hbk4.cell k).trans ((HBK.out.cell k).symm.trans ck)
            have hrne : b1 ≠ gr := by
              intro e
              have h := row_not (HR4.out.1 (.slice (some ⟨gr, 0, none⟩) R8 cr, xs) (by simp)) hbk4
              exact h (by rw [e]; rfl)
            have HS4 : Hid ((fun w' : World => w'.cell? ⟨w.heap.size + 1, 4, none⟩ = some (.int .i64 (st : Int)) ∧ w'.cell? ⟨gr, Q, none⟩ = some (.int .i64 x) ∧ Below b1 W1 w') w4) := ⟨hview4, hring4, HB4.out⟩
            have HS5 : Hid ((fun w' : World => w'.cell? ⟨w.heap.size + 1, 4, none⟩ = some (.int .i64 (st : Int)) ∧ w'.cell? ⟨gr, Q, none⟩ = some (.int .i64 x) ∧ Below b1 W1 w') (w4.setCell ⟨b1, k, none⟩ (.slice (some ⟨g', 0, none⟩) ((Lk k).length + 1) cap'))) := ⟨by rw [World.cell?_setCell_far _ _ _ _ (by dsimp only; omega)]; exact hview4, by rw [World.cell?_setCell_far _ _ _ _ hrne]; exact hring4, HB4.out.setCell (p := ⟨b1, k, none⟩) (Nat.le_refl _) _⟩
            clear hring4 hview4 hbk4 hown' hgrow hat hrne
            refine hK.out _ _ ?_ (fun hHeld => ?_)
            · clear hK K; exact HS4.out
            clear hK K
            try simp only [List.getElem_toArray, List.getElem_cons_succ, List.getElem_cons_zero, Act.put, List.setIfInBounds_toArray, List.set_cons_zero, List.set_cons_succ]
            refine wpAnyH_take (i := 18) (v := ?_) rfl (by kernel_rfl) (by kernel_rfl) (by kernel_rfl) (fun _ _ _ h => h) (Or.inl ⟨by rfl, ?_⟩) (by assumption) ?_
            rotate_left
            · intro w hSw; (try dsimp only at hSw); go_simp; (try (with_reducible rfl))
            try simp only [List.getElem_toArray, List.getElem_cons_succ, List.getElem_cons_zero, Act.put, List.setIfInBounds_toArray, List.set_cons_zero, List.set_cons_succ]
            refine wpAnyH_ready (rs := [19]) (by kernel_rfl) (by simp) ?_
            refine (AllReadyH.cons rfl (fun K hK => ?_) AllReadyH.nil)
            go_simp
            refine hK.out _ _ ?_ (fun hHeld => ?_)
            · clear hK K; exact HS5.out
            clear hK K
            try simp only [List.getElem_toArray, List.getElem_cons_succ, List.getElem_cons_zero, Act.put, List.setIfInBounds_toArray, List.set_cons_zero, List.set_cons_succ]
            refine wpAnyH_done (by kernel_rfl) ?_ _
            have HB5 := Lib.hid HS5.out.2.2
            clear hHeld HS5 HS4 hck4 hfr4 HR4 HB4
            go_wp2
            go_roundw
            case rel =>
              refine ⟨k + 1, by omega, by go_num, ?_, HB5.out⟩
              show StripR _ _ _ _ _
              have e := HLK.out x HXV.out
              rw [← e]
              exact HN4.out
            case measure => simp [intOf]; omega
        · obtain rfl : st = k := by omega
          have HST2 : Hid (StripR wq b1 st (fun k => rowU rows cx cy st lo k (i + 1)) []) := (HSQ.out.to (fun k hk => by rw [if_pos hk])).only
          go_wp2
          go_roundw
          case rel => exact ⟨i + 1, by omega, by rw [← HRE.out]; go_num, HST2.out, HBQ.out⟩
          case measure => simp [intOf]; omega
    · obtain rfl : cnt = i := by omega
      have hrI : ¬ ((lo + cnt : Nat) : Int) ≤ (hi : Int) := by omega
      go_wp2
      go_ret2
      have hlen : (unL rows cx cy st lo cnt).length = st := by simp [unL]
      refine ⟨⟨some ⟨b1, 0, none⟩, st, by rw [hlen]; rfl, ?_⟩, HBW.out.trans (HX.out.mono (by omega))⟩
      rw [hlen]
      exact HST.out.read (fun k hk => by rw [rowU_length]; omega)

end Go.Proofs.YtofdjapbofagiaaDoor

namespace Go.Proofs.YtofdjapbofagiaaDoor
open Go.RowKit

theorem OwnL.later {w w' : World} {base : Nat} {p : Value} {n : Nat} {rows : List (List Int)} (h : OwnL w base p n rows) (hb : Below w.heap.size w w') : OwnL w' base p n rows := by
  obtain ⟨vs, h1, h2⟩ := h
  exact ⟨vs, ownLater h1 hb, fun j hj => by obtain ⟨v, a, b⟩ := h2 j hj; exact ⟨v, a, ownLater b hb⟩⟩
theorem hasB_less {rows : List (List Int)} {cx cy r s : Int} (h : hasB rows cx cy s = true) (hr : r ≤ s) : hasB rows cx cy r = true := by
  unfold hasB at h ⊢
  rw [Bool.and_eq_true, fromB_one, fromB_one] at h ⊢
  omega
/-- The error of a ring of a size that is permitted, and its pixels. -/
theorem rr_has {rows : List (List Int)} {n m : Nat} {cx cy : Int} {r : Nat} (hg : gridE 24 24 rows = 0) (hn : rows.length = n) (hm : (rows.getD 0 []).length = m) (hr : 1 ≤ r ∧ r ≤ 24) :
    rrE n m cx cy (r : Int) = (if hasB rows cx cy (r : Int) = true then 0 else 23) ∧ (hasB rows cx cy (r : Int) = true → rrX rows n m cx cy (r : Int) = (ringTo cx cy r 5).map (pix rows)) := by
  obtain ⟨h1, h2⟩ := rr_same (cx := cx) (cy := cy) (r := (r : Int)) hg hn hm
  have e : ringE rows cx cy (r : Int) = if hasB rows cx cy (r : Int) = true then 0 else 23 := by
    unfold ringE
    rw [if_pos hg, if_pos (fromB_one.2 (by omega))]
  refine ⟨h1.trans e, fun hb => ?_⟩
  rw [h2]
  unfold ringX
  rw [e, if_pos hb, if_pos rfl, Int.toNat_natCast]

set_option maxRecDepth 100000 in
set_option maxHeartbeats 2000000 in
theorem rv_lo (A : Option Addr) (n c : Nat) (cx cy lo hi st : Int) (w : World) (h1 : ¬ (1 ≤ lo ∧ lo ≤ 24)) :
    Calls Tryd.prog 17 #[.agg #[.slice A n c], .agg #[.int .i64 cx, .int .i64 cy, .int .i64 lo, .int .i64 hi, .int .i64 st]] w (ResG w 2 []) := by
  have hb0 : Below w.heap.size w ((w.alloc (.cells #[.slice A n c] 24)).alloc (.cells #[.int .i64 cx, .int .i64 cy, .int .i64 lo, .int .i64 hi, .int .i64 st] 30)) := ((Below.refl _ w).alloc (Nat.le_refl _) _).alloc (by simp) _
  have HB0 := Lib.hid hb0
  have CL : Hid (∀ W, Calls Tryd.prog 30 #[.int .i64 lo, .int .i64 1, .int .i64 24] W fun e w' => e = .returned (.bool false) ∧ W = w') := fun W => by
    have h := within_any lo 1 24 W
    rw [show fromB 1 24 [lo] = false by rw [Bool.eq_false_iff]; intro e; exact h1 (fromB_one.1 e)] at h
    exact h
  clear h1
  clear hb0
  go_enter Tryd.func17, Tryd.ntmps17
  go_wp2_with fail
  refine (CL.out _).mono ?_
  rintro e w' ⟨rfl, rfl⟩
  go_wp2
  go_ret2
  exact ResG.none_ HB0.out

set_option maxRecDepth 100000 in
set_option maxHeartbeats 2000000 in
theorem rv_hi (A : Option Addr) (n c : Nat) (cx cy lo hi st : Int) (w : World) (h1 : 1 ≤ lo ∧ lo ≤ 24) (h2 : ¬ (1 ≤ hi ∧ hi ≤ 24)) :
    Calls Tryd.prog 17 #[.agg #[.slice A n c], .agg #[.int .i64 cx, .int .i64 cy, .int .i64 lo, .int .i64 hi, .int .i64 st]] w (ResG w 2 []) := by
  have hb0 : Below w.heap.size w ((w.alloc (.cells #[.slice A n c] 24)).alloc (.cells #[.int .i64 cx, .int .i64 cy, .int .i64 lo, .int .i64 hi, .int .i64 st] 30)) := ((Below.refl _ w).alloc (Nat.le_refl _) _).alloc (by simp) _
  have HB0 := Lib.hid hb0
  have CL : Hid (∀ W, Calls Tryd.prog 30 #[.int .i64 lo, .int .i64 1, .int .i64 24] W fun e w' => e = .returned (.bool true) ∧ W = w') := fun W => by
    have h := within_any lo 1 24 W
    rw [show fromB 1 24 [lo] = true by rw [fromB_one]; exact h1] at h
    exact h
  have CH : Hid (∀ W, Calls Tryd.prog 30 #[.int .i64 hi, .int .i64 1, .int .i64 24] W fun e w' => e = .returned (.bool false) ∧ W = w') := fun W => by
    have h := within_any hi 1 24 W
    rw [show fromB 1 24 [hi] = false by rw [Bool.eq_false_iff]; intro e; exact h2 (fromB_one.1 e)] at h
    exact h
  clear h1 h2
  clear hb0
  go_enter Tryd.func17, Tryd.ntmps17
  go_wp2_with fail
  refine (CL.out _).mono ?_
  rintro e w' ⟨rfl, rfl⟩
  go_wp2_with fail
  refine (CH.out _).mono ?_
  rintro e w' ⟨rfl, rfl⟩
  go_wp2
  go_ret2
  exact ResG.none_ HB0.out

set_option maxRecDepth 100000 in
set_option maxHeartbeats 2000000 in
theorem rv_st (A : Option Addr) (n c : Nat) (cx cy lo hi st : Int) (w : World) (h1 : 1 ≤ lo ∧ lo ≤ 24) (h2 : 1 ≤ hi ∧ hi ≤ 24) (h3 : ¬ (1 ≤ st ∧ st ≤ 40)) :
    Calls Tryd.prog 17 #[.agg #[.slice A n c], .agg #[.int .i64 cx, .int .i64 cy, .int .i64 lo, .int .i64 hi, .int .i64 st]] w (ResG w 2 []) := by
  have hb0 : Below w.heap.size w ((w.alloc (.cells #[.slice A n c] 24)).alloc (.cells #[.int .i64 cx, .int .i64 cy, .int .i64 lo, .int .i64 hi, .int .i64 st] 30)) := ((Below.refl _ w).alloc (Nat.le_refl _) _).alloc (by simp) _
  have HB0 := Lib.hid hb0
  have CL : Hid (∀ W, Calls Tryd.prog 30 #[.int .i64 lo, .int .i64 1, .int .i64 24] W fun e w' => e = .returned (.bool true) ∧ W = w') := fun W => by
    have h := within_any lo 1 24 W
    rw [show fromB 1 24 [lo] = true by rw [fromB_one]; exact h1] at h
    exact h
  have CH : Hid (∀ W, Calls Tryd.prog 30 #[.int .i64 hi, .int .i64 1, .int .i64 24] W fun e w' => e = .returned (.bool true) ∧ W = w') := fun W => by
    have h := within_any hi 1 24 W
    rw [show fromB 1 24 [hi] = true by rw [fromB_one]; exact h2] at h
    exact h
  have CS : Hid (∀ W, Calls Tryd.prog 30 #[.int .i64 st, .int .i64 1, .int .i64 40] W fun e w' => e = .returned (.bool false) ∧ W = w') := fun W => by
    have h := within_any st 1 40 W
    rw [show fromB 1 40 [st] = false by rw [Bool.eq_false_iff]; intro e; exact h3 (fromB_one.1 e)] at h
    exact h
  clear h1 h2 h3
  clear hb0
  go_enter Tryd.func17, Tryd.ntmps17
  go_wp2_with fail
  refine (CL.out _).mono ?_
  rintro e w' ⟨rfl, rfl⟩
  go_wp2_with fail
  refine (CH.out _).mono ?_
  rintro e w' ⟨rfl, rfl⟩
  go_wp2_with fail
  refine (CS.out _).mono ?_
  rintro e w' ⟨rfl, rfl⟩
  go_wp2
  go_ret2
  exact ResG.none_ HB0.out

set_option maxRecDepth 100000 in
set_option maxHeartbeats 2000000 in
theorem rv_order (A : Option Addr) (n c : Nat) (cx cy lo hi st : Int) (w : World) (h1 : 1 ≤ lo ∧ lo ≤ 24) (h2 : 1 ≤ hi ∧ hi ≤ 24) (h3 : 1 ≤ st ∧ st ≤ 40) (h4 : ¬ lo ≤ hi) :
    Calls Tryd.prog 17 #[.agg #[.slice A n c], .agg #[.int .i64 cx, .int .i64 cy, .int .i64 lo, .int .i64 hi, .int .i64 st]] w (ResG w 9 []) := by
  have hb0 : Below w.heap.size w ((w.alloc (.cells #[.slice A n c] 24)).alloc (.cells #[.int .i64 cx, .int .i64 cy, .int .i64 lo, .int .i64 hi, .int .i64 st] 30)) := ((Below.refl _ w).alloc (Nat.le_refl _) _).alloc (by simp) _
  have HB0 := Lib.hid hb0
  have CL : Hid (∀ W, Calls Tryd.prog 30 #[.int .i64 lo, .int .i64 1, .int .i64 24] W fun e w' => e = .returned (.bool true) ∧ W = w') := fun W => by
    have h := within_any lo 1 24 W
    rw [show fromB 1 24 [lo] = true by rw [fromB_one]; exact h1] at h
    exact h
  have CH : Hid (∀ W, Calls Tryd.prog 30 #[.int .i64 hi, .int .i64 1, .int .i64 24] W fun e w' => e = .returned (.bool true) ∧ W = w') := fun W => by
    have h := within_any hi 1 24 W
    rw [show fromB 1 24 [hi] = true by rw [fromB_one]; exact h2] at h
    exact h
  have CS : Hid (∀ W, Calls Tryd.prog 30 #[.int .i64 st, .int .i64 1, .int .i64 40] W fun e w' => e = .returned (.bool true) ∧ W = w') := fun W => by
    have h := within_any st 1 40 W
    rw [show fromB 1 40 [st] = true by rw [fromB_one]; exact h3] at h
    exact h
  obtain ⟨a1, a2⟩ := h1
  obtain ⟨a3, a4⟩ := h2
  obtain ⟨a5, a6⟩ := h3
  have h5 : hi < lo := by omega
  clear h4
  clear hb0
  go_enter Tryd.func17, Tryd.ntmps17
  go_wp2_with fail
  refine (CL.out _).mono ?_
  rintro e w' ⟨rfl, rfl⟩
  go_wp2_with fail
  refine (CH.out _).mono ?_
  rintro e w' ⟨rfl, rfl⟩
  go_wp2_with fail
  refine (CS.out _).mono ?_
  rintro e w' ⟨rfl, rfl⟩
  go_wp2
  go_ret2
  exact ResG.none_ HB0.out

set_option maxRecDepth 100000 in
set_option maxHeartbeats 2000000 in
theorem rv_large (A : Option Addr) (n c : Nat) (cx cy lo hi st : Int) (w : World) (h1 : 1 ≤ lo ∧ lo ≤ 24) (h2 : 1 ≤ hi ∧ hi ≤ 24) (h3 : 1 ≤ st ∧ st ≤ 40) (h4 : lo ≤ hi) (h5 : ¬ hi - lo + 1 ≤ 12) :
    Calls Tryd.prog 17 #[.agg #[.slice A n c], .agg #[.int .i64 cx, .int .i64 cy, .int .i64 lo, .int .i64 hi, .int .i64 st]] w (ResG w 8 []) := by
  have hb0 : Below w.heap.size w ((w.alloc (.cells #[.slice A n c] 24)).alloc (.cells #[.int .i64 cx, .int .i64 cy, .int .i64 lo, .int .i64 hi, .int .i64 st] 30)) := ((Below.refl _ w).alloc (Nat.le_refl _) _).alloc (by simp) _
  have HB0 := Lib.hid hb0
  have CL : Hid (∀ W, Calls Tryd.prog 30 #[.int .i64 lo, .int .i64 1, .int .i64 24] W fun e w' => e = .returned (.bool true) ∧ W = w') := fun W => by
    have h := within_any lo 1 24 W
    rw [show fromB 1 24 [lo] = true by rw [fromB_one]; exact h1] at h
    exact h
  have CH : Hid (∀ W, Calls Tryd.prog 30 #[.int .i64 hi, .int .i64 1, .int .i64 24] W fun e w' => e = .returned (.bool true) ∧ W = w') := fun W => by
    have h := within_any hi 1 24 W
    rw [show fromB 1 24 [hi] = true by rw [fromB_one]; exact h2] at h
    exact h
  have CS : Hid (∀ W, Calls Tryd.prog 30 #[.int .i64 st, .int .i64 1, .int .i64 40] W fun e w' => e = .returned (.bool true) ∧ W = w') := fun W => by
    have h := within_any st 1 40 W
    rw [show fromB 1 40 [st] = true by rw [fromB_one]; exact h3] at h
    exact h
  obtain ⟨a1, a2⟩ := h1
  obtain ⟨a3, a4⟩ := h2
  obtain ⟨a5, a6⟩ := h3
  have h6 : ¬ hi < lo := by omega
  have h7 : 12 < hi - lo + 1 := by omega
  clear h4 h5
  clear hb0
  go_enter Tryd.func17, Tryd.ntmps17
  go_wp2_with fail
  refine (CL.out _).mono ?_
  rintro e w' ⟨rfl, rfl⟩
  go_wp2_with fail
  refine (CH.out _).mono ?_
  rintro e w' ⟨rfl, rfl⟩
  go_wp2_with fail
  refine (CS.out _).mono ?_
  rintro e w' ⟨rfl, rfl⟩
  go_wp2
  go_ret2
  exact ResG.none_ HB0.out

end Go.Proofs.YtofdjapbofagiaaDoor

namespace Go.Proofs.YtofdjapbofagiaaDoor
open Go.RowKit

theorem strip_rows (rows : List (List Int)) (cx cy : Int) (st lo cnt k : Nat) (hk : k < st) : (unL rows cx cy st lo cnt).getD k [] = rowU rows cx cy st lo k cnt := by
  simp [unL, List.getD_eq_getElem?_getD, hk]
set_option maxRecDepth 100000 in
set_option maxHeartbeats 8000000 in
theorem rv_well (ad : Addr) (n c m c' : Nat) (B : Option Addr) (rows : List (List Int)) (cx cy : Int) (lo hi st cnt : Nat) (w : World) (hr : RdG w (some ad) n rows) (hn : 0 < n ∧ n ≤ 24) (hm : 0 < m ∧ m ≤ 24) (hck : CellAt w ad (.slice B m c')) (hlm : (rows.getD 0 []).length = m) (hg : gridE 24 24 rows = 0) (hgb : ∀ r ∈ rows, r.length = m ∧ ∀ x ∈ r, 0 ≤ x ∧ x ≤ 255) (h1 : 1 ≤ (lo : Int) ∧ (lo : Int) ≤ 24) (h2 : 1 ≤ (hi : Int) ∧ (hi : Int) ≤ 24) (h3 : 1 ≤ (st : Int) ∧ (st : Int) ≤ 40) (hcn : lo + cnt = hi + 1) (hc12 : 1 ≤ cnt ∧ cnt ≤ 12) (E : Int) (L : List (List Int)) (hE : (if hasB rows cx cy (hi : Int) = true then 0 else 23) = E) (hL : (if hasB rows cx cy (hi : Int) = true then unL rows cx cy st lo cnt else []) = L) :
    Calls Tryd.prog 17 #[.agg #[.slice (some ad) n c], .agg #[.int .i64 cx, .int .i64 cy, .int .i64 (lo : Int), .int .i64 (hi : Int), .int .i64 (st : Int)]] w (ResG w E L) := by
  have hb0 : Below w.heap.size w ((w.alloc (.cells #[.slice (some ad) n c] 24)).alloc (.cells #[.int .i64 cx, .int .i64 cy, .int .i64 (lo : Int), .int .i64 (hi : Int), .int .i64 (st : Int)] 30)) := ((Below.refl _ w).alloc (Nat.le_refl _) _).alloc (by simp) _
  have HB0 := Lib.hid hb0
  have CL : Hid (∀ W, Calls Tryd.prog 30 #[.int .i64 (lo : Int), .int .i64 1, .int .i64 24] W fun e w' => e = .returned (.bool true) ∧ W = w') := fun W => by
    have h := within_any lo 1 24 W
    rw [show fromB 1 24 [lo] = true by rw [fromB_one]; exact h1] at h
    exact h
  have CH : Hid (∀ W, Calls Tryd.prog 30 #[.int .i64 (hi : Int), .int .i64 1, .int .i64 24] W fun e w' => e = .returned (.bool true) ∧ W = w') := fun W => by
    have h := within_any hi 1 24 W
    rw [show fromB 1 24 [hi] = true by rw [fromB_one]; exact h2] at h
    exact h
  have CS : Hid (∀ W, Calls Tryd.prog 30 #[.int .i64 (st : Int), .int .i64 1, .int .i64 40] W fun e w' => e = .returned (.bool true) ∧ W = w') := fun W => by
    have h := within_any st 1 40 W
    rw [show fromB 1 40 [st] = true by rw [fromB_one]; exact h3] at h
    exact h
  have HI0 : Hid (Bk ((w.alloc (.cells #[.slice (some ad) n c] 24)).alloc (.cells #[.int .i64 cx, .int .i64 cy, .int .i64 (lo : Int), .int .i64 (hi : Int), .int .i64 (st : Int)] 30)) w.heap.size 24 #[.slice (some ad) n c]) := (Bk.new w 24 #[.slice (some ad) n c]).alloc _
  have HV0 : Hid (Bk ((w.alloc (.cells #[.slice (some ad) n c] 24)).alloc (.cells #[.int .i64 cx, .int .i64 cy, .int .i64 (lo : Int), .int .i64 (hi : Int), .int .i64 (st : Int)] 30)) (w.heap.size + 1) 30 #[.int .i64 cx, .int .i64 cy, .int .i64 (lo : Int), .int .i64 (hi : Int), .int .i64 (st : Int)]) := by
    have := Bk.new (w.alloc (.cells #[.slice (some ad) n c] 24)) 30 #[.int .i64 cx, .int .i64 cy, .int .i64 (lo : Int), .int .i64 (hi : Int), .int .i64 (st : Int)]
    show Bk _ _ _ _
    simpa using this
  obtain ⟨i0', hi0', hz0', hz1', hz2'⟩ := info_parts intInfo'
  obtain ⟨i0, hi0, hz0, hz1, hz2⟩ := info_parts sliceInfo
  have HSAME : Hid (∀ r : Nat, 1 ≤ r → r ≤ 24 → rrE n m cx cy (r : Int) = (if hasB rows cx cy (r : Int) = true then 0 else 23) ∧ (hasB rows cx cy (r : Int) = true → rrX rows n m cx cy (r : Int) = (ringTo cx cy r 5).map (pix rows))) := fun r a b => rr_has hg hr.1 hlm ⟨a, b⟩
  have CRR : Hid (∀ W, Below w.heap.size w W → ∀ r : Nat, Calls Tryd.prog 15 #[.agg #[.slice (some ad) n c], .agg #[.int .i64 cx, .int .i64 cy], .int .i64 (r : Int)] W (OwnRes W (rrE n m cx cy (r : Int)) (rrX rows n m cx cy (r : Int)))) := fun W hW r =>
    refRingOf_any ad n c m c' B rows cx cy W (hr.below hW) hn hm (hck.below hW).1 (hck.below hW).2 hgb (r : Int)
  have HEL : Hid ((if hasB rows cx cy (hi : Int) = true then 0 else 23) = E ∧ (if hasB rows cx cy (hi : Int) = true then unL rows cx cy st lo cnt else []) = L) := ⟨hE, hL⟩
  obtain ⟨a1, a2⟩ := h1
  obtain ⟨a3, a4⟩ := h2
  obtain ⟨a5, a6⟩ := h3
  have h6 : ¬ (hi : Int) < (lo : Int) := by omega
  have h7 : ¬ 12 < (hi : Int) - (lo : Int) + 1 := by omega
  have hd1 : decide ((hi : Int) < (lo : Int)) = false := decide_eq_false h6
  have hd2 : decide (hi < lo) = false := decide_eq_false (by omega)
  have hd3 : decide (12 < (hi : Int) - (lo : Int) + 1) = false := decide_eq_false h7
  have hst0 : 0 < st ∧ st ≤ 40 := by omega
  obtain ⟨W1, hW1⟩ : ∃ W, ((w.alloc (.cells #[.slice (some ad) n c] 24)).alloc (.cells #[.int .i64 cx, .int .i64 cy, .int .i64 (lo : Int), .int .i64 (hi : Int), .int .i64 (st : Int)] 30)) = W := ⟨_, rfl⟩
  have hsz1 : W1.heap.size = w.heap.size + 2 := by rw [← hW1]; simp
  rw [hW1] at HB0 HI0 HV0
  have HI := HI0
  have HV := HV0
  have HZ := Lib.hid hsz1
  have v2 : W1.cell? ⟨w.heap.size + 1, 2, none⟩ = some (.int .i64 (lo : Int)) := by rw [HV.out.cell]; rfl
  have v3 : W1.cell? ⟨w.heap.size + 1, 3, none⟩ = some (.int .i64 (hi : Int)) := by rw [HV.out.cell]; rfl
  have v4 : W1.cell? ⟨w.heap.size + 1, 4, none⟩ = some (.int .i64 (st : Int)) := by rw [HV.out.cell]; rfl
  clear hr hb0 hck hg hgb hlm hE hL hsz1 HI0 HV0
  go_enter Tryd.func17, Tryd.ntmps17
  try simp only [hW1]
  go_wp2_with fail
  refine (CL.out _).mono ?_
  rintro e w' ⟨rfl, rfl⟩
  go_wp2_with fail
  refine (CH.out _).mono ?_
  rintro e w' ⟨rfl, rfl⟩
  go_wp2_with fail
  refine (CS.out _).mono ?_
  rintro e w' ⟨rfl, rfl⟩
  go_wp2
  clear hW1 v2 v3 v4 CL CH CS
  go_loopw [6, 7] (fun p s wr => ∃ k : Nat, k ≤ st ∧ s = .int .i64 (k : Int) ∧ Hid (OwnL wr W1.heap.size p k (unL rows cx cy st lo cnt) ∧ Below W1.heap.size W1 wr) ∧ Hid (k = 0 ∨ hasB rows cx cy (hi : Int) = true)) (fun _ s _ => st - (intOf s).toNat)
  case atStart => exact ⟨0, Nat.zero_le _, rfl, ⟨⟨[], World.ownsRow_nil _ _ _ _, fun j hj => absurd hj (by omega)⟩, Below.refl _ _⟩, .inl rfl⟩
  case round =>
    obtain ⟨k, hk, rfl, HO, HHB⟩ := hrel
    obtain ⟨wo, hwo⟩ : ∃ W, W = wr := ⟨_, rfl⟩
    subst hwo
    have v4 : wo.cell? ⟨w.heap.size + 1, 4, none⟩ = some (.int .i64 (st : Int)) := by rw [(HV.out.later HO.out.2).cell]; rfl
    have v2 : wo.cell? ⟨w.heap.size + 1, 2, none⟩ = some (.int .i64 (lo : Int)) := by rw [(HV.out.later HO.out.2).cell]; rfl
    have hszo : W1.heap.size ≤ wo.heap.size := HO.out.2.size
    by_cases hkst : k < st
    · have hkI : (k : Int) < (st : Int) := by omega
      have hk0 : (0 : Int) ≤ (k : Int) := by omega
      go_wp2
      clear v4 v2
      go_loopw [8, 9] (fun v s wq => ∃ i : Nat, i ≤ cnt ∧ s = .int .i64 ((lo + i : Nat) : Int) ∧ Hid (∀ j, j < i → hasB rows cx cy ((lo + j : Nat) : Int) = true) ∧ Hid (wq.ownsRow wo.heap.size 3 1 v i ((rowU rows cx cy st lo k i).map (Value.int .i64)) ∧ Below wo.heap.size wo wq)) (fun _ s _ => hi + 1 - (intOf s).toNat)
      case atStart => exact ⟨0, Nat.zero_le _, rfl, fun j hj => absurd hj (by omega), World.ownsRow_nil _ _ _ _, Below.refl _ _⟩
      case round =>
        obtain ⟨i, hi', rfl, HAL, HR⟩ := hrel
        obtain ⟨Ar, cpr, rfl, _⟩ := own_form HR.out.1
        have HBQ : Hid (Below W1.heap.size W1 wr) := HO.out.2.trans (HR.out.2.mono hszo)
        have hszq : wo.heap.size ≤ wr.heap.size := HR.out.2.size
        have v3 : wr.cell? ⟨w.heap.size + 1, 3, none⟩ = some (.int .i64 (hi : Int)) := by rw [(HV.out.later HBQ.out).cell]; rfl
        by_cases hlt : i < cnt
        · obtain ⟨r, hre⟩ : ∃ r, lo + i = r := ⟨_, rfl⟩
          have hrb : 1 ≤ r ∧ r ≤ hi ∧ r ≤ 24 := by omega
          have hrI : (r : Int) ≤ (hi : Int) := by omega
          have hr0 : (0 : Int) ≤ (r : Int) := by omega
          have hr24 : (r : Int) ≤ 24 := by omega
          have C := Lib.hid (CRR.out wr (HB0.out.trans (HBQ.out.mono HB0.out.size)) r)
          have v0 : wr.cell? ⟨w.heap.size + 1, 0, none⟩ = some (.int .i64 cx) := by rw [(HV.out.later HBQ.out).cell]; rfl
          have v1 : wr.cell? ⟨w.heap.size + 1, 1, none⟩ = some (.int .i64 cy) := by rw [(HV.out.later HBQ.out).cell]; rfl
          have g0 : wr.cell? ⟨w.heap.size, 0, none⟩ = some (.slice (some ad) n c) := by rw [(HI.out.later HBQ.out).cell]; rfl
          obtain ⟨q1, q2⟩ := HSAME.out r (by omega) (by omega)
          rw [q1] at C
          have HRE := Lib.hid hre
          rw [hre]
          cases hbr : hasB rows cx cy (r : Int) with
          | false =>
            have hne : hasB rows cx cy (hi : Int) = false := by
              cases h : hasB rows cx cy (hi : Int) with
              | false => rfl
              | true => rw [hasB_less h hrI] at hbr; cases hbr
            have HEL2 : Hid (E = 23 ∧ L = []) := by
              have h := HEL.out
              rw [hne] at h
              exact ⟨h.1.symm, h.2.symm⟩
            rw [hbr] at C
            clear hre q1 q2 hbr hne
            go_wp2_with fail
            refine C.out.mono ?_
            rintro e w2 ⟨⟨v, rfl, ho⟩, hb2⟩
            have HX : Hid (Below w.heap.size w w2) := (HB0.out.trans (HBQ.out.mono HB0.out.size)).trans (hb2.mono (HB0.out.trans (HBQ.out.mono HB0.out.size)).size)
            clear C ho hb2 v0 v1 v3 g0
            go_wp2
            go_ret2
            rw [HEL2.out.1, HEL2.out.2]
            exact ResG.none_ HX.out
          | true =>
            rw [hbr, q2 hbr] at C
            obtain ⟨xs, hxs⟩ : ∃ xs, (ringTo cx cy r 5).map (pix rows) = xs := ⟨_, rfl⟩
            have hxl : xs.length = 8 * r := by rw [← hxs, List.length_map, ring_size]
            rw [hxs] at C
            have HXS := Lib.hid hxs
            obtain ⟨R8, hR8⟩ : ∃ R, 8 * r = R := ⟨_, rfl⟩
            rw [hR8] at hxl
            have HXL := Lib.hid hxl
            have HR8 := Lib.hid hR8
            have hR8b : 0 < R8 ∧ R8 ≤ 192 := by omega
            obtain ⟨P, hP⟩ : ∃ P, R8 * k = P := ⟨_, rfl⟩
            obtain ⟨Q, hQ⟩ : ∃ Q, P / st = Q := ⟨_, rfl⟩
            have hPb : P ≤ 192 * 40 := by rw [← hP]; exact Nat.mul_le_mul hR8b.2 (by omega)
            have hQb : Q < R8 := by
              rw [← hQ, Nat.div_lt_iff_lt_mul hst0.1, ← hP]
              exact Nat.mul_lt_mul_of_pos_left hkst hR8b.1
            have hq0 : 8 * (r : Int) = (R8 : Int) := by omega
            have hq1 : IntKind.i64.wrap ((R8 : Int) * (k : Int)) = (P : Int) := by rw [show (R8 : Int) * (k : Int) = (P : Int) by rw [← hP]; simp]; exact IntWalk.i64_in _ (by omega)
            have hq1' : (R8 : Int) * (k : Int) = (P : Int) := by rw [← hP]; simp
            have hq2 : (P : Int).tdiv (st : Int) = (Q : Int) := by rw [← hQ]; exact (Int.ofNat_tdiv P st).symm
            have hq2' : (P : Int) / (st : Int) = (Q : Int) := by rw [← hQ]; simp
            have hq4 : (0 : Int) ≤ (Q : Int) := by omega
            have hq5 : (Q : Int) < (R8 : Int) := by omega
            have hq7 : ¬ st = 0 := by omega
            have hq8 : (0 : Int) < (st : Int) := by omega
            obtain ⟨x, hx⟩ : ∃ x, xs.getD Q 0 = x := ⟨_, rfl⟩
            have HXV : Hid (x = cellU rows cx cy st k (lo + i)) := by
              show _ = _
              unfold cellU
              rw [HRE.out, HXS.out, HR8.out, hP, hQ, hx]
            have HAL2 : Hid (∀ j, j < i + 1 → hasB rows cx cy ((lo + j : Nat) : Int) = true) := fun j hj => by
              by_cases e : j = i
              · subst e; rw [HRE.out]; exact hbr
              · exact HAL.out j (by omega)
            have HXE := Lib.hid hx
            have hib : i ≤ 12 := by omega
            clear hre q1 q2 hbr hxs hxl hR8 hP hQ hx
            go_wp2_with fail
            refine C.out.mono ?_
            rintro e w2 ⟨⟨v, rfl, ho⟩, hb2⟩
            rw [HXL.out] at ho
            obtain ⟨Av, cr, rfl, hrd, _⟩ := RdI.ofOwnN ho
            obtain ⟨ar, rfl, harb, hca⟩ := hrd.2 hR8b.1
            have ca := hca Q hQb
            rw [HXE.out] at ca
            have HRO : Hid (w2.ownsRow wo.heap.size 3 1 (.slice Ar i cpr) i ((rowU rows cx cy st lo k i).map (Value.int .i64))) := ownLater HR.out.1 hb2
            have HB2 : Hid (Below wo.heap.size wo w2) := HR.out.2.trans (hb2.mono hszq)
            have hsz2 : wo.heap.size ≤ w2.heap.size := HB2.out.size
            have u4 : w2.cell? ⟨w.heap.size + 1, 4, none⟩ = some (.int .i64 (st : Int)) := by rw [(HV.out.later (HBQ.out.trans (hb2.mono HBQ.out.size))).cell]; rfl
            clear C ho hb2 hrd hca v0 v1 v3 g0
            go_wp2_with (at_builtin; refine wpList_append_own _ rfl (.tmp 73) (.tmp 84) 38 rfl wo.heap.size 3 i0' _ 1 8 Tryd.underlying38 hi0' hz0' hz1' hz2' rfl (by decide) _ _ _ rfl (HRO.out.alloc _) ⟨w2.heap.size, 0, none⟩ 1 1 [.int .i64 x] rfl rfl (cell_one_new _ _ _) (by simp [Value.oneCell']) (by unfold maxLen; omega) (by omega) (by simp; omega) ?_)
            intro v' w4 hown' hgrow _
            have HFIN : Hid (w4.ownsRow wo.heap.size 3 1 v' (i + 1) ((rowU rows cx cy st lo k (i + 1)).map (Value.int .i64)) ∧ Below wo.heap.size wo w4) := by
              refine ⟨?_, (HB2.out.alloc HB2.out.size _).grown hgrow (by simp; omega) (fun z e => (HRO.out.lt z e).1)⟩
              rw [rowU_succ, ← HXV.out, List.map_append]
              exact hown'
            clear hown' hgrow hq0 hq1 hq1' hq2 hq2'
            go_wp2
            go_roundw
            case rel => first | exact ⟨i + 1, by omega, by rw [← HRE.out]; go_num, HAL2.out, HFIN.out⟩ | ((repeat apply Exists.intro); exact ⟨⟨i + 1, by omega, by rw [← HRE.out]; go_num, HAL2.out, HFIN.out⟩, rfl⟩)
            case measure => simp [intOf]; omega
        · obtain rfl : cnt = i := by omega
          have hrI : ¬ ((lo + cnt : Nat) : Int) ≤ (hi : Int) := by omega
          have HHB2 : Hid (hasB rows cx cy (hi : Int) = true) := by
            have h := HAL.out (cnt - 1) (by omega)
            rw [show lo + (cnt - 1) = hi by omega] at h
            exact h
          have HOL := Lib.hid (HO.out.1.later HR.out.2)
          obtain ⟨vs, hvs, hrs⟩ := HOL.out
          have HOV := Lib.hid hvs
          have HRS : Hid (True ∧ ∀ j, j < k → ∃ v, vs[j]? = some v ∧ wr.ownsRow W1.heap.size 3 1 v ((unL rows cx cy st lo cnt).getD j []).length (((unL rows cx cy st lo cnt).getD j []).map (Value.int .i64))) := ⟨trivial, hrs⟩
          have HV2 := Lib.hid (ownMono HR.out.1 hszo)
          have hszr : W1.heap.size ≤ wr.heap.size := by omega
          clear hvs hrs
          go_wp2_with (at_builtin; refine wpList_append_own _ rfl (.tmp 86) (.tmp 88) 41 rfl W1.heap.size 38 i0 _ 1 24 Tryd.underlying41 hi0 hz0 hz1 hz2 rfl (by decide) _ _ _ rfl (HOV.out.alloc _) ⟨wr.heap.size, 0, none⟩ 1 1 [_] rfl rfl (cell_one_new _ _ _) (by simp [Value.oneCell']) (by unfold maxLen; omega) (by omega) (by simp; omega) ?_)
          intro v' w4 hown' hgrow _
          have HFIN : Hid (OwnL w4 W1.heap.size v' (k + 1) (unL rows cx cy st lo cnt) ∧ Below W1.heap.size W1 w4) := by
            refine ⟨⟨_, hown', fun j hj => ?_⟩, (HBQ.out.alloc HBQ.out.size _).grown hgrow (by simp; omega) (fun z e => (HOV.out.lt z e).1)⟩
            have hlen : vs.length = k := by have := HOV.out.1; simpa using this
            by_cases hjk : j < k
            · obtain ⟨v, h1, h2⟩ := HRS.out.2 j hjk
              exact ⟨v, by rw [List.getElem?_append_left (by omega)]; exact h1, (h2.alloc _).kept hgrow (own_apart h2 HOV.out)⟩
            · obtain rfl : j = k := by omega
              rw [strip_rows _ _ _ _ _ _ _ hkst, rowU_length]
              exact ⟨_, by rw [List.getElem?_append_right (by omega), hlen]; simp, (HV2.out.alloc _).kept hgrow (own_apart HV2.out HOV.out)⟩
          clear hown' hgrow
          go_wp2
          go_roundw
          case rel => first | exact ⟨k + 1, by omega, by go_num, HFIN.out, .inr HHB2.out⟩ | ((repeat apply Exists.intro); exact ⟨⟨k + 1, by omega, by go_num, HFIN.out, .inr HHB2.out⟩, rfl⟩)
          case measure => simp [intOf]; omega
    · obtain rfl : st = k := by omega
      have HEL2 : Hid (E = 0 ∧ L = unL rows cx cy st lo cnt) := by
        have h := HEL.out
        have h' : hasB rows cx cy (hi : Int) = true := by
          rcases HHB.out with h | h
          · omega
          · exact h
        rw [h'] at h
        exact ⟨h.1.symm, h.2.symm⟩
      have hul : (unL rows cx cy st lo cnt).length = st := by simp [unL]
      obtain ⟨Ao, co, rfl, hro⟩ := HO.out.1.read hul (fun j hj => by rw [strip_rows _ _ _ _ _ _ _ hj, rowU_length]; omega)
      have HRO := Lib.hid hro
      have HUL := Lib.hid hul
      clear hro hul
      go_wp2
      go_ret2
      rw [HEL2.out.1, HEL2.out.2]
      refine ⟨⟨Ao, co, by rw [HUL.out]; rfl, ?_⟩, HB0.out.trans (HO.out.2.mono HB0.out.size)⟩
      rw [HUL.out]
      exact HRO.out

end Go.Proofs.YtofdjapbofagiaaDoor

namespace Go.Proofs.YtofdjapbofagiaaDoor
open Go.RowKit

def vwX (rows : List (List Int)) (cx cy lo hi st : Int) : List (List Int) := if vwE rows cx cy lo hi st = 0 then unL rows cx cy st.toNat lo.toNat (hi - lo + 1).toNat else []
theorem refUn_any (ad : Addr) (n c m c' : Nat) (B : Option Addr) (rows : List (List Int)) (cx cy lo hi st : Int) (w : World) (hr : RdG w (some ad) n rows) (hn : 0 < n ∧ n ≤ 24) (hm : 0 < m ∧ m ≤ 24) (hck : CellAt w ad (.slice B m c')) (hlm : (rows.getD 0 []).length = m) (hg : gridE 24 24 rows = 0) (hgb : ∀ r ∈ rows, r.length = m ∧ ∀ x ∈ r, 0 ≤ x ∧ x ≤ 255) :
    Calls Tryd.prog 17 #[.agg #[.slice (some ad) n c], .agg #[.int .i64 cx, .int .i64 cy, .int .i64 lo, .int .i64 hi, .int .i64 st]] w (ResG w (vwE rows cx cy lo hi st) (vwX rows cx cy lo hi st)) := by
  unfold vwX
  by_cases h1 : 1 ≤ lo ∧ lo ≤ 24
  · by_cases h2 : 1 ≤ hi ∧ hi ≤ 24
    · by_cases h3 : 1 ≤ st ∧ st ≤ 40
      · by_cases h4 : lo ≤ hi
        · by_cases h5 : hi - lo + 1 ≤ 12
          · obtain ⟨l, rfl⟩ : ∃ q : Nat, lo = (q : Int) := ⟨lo.toNat, by omega⟩
            obtain ⟨h, rfl⟩ : ∃ q : Nat, hi = (q : Int) := ⟨hi.toNat, by omega⟩
            obtain ⟨s, rfl⟩ : ∃ q : Nat, st = (q : Int) := ⟨st.toNat, by omega⟩
            have e : vwE rows cx cy l h s = if hasB rows cx cy (h : Int) = true then 0 else 23 := by unfold vwE; rw [if_pos ⟨⟨h1, h2⟩, h3⟩, if_pos h4, if_pos h5]
            rw [e, Int.toNat_natCast, Int.toNat_natCast]
            refine rv_well ad n c m c' B rows cx cy l h s ((h : Int) - (l : Int) + 1).toNat w hr hn hm hck hlm hg hgb h1 h2 h3 (by omega) (by omega) _ _ rfl ?_
            by_cases hb : hasB rows cx cy (h : Int) = true
            · rw [if_pos hb, if_pos hb, if_pos rfl]
            · rw [if_neg hb, if_neg hb, if_neg (by decide)]
          · have e : vwE rows cx cy lo hi st = 8 := by unfold vwE; rw [if_pos ⟨⟨h1, h2⟩, h3⟩, if_pos h4, if_neg h5]
            rw [e, if_neg (by decide)]
            exact rv_large (some ad) n c cx cy lo hi st w h1 h2 h3 h4 h5
        · have e : vwE rows cx cy lo hi st = 9 := by unfold vwE; rw [if_pos ⟨⟨h1, h2⟩, h3⟩, if_neg h4]
          rw [e, if_neg (by decide)]
          exact rv_order (some ad) n c cx cy lo hi st w h1 h2 h3 h4
      · have e : vwE rows cx cy lo hi st = 2 := by unfold vwE; rw [if_neg (fun h => h3 h.2)]
        rw [e, if_neg (by decide)]
        exact rv_st (some ad) n c cx cy lo hi st w h1 h2 h3
    · have e : vwE rows cx cy lo hi st = 2 := by unfold vwE; rw [if_neg (fun h => h2 h.1.2)]
      rw [e, if_neg (by decide)]
      exact rv_hi (some ad) n c cx cy lo hi st w h1 h2
  · have e : vwE rows cx cy lo hi st = 2 := by unfold vwE; rw [if_neg (fun h => h1 h.1.1)]
    rw [e, if_neg (by decide)]
    exact rv_lo (some ad) n c cx cy lo hi st w h1
theorem un_any (ad : Addr) (n c m c' : Nat) (B : Option Addr) (rows : List (List Int)) (cx cy lo hi st : Int) (w : World) (hl : LaidSides w) (hr : RdG w (some ad) n rows) (hn : 0 < n ∧ n ≤ 24) (hm : 0 < m ∧ m ≤ 24) (hck : CellAt w ad (.slice B m c')) (hlm : (rows.getD 0 []).length = m) (hg : gridE 24 24 rows = 0) (hrg : ∀ r ∈ rows, r.length = m) :
    Calls Tryd.prog 13 #[.agg #[.slice (some ad) n c], .agg #[.int .i64 cx, .int .i64 cy, .int .i64 lo, .int .i64 hi, .int .i64 st]] w (ResG w (vwE rows cx cy lo hi st) (vwX rows cx cy lo hi st)) := by
  unfold vwX
  by_cases h1 : (1 ≤ lo ∧ lo ≤ 24) ∧ 1 ≤ hi ∧ hi ≤ 24
  · by_cases h3 : 1 ≤ st ∧ st ≤ 40
    · by_cases h4 : lo ≤ hi
      · by_cases h5 : hi - lo + 1 ≤ 12
        · cases hb : hasB rows cx cy hi with
          | false =>
            have e : vwE rows cx cy lo hi st = 23 := by unfold vwE; rw [if_pos ⟨h1, h3⟩, if_pos h4, if_pos h5, hb]; rfl
            rw [e, if_neg (by decide)]
            exact un_break ad n c m c' B rows cx cy lo hi st w hr hn hm hck hlm hg h1 h3 h4 h5 hb
          | true =>
            have e : vwE rows cx cy lo hi st = 0 := by unfold vwE; rw [if_pos ⟨h1, h3⟩, if_pos h4, if_pos h5, hb]; rfl
            rw [e, if_pos rfl]
            obtain ⟨l, rfl⟩ : ∃ q : Nat, lo = (q : Int) := ⟨lo.toNat, by omega⟩
            obtain ⟨h, rfl⟩ : ∃ q : Nat, hi = (q : Int) := ⟨hi.toNat, by omega⟩
            obtain ⟨s, rfl⟩ : ∃ q : Nat, st = (q : Int) := ⟨st.toNat, by omega⟩
            rw [Int.toNat_natCast, Int.toNat_natCast]
            exact un_well ad n c m c' B rows cx cy l h s ((h : Int) - (l : Int) + 1).toNat w hr hn hm hck hlm hg h1 h3 (by omega) (by omega) hl hrg hb
        · have e : vwE rows cx cy lo hi st = 8 := by unfold vwE; rw [if_pos ⟨h1, h3⟩, if_pos h4, if_neg h5]
          rw [e, if_neg (by decide)]
          exact un_large (some ad) n c rows cx cy lo hi st w hr (by omega) hg h1 h3 h4 h5
      · have e : vwE rows cx cy lo hi st = 9 := by unfold vwE; rw [if_pos ⟨h1, h3⟩, if_neg h4]
        rw [e, if_neg (by decide)]
        exact un_order (some ad) n c rows cx cy lo hi st w hr (by omega) hg h1 h3 h4
    · have e : vwE rows cx cy lo hi st = 2 := by unfold vwE; rw [if_neg (fun h => h3 h.2)]
      rw [e, if_neg (by decide)]
      exact un_range2 (some ad) n c rows cx cy lo hi st w hr (by omega) hg h1 h3
  · have e : vwE rows cx cy lo hi st = 2 := by unfold vwE; rw [if_neg (fun h => h1 h.1)]
    rw [e, if_neg (by decide)]
    exact un_range1 (some ad) n c rows cx cy lo hi st w hr (by omega) hg h1

set_option maxRecDepth 100000 in
set_option maxHeartbeats 2000000 in
/-- Two slices of rows that read as the same rows are equal. -/
theorem lists_same (A B : Option Addr) (n c d : Nat) (rows : List (List Int)) (w : World) (hr : RdGN w A n rows) (hs : RdGN w B n rows) (hn : n ≤ 1000000) :
    Calls Tryd.prog 18 #[.slice A n c, .slice B n d] w fun e w' => e = .returned (.bool true) ∧ Below w.heap.size w w' := by
  have HR := Lib.hid hr
  have HS := Lib.hid hs
  have hne : ((n : Int) != (n : Int)) = false := bne_self_eq_false' _
  clear hr hs
  go_enter Tryd.func18, Tryd.ntmps18
  go_wp2
  clear hne
  go_loopw [5] (fun i wr => ∃ k : Nat, k ≤ n ∧ i = .int .i64 k ∧ Hid (Below w.heap.size w wr)) (fun i _ => n - (intOf i).toNat)
  case atStart => exact ⟨0, Nat.zero_le _, rfl, Below.refl _ _⟩
  case round =>
    obtain ⟨k, hk, rfl, HX⟩ := hrel
    by_cases hlt : k < n
    · have hkI : (k : Int) < (n : Int) := by omega
      have hk0 : (0 : Int) ≤ (k : Int) := by omega
      obtain ⟨ad, eA, hadb, hc⟩ := (HR.out.below HX.out).2 (by omega)
      obtain ⟨bd, eB, hbdb, hd⟩ := (HS.out.below HX.out).2 (by omega)
      subst eA eB
      obtain ⟨B1, m1, c1, ck1, rd1, hm1, _⟩ := hc k hlt
      obtain ⟨B2, m2, c2, ck2, rd2, hm2, _⟩ := hd k hlt
      have HR1 := Lib.hid rd1
      have HR2 := Lib.hid rd2
      have HM := Lib.hid (And.intro hm1 hm2)
      have CI : Hid (∀ W', (fun w' : World => w'.cell? (ad.add k) = some (.slice B1 m1 c1) ∧ w'.cell? (bd.add k) = some (.slice B2 m2 c2) ∧ Below wr.heap.size wr w') W' → Calls Tryd.prog 16 #[.slice B1 m1 c1, .slice B2 m2 c2] W' fun e w' => e = .returned (.bool true) ∧ (fun w' : World => w'.cell? (ad.add k) = some (.slice B1 m1 c1) ∧ w'.cell? (bd.add k) = some (.slice B2 m2 c2) ∧ Below wr.heap.size wr w') w') := by
        rintro W' ⟨g1, g2, g3⟩
        have h := ints_any B1 B2 m1 m2 c1 c2 _ _ W' (HR1.out.below g3) (HR2.out.below g3) HM.out.1 HM.out.2
        rw [decide_eq_true rfl] at h
        refine h.mono ?_
        rintro e w' ⟨he, q, rfl⟩
        exact ⟨he, g1, g2, belowDrewN g3 q⟩
      have HS0 : Hid ((fun w' : World => w'.cell? (ad.add k) = some (.slice B1 m1 c1) ∧ w'.cell? (bd.add k) = some (.slice B2 m2 c2) ∧ Below wr.heap.size wr w') wr.drew) := ⟨ck1, ck2, (Below.refl _ _).drew⟩
      clear hc hd ck1 ck2 rd1 rd2 hm1 hm2
      go_wp2
      refine wp_region_held_drew (S := (fun w' : World => w'.cell? (ad.add k) = some (.slice B1 m1 c1) ∧ w'.cell? (bd.add k) = some (.slice B2 m2 c2) ∧ Below wr.heap.size wr w')) (by kernel_rfl) ?_ ?_
      · first | exact hs2 | exact HS0.out
      intro hHeld
      refine wpAnyH_take (i := 0) (v := ?_) rfl (by kernel_rfl) (by kernel_rfl) (by kernel_rfl) (fun _ _ _ h => h) (Or.inl ⟨by rfl, ?_⟩) (by assumption) ?_
      rotate_left
      · intro w hSw; (try dsimp only at hSw); go_simp; (try (with_reducible rfl))
      try simp only [List.getElem_toArray, List.getElem_cons_succ, List.getElem_cons_zero, Act.put, List.setIfInBounds_toArray, List.set_cons_zero, List.set_cons_succ]
      refine wpAnyH_take (i := 1) (v := ?_) rfl (by kernel_rfl) (by kernel_rfl) (by kernel_rfl) (fun _ _ _ h => h) (Or.inl ⟨by rfl, ?_⟩) (by assumption) ?_
      rotate_left
      · intro w hSw; (try dsimp only at hSw); go_simp; (try (with_reducible rfl))
      try simp only [List.getElem_toArray, List.getElem_cons_succ, List.getElem_cons_zero, Act.put, List.setIfInBounds_toArray, List.set_cons_zero, List.set_cons_succ]
      refine wpAnyH_take (i := 2) (v := ?_) rfl (by kernel_rfl) (by kernel_rfl) (by kernel_rfl) (fun _ _ _ h => h) (Or.inl ⟨by rfl, ?_⟩) (by assumption) ?_
      rotate_left
      · intro w hSw; (try dsimp only at hSw); go_simp; (try (with_reducible rfl))
      try simp only [List.getElem_toArray, List.getElem_cons_succ, List.getElem_cons_zero, Act.put, List.setIfInBounds_toArray, List.set_cons_zero, List.set_cons_succ]
      refine wpAnyH_take (i := 3) (v := ?_) rfl (by kernel_rfl) (by kernel_rfl) (by kernel_rfl) (fun _ _ _ h => h) (Or.inl ⟨by rfl, ?_⟩) (by assumption) ?_
      rotate_left
      · intro w hSw; (try dsimp only at hSw); go_simp; (try (with_reducible rfl))
      try simp only [List.getElem_toArray, List.getElem_cons_succ, List.getElem_cons_zero, Act.put, List.setIfInBounds_toArray, List.set_cons_zero, List.set_cons_succ]
      refine wpAnyH_take (i := 4) (v := ?_) rfl (by kernel_rfl) (by kernel_rfl) (by kernel_rfl) (fun _ _ _ h => h) (Or.inl ⟨by rfl, ?_⟩) (by assumption) ?_
      rotate_left
      · intro w hSw; (try dsimp only at hSw); go_simp; (try (with_reducible rfl))
      try simp only [List.getElem_toArray, List.getElem_cons_succ, List.getElem_cons_zero, Act.put, List.setIfInBounds_toArray, List.set_cons_zero, List.set_cons_succ]
      refine wpAnyH_take (i := 5) (v := ?_) rfl (by kernel_rfl) (by kernel_rfl) (by kernel_rfl) (fun _ _ _ h => h) (Or.inl ⟨by rfl, ?_⟩) (by assumption) ?_
      rotate_left
      · intro w hSw; (try dsimp only at hSw); go_simp; (try (with_reducible rfl))
      try simp only [List.getElem_toArray, List.getElem_cons_succ, List.getElem_cons_zero, Act.put, List.setIfInBounds_toArray, List.set_cons_zero, List.set_cons_succ]
      refine wpAnyH_take (i := 6) (v := ?_) rfl (by kernel_rfl) (by kernel_rfl) (by kernel_rfl) (fun _ _ _ h => h) (Or.inl ⟨by rfl, ?_⟩) (by assumption) ?_
      rotate_left
      · intro w hSw; (try dsimp only at hSw); go_simp; (try (with_reducible rfl))
      try simp only [List.getElem_toArray, List.getElem_cons_succ, List.getElem_cons_zero, Act.put, List.setIfInBounds_toArray, List.set_cons_zero, List.set_cons_succ]
      refine wpAnyH_take (i := 7) (v := ?_) rfl (by kernel_rfl) (by kernel_rfl) (by kernel_rfl) (fun _ _ _ h => h) (Or.inl ⟨by rfl, ?_⟩) (by assumption) ?_
      rotate_left
      · intro w hSw; (try dsimp only at hSw); go_simp; (try (with_reducible rfl))
      try simp only [List.getElem_toArray, List.getElem_cons_succ, List.getElem_cons_zero, Act.put, List.setIfInBounds_toArray, List.set_cons_zero, List.set_cons_succ]
      refine wpAnyH_ready (rs := [8]) (by kernel_rfl) (by simp) ?_
      refine AllReadyH.cons rfl (fun K hK => ?_) AllReadyH.nil
      go_simp
      go_at_call 16; refine (CI.out _ hHeld).mono ?_; rintro e w2 ⟨rfl, hs2⟩
      go_wp2_with fail
      refine hK.out _ _ ?_ (fun hHeld => ?_)
      · clear hK K; first | exact hs2 | exact HS0.out
      clear hK K
      try simp only [List.getElem_toArray, List.getElem_cons_succ, List.getElem_cons_zero, Act.put, List.setIfInBounds_toArray, List.set_cons_zero, List.set_cons_succ]
      refine wpAnyH_take (i := 9) (v := ?_) rfl (by kernel_rfl) (by kernel_rfl) (by kernel_rfl) (fun _ _ _ h => h) (Or.inl ⟨by rfl, ?_⟩) (by assumption) ?_
      rotate_left
      · intro w hSw; (try dsimp only at hSw); go_simp; (try (with_reducible rfl))
      try simp only [List.getElem_toArray, List.getElem_cons_succ, List.getElem_cons_zero, Act.put, List.setIfInBounds_toArray, List.set_cons_zero, List.set_cons_succ]
      refine wpAnyH_done (by kernel_rfl) ?_ _
      obtain ⟨_, _, hbl⟩ := hHeld
      have HBL : Hid (Below w.heap.size w w2) := HX.out.trans (hbl.mono HX.out.size)
      clear hbl HS0 CI hs2
      go_wp2
      go_roundw
      case rel => exact ⟨k + 1, by omega, by go_num, HBL.out⟩
      case measure => simp [intOf]; omega
    · obtain rfl : n = k := by omega
      go_wp2
      go_ret
      exact ⟨rfl, HX.out⟩

end Go.Proofs.YtofdjapbofagiaaDoor

