import Derived.Test.YtjjflbnopphciaaGreatDoorXJ
import Derived.Test.YtjjflbnopphciaaGreatDoorXI
import Derived.Test.YtjjflbnopphciaaGreatDoorXE
import Derived.Test.YtjjflbnopphciaaGreatDoorXF
import Derived.Test.YtjjflbnopphciaaGreatDoorXH
import Derived.Test.YtjjflbnopphciaaGreatDoorXA
import Derived.Test.YtjjflbnopphciaaGreatDoorXM
import Derived.Test.YtjjflbnopphciaaGreatDoorD5
import Derived.Laws.AppendOwnNone
namespace Go.Proofs.YtjjflbnopphciaaGreatDoor
open Go.RowKit

theorem StripR.to {W : World} {b n : Nat} {L L' : Nat → List Int} {more : List (Value × List Int)} (h : StripR W b n L more) (he : ∀ k, k < n → L k = L' k) : StripR W b n L' more := by
  obtain ⟨Ls, h1, h2, h3, h4⟩ := h
  exact ⟨Ls, h1, fun k hk => (h2 k hk).trans (he k hk), h3, h4⟩
set_option maxRecDepth 100000 in
set_option maxHeartbeats 8000000 in
theorem un_well (ad : Addr) (n c m c' : Nat) (B : Option Addr) (rows : List (List Int)) (cx cy : Int) (lo hi st cnt : Nat) (w : World) (hr : RdG w (some ad) n rows) (hn : 0 < n ∧ n ≤ 24) (hm : 0 < m ∧ m ≤ 24) (hck : CellAt w ad (.slice B m c')) (hlm : (rows.getD 0 []).length = m) (hg : gridE 24 24 rows = 0) (h1 : (1 ≤ (lo : Int) ∧ (lo : Int) ≤ 24) ∧ 1 ≤ (hi : Int) ∧ (hi : Int) ≤ 24) (h2 : 1 ≤ (st : Int) ∧ (st : Int) ≤ 40) (hcn : lo + cnt = hi + 1) (hc12 : 1 ≤ cnt ∧ cnt ≤ 12) (hl : LaidSides w) (hrg : ∀ r ∈ rows, r.length = m) (hhb : hasB rows cx cy (hi : Int) = true) :
    Calls Tryz.prog 17 #[.agg #[.slice (some ad) n c], .agg #[.int .i64 cx, .int .i64 cy, .int .i64 (lo : Int), .int .i64 (hi : Int), .int .i64 (st : Int)]] w (ResG w 0 (unL rows cx cy st lo cnt)) := by
  have hb0 : Below w.heap.size w ((w.alloc (.cells #[.slice (some ad) n c] 41)).alloc (.cells #[.int .i64 cx, .int .i64 cy, .int .i64 (lo : Int), .int .i64 (hi : Int), .int .i64 (st : Int)] 53)) := ((Below.refl _ w).alloc (Nat.le_refl _) _).alloc (by simp) _
  have HNI : Hid (Bk ((w.alloc (.cells #[.slice (some ad) n c] 41)).alloc (.cells #[.int .i64 cx, .int .i64 cy, .int .i64 (lo : Int), .int .i64 (hi : Int), .int .i64 (st : Int)] 53)) w.heap.size 41 #[.slice (some ad) n c]) := (Bk.new w 41 #[.slice (some ad) n c]).alloc _
  have HNV : Hid (Bk ((w.alloc (.cells #[.slice (some ad) n c] 41)).alloc (.cells #[.int .i64 cx, .int .i64 cy, .int .i64 (lo : Int), .int .i64 (hi : Int), .int .i64 (st : Int)] 53)) (w.heap.size + 1) 53 #[.int .i64 cx, .int .i64 cy, .int .i64 (lo : Int), .int .i64 (hi : Int), .int .i64 (st : Int)]) := by
    have := Bk.new (w.alloc (.cells #[.slice (some ad) n c] 41)) 53 #[.int .i64 cx, .int .i64 cy, .int .i64 (lo : Int), .int .i64 (hi : Int), .int .i64 (st : Int)]
    show Bk _ _ _ _
    simpa using this
  have HB0 := Lib.hid hb0
  have CI := Lib.hid (checkImage_any (some ad) n c rows _ (hr.below hb0) (by omega))
  rw [hg] at CI
  have CA2 : Hid (∀ W g, W.cell? ⟨g, 0, none⟩ = some (.int .i64 (lo : Int)) → W.cell? ⟨g, 1, none⟩ = some (.int .i64 (hi : Int)) → Calls Tryz.prog 45 #[.int .i64 1, .int .i64 24, .slice (some ⟨g, 0, none⟩) 2 2] W fun e w' => e = .returned (.bool true) ∧ W = w') := fun W g k1 k2 => by
    have h := areFrom_any (some ⟨g, 0, none⟩) 2 2 [(lo : Int), (hi : Int)] 1 24 W (lit2 _ _ _ _ k1 k2) (by omega)
    rw [show fromB 1 24 [(lo : Int), (hi : Int)] = true by rw [from_both]; exact h1] at h
    exact h
  have CA1 : Hid (∀ W g, W.cell? ⟨g, 0, none⟩ = some (.int .i64 (st : Int)) → Calls Tryz.prog 45 #[.int .i64 1, .int .i64 40, .slice (some ⟨g, 0, none⟩) 1 1] W fun e w' => e = .returned (.bool true) ∧ W = w') := fun W g k1 => by
    have h := areFrom_any (some ⟨g, 0, none⟩) 1 1 [(st : Int)] 1 40 W (lit1 _ _ _ k1) (by omega)
    rw [show fromB 1 40 [(st : Int)] = true by rw [fromB_one]; exact h2] at h
    exact h
  have CH : Hid (∀ W, CellAt W ad (.slice B m c') → Calls Tryz.prog 46 #[.agg #[.slice (some ad) n c], .agg #[.int .i64 cx, .int .i64 cy], .int .i64 (hi : Int)] W fun e w' => e = .returned (.bool true) ∧ Below W.heap.size W w') := fun W h => by
    have h' := hasRing_any ad n c m c' B rows cx cy (hi : Int) W h hn hm (by omega) hr.1 hlm
    rw [hhb] at h'
    exact h'
  have HCK := Lib.hid (hck.below hb0)
  obtain ⟨RS, hRS⟩ : ∃ RS, (List.replicate st (Value.slice none 0 0)).toArray = RS := ⟨_, rfl⟩
  have hmk := make_strip st (by omega)
  rw [hRS] at hmk
  have HRS := Lib.hid hRS
  clear hRS
  obtain ⟨i0', hi0', hz0', hz1', hz2'⟩ := info_parts intInfo'
  have CRO : Hid (∀ W, Below w.heap.size w W → ∀ r : Nat, r ≤ hi → Calls Tryz.prog 47 #[.agg #[.slice (some ad) n c], .agg #[.int .i64 cx, .int .i64 cy], .int .i64 (r : Int)] W fun e w' => (∃ v, e = .returned v ∧ w'.ownsRow W.heap.size 3 1 v ((ringTo cx cy r 5).map (pix rows)).length (((ringTo cx cy r 5).map (pix rows)).map (Value.int .i64))) ∧ Below W.heap.size W w') := fun W hW r hrh => by
    have hbb := hhb
    unfold hasB at hbb
    rw [Bool.and_eq_true, fromB_one, fromB_one, hlm, hr.1] at hbb
    have h := ringOf_any (some ad) n c rows cx cy r W (hl.later hW) (hr.below hW) (by omega) (by omega) (by omega) (fun p hp => by
      have hin := ring_in hp
      obtain ⟨y, hy⟩ := Int.eq_ofNat_of_zero_le (show 0 ≤ p.2 by omega)
      have hyn : y < rows.length := by have := hr.1; omega
      have hrl : (rows.getD p.2.toNat []).length = m := by
        rw [hy, Int.toNat_natCast, List.getD_eq_getElem?_getD, List.getElem?_eq_getElem hyn]
        exact hrg _ (List.getElem_mem hyn)
      rw [hrl]; omega)
    rw [List.length_map]
    exact h
  obtain ⟨⟨a1, a2⟩, a3, a4⟩ := h1
  obtain ⟨a5, a6⟩ := h2
  have h5 : ¬ (hi : Int) < (lo : Int) := by omega
  have h6 : ¬ 12 < (hi : Int) - (lo : Int) + 1 := by omega
  have hst0 : 0 < st ∧ st ≤ 40 := by omega
  clear hr hb0 hg hck hlm hl hrg hhb
  go_enter Tryz.func17, Tryz.ntmps17
  go_wp2_with fail
  refine CI.out.mono ?_
  rintro e w1 ⟨rfl, hb1⟩
  have HB1 : Hid (Below w.heap.size w w1) := HB0.out.trans (hb1.mono HB0.out.size)
  have HNI1 := Lib.hid (HNI.out.later hb1)
  have HNV1 := Lib.hid (HNV.out.later hb1)
  have hz1 : w.heap.size + 2 ≤ w1.heap.size := by have := hb1.size; simp at this; omega
  have i0 : w1.cell? ⟨w.heap.size, 0, none⟩ = some (.slice (some ad) n c) := by rw [HNI1.out.cell]; rfl
  have v0 : w1.cell? ⟨w.heap.size + 1, 0, none⟩ = some (.int .i64 cx) := by rw [HNV1.out.cell]; rfl
  have v1 : w1.cell? ⟨w.heap.size + 1, 1, none⟩ = some (.int .i64 cy) := by rw [HNV1.out.cell]; rfl
  have v2 : w1.cell? ⟨w.heap.size + 1, 2, none⟩ = some (.int .i64 (lo : Int)) := by rw [HNV1.out.cell]; rfl
  have v3 : w1.cell? ⟨w.heap.size + 1, 3, none⟩ = some (.int .i64 (hi : Int)) := by rw [HNV1.out.cell]; rfl
  have v4 : w1.cell? ⟨w.heap.size + 1, 4, none⟩ = some (.int .i64 (st : Int)) := by rw [HNV1.out.cell]; rfl
  have x4 := cellA (.cells #[.int .i64 (lo : Int), .int .i64 (hi : Int)] 3) v4
  have y4 := cellA (.cells #[.int .i64 (st : Int)] 3) x4
  have yi := cellA (.cells #[.int .i64 (st : Int)] 3) (cellA (.cells #[.int .i64 (lo : Int), .int .i64 (hi : Int)] 3) i0)
  have y0 := cellA (.cells #[.int .i64 (st : Int)] 3) (cellA (.cells #[.int .i64 (lo : Int), .int .i64 (hi : Int)] 3) v0)
  have y1 := cellA (.cells #[.int .i64 (st : Int)] 3) (cellA (.cells #[.int .i64 (lo : Int), .int .i64 (hi : Int)] 3) v1)
  have y2 := cellA (.cells #[.int .i64 (st : Int)] 3) (cellA (.cells #[.int .i64 (lo : Int), .int .i64 (hi : Int)] 3) v2)
  have y3 := cellA (.cells #[.int .i64 (st : Int)] 3) (cellA (.cells #[.int .i64 (lo : Int), .int .i64 (hi : Int)] 3) v3)
  go_wp2_with fail
  refine (CA2.out _ _ (by simp [go_sem]) (by simp [go_sem])).mono ?_
  rintro e w' ⟨rfl, rfl⟩
  go_wp2_with fail
  refine (CA1.out _ _ ?_).mono ?_
  · simp [go_sem]
  rintro e w' ⟨rfl, rfl⟩
  have HCK2 := Lib.hid ((HCK.out.below hb1).below (((Below.refl _ w1).alloc (Nat.le_refl _) (.cells #[.int .i64 (lo : Int), .int .i64 (hi : Int)] 3)).alloc (by simp) (.cells #[.int .i64 (st : Int)] 3)))
  clear hb1 CI HNI HNV HB0
  go_wp2_with fail
  refine (CH.out _ HCK2.out).mono ?_
  rintro e w3 ⟨rfl, hb3⟩
  have HB2 : Hid (Below w.heap.size w ((w1.alloc (.cells #[.int .i64 (lo : Int), .int .i64 (hi : Int)] 3)).alloc (.cells #[.int .i64 (st : Int)] 3))) := (HB1.out.alloc (by omega) _).alloc (by simp; omega) _
  have HB3 : Hid (Below w.heap.size w w3) := HB2.out.trans (hb3.mono HB2.out.size)
  have HV3 := Lib.hid ((HNV1.out.alloc (.cells #[.int .i64 (lo : Int), .int .i64 (hi : Int)] 3)).alloc (.cells #[.int .i64 (st : Int)] 3))
  have HI3 := Lib.hid ((HNI1.out.alloc (.cells #[.int .i64 (lo : Int), .int .i64 (hi : Int)] 3)).alloc (.cells #[.int .i64 (st : Int)] 3))
  have HV4b := Lib.hid (HV3.out.later hb3)
  have HI4b := Lib.hid (HI3.out.later hb3)
  have hz3 : w.heap.size + 2 ≤ w3.heap.size := by have := hb3.size; simp at this; omega
  clear hb3 CH HCK HCK2 i0 v0 v1 v2 v3 v4 x4 y4 yi y0 y1 y2 y3
  have v2 : w3.cell? ⟨w.heap.size + 1, 2, none⟩ = some (.int .i64 (lo : Int)) := by rw [HV4b.out.cell]; rfl
  have v4 : w3.cell? ⟨w.heap.size + 1, 4, none⟩ = some (.int .i64 (st : Int)) := by rw [HV4b.out.cell]; rfl
  obtain ⟨W1, hW1⟩ : ∃ W, w3.alloc (.cells RS 22) = W := ⟨_, rfl⟩
  obtain ⟨b1, hb1e⟩ : ∃ b, w3.heap.size = b := ⟨_, rfl⟩
  have HBW : Hid (Below w.heap.size w W1) := by rw [← hW1]; exact HB3.out.alloc HB3.out.size _
  have HV : Hid (Bk W1 (w.heap.size + 1) 53 #[.int .i64 cx, .int .i64 cy, .int .i64 (lo : Int), .int .i64 (hi : Int), .int .i64 (st : Int)]) := by rw [← hW1]; exact HV4b.out.alloc _
  have HI : Hid (Bk W1 w.heap.size 41 #[.slice (some ad) n c]) := by rw [← hW1]; exact HI4b.out.alloc _
  have HMD : Hid (StripR W1 b1 st (fun _ => []) []) := by rw [← hW1, ← hb1e]; refine StripR.made ?_; rw [HRS.out]; exact Bk.new w3 _ _
  have HZ1 : Hid (b1 < W1.heap.size) := by show _ < _; rw [← hW1, ← hb1e]; simp
  have hzb : w.heap.size + 2 ≤ b1 := by rw [← hb1e]; exact hz3
  have HV4 : Hid (W1.cell? ⟨w.heap.size + 1, 4, none⟩ = some (.int .i64 (st : Int))) := by show _ = _; rw [HV.out.cell]; rfl
  have z2 := cellA (.cells RS 22) v2
  have y2 : W1.cell? ⟨w.heap.size + 1, 2, none⟩ = some (.int .i64 (lo : Int)) := by rw [HV.out.cell]; rfl
  go_wp2
  try rw [hb1e]
  try rw [hW1]
  clear hW1 hb1e v2 v4 z2 y2 hmk hz3 hz1 HV4b HI4b HV3 HI3 HNI1 HNV1 HB1 HB2 HB3
  go_loopw [8] (fun s wr => ∃ i : Nat, i ≤ cnt ∧ s = .int .i64 ((lo + i : Nat) : Int) ∧ Hid (StripR wr b1 st (fun k => rowU rows cx cy st lo k i) []) ∧ Hid (Below b1 W1 wr)) (fun s _ => hi + 1 - (intOf s).toNat)
  case atStart => exact ⟨0, Nat.zero_le _, rfl, HMD.out, Below.refl _ _⟩
  case round =>
    obtain ⟨i, hi', rfl, HST, HX⟩ := hrel
    have v0 : wr.cell? ⟨w.heap.size + 1, 0, none⟩ = some (.int .i64 cx) := (HX.out.cell (p := ⟨w.heap.size + 1, 0, none⟩) (by dsimp only; omega)).trans (by rw [HV.out.cell]; rfl)
    have v1 : wr.cell? ⟨w.heap.size + 1, 1, none⟩ = some (.int .i64 cy) := (HX.out.cell (p := ⟨w.heap.size + 1, 1, none⟩) (by dsimp only; omega)).trans (by rw [HV.out.cell]; rfl)
    have v3 : wr.cell? ⟨w.heap.size + 1, 3, none⟩ = some (.int .i64 (hi : Int)) := (HX.out.cell (p := ⟨w.heap.size + 1, 3, none⟩) (by dsimp only; omega)).trans (by rw [HV.out.cell]; rfl)
    have i1 : wr.cell? ⟨w.heap.size, 0, none⟩ = some (.slice (some ad) n c) := (HX.out.cell (p := ⟨w.heap.size, 0, none⟩) (by dsimp only; omega)).trans (by rw [HI.out.cell]; rfl)
    by_cases hlt : i < cnt
    · obtain ⟨r, hre⟩ : ∃ r, lo + i = r := ⟨_, rfl⟩
      have hrb : 1 ≤ r ∧ r ≤ hi ∧ r ≤ 24 := by omega
      have hrI : (r : Int) ≤ (hi : Int) := by omega
      have C := Lib.hid (CRO.out wr (HBW.out.trans (HX.out.mono (by omega))) r (by omega))
      have hszr : b1 ≤ wr.heap.size := by have := HX.out.size; have := HZ1.out; omega
      obtain ⟨xs, hxs⟩ : ∃ xs, (ringTo cx cy r 5).map (pix rows) = xs := ⟨_, rfl⟩
      have hxl : xs.length = 8 * r := by rw [← hxs, List.length_map, ring_size]
      obtain ⟨R8, hR8⟩ : ∃ R, 8 * r = R := ⟨_, rfl⟩
      rw [hR8] at hxl
      rw [hxs] at C
      have HXS := Lib.hid hxs
      have HXL := Lib.hid hxl
      have HR8 := Lib.hid hR8
      have hR8b : 0 < R8 ∧ R8 ≤ 192 := by omega
      have HRE := Lib.hid hre
      rw [hre]
      clear hxs hxl hR8 hre
      go_wp2_with fail
      refine C.out.mono ?_
      rintro e w2 ⟨⟨v, rfl, ho⟩, hb2⟩
      have HS2 : Hid (StripR w2 b1 st (fun k => rowU rows cx cy st lo k i) [(v, xs)]) := HST.out.and hb2 ho hszr
      rw [HXL.out] at ho
      obtain ⟨Av, cr, rfl, hf⟩ := own_form ho
      obtain ⟨gr, rfl⟩ := hf hR8b.1
      have HX2 : Hid (Below b1 W1 w2) := HX.out.trans (hb2.mono hszr)
      clear C ho hb2 hf v0 v1 v3 i1 HST HX
      go_wp2
      go_loopw [79] (fun s wq => ∃ k : Nat, k ≤ st ∧ s = .int .i64 k ∧ Hid (StripR wq b1 st (fun j => rowU rows cx cy st lo j (if j < k then i + 1 else i)) [(.slice (some ⟨gr, 0, none⟩) R8 cr, xs)]) ∧ Hid (Below b1 W1 wq)) (fun s _ => st - (intOf s).toNat)
      case atStart => exact ⟨0, Nat.zero_le _, rfl, HS2.out.to (fun k hk => by rw [if_neg (by omega)]), HX2.out⟩
      case round =>
        obtain ⟨k, hk, rfl, HSQ, HBQ⟩ := hrel
        obtain ⟨wq, hwq⟩ : ∃ W, W = wr := ⟨_, rfl⟩
        subst hwq
        by_cases hkst : k < st
        · have hkI : (k : Int) < (st : Int) := by omega
          have hk0 : (0 : Int) ≤ (k : Int) := by omega
          obtain ⟨Lk, hLk⟩ : ∃ L : Nat → List Int, (fun j => rowU rows cx cy st lo j (if j < k then i + 1 else i)) = L := ⟨_, rfl⟩
          rw [hLk] at HSQ
          have hlk : (Lk k).length = i := by rw [← hLk]; dsimp only; rw [if_neg (by omega), rowU_length]
          obtain ⟨vk, pre, post, ck, hpl, hbk, hpn, hpg, hrw⟩ := HSQ.out.at_ hkst
          have HROW := Lib.hid (hrw.1 (vk, Lk k) (by simp))
          have HRING := Lib.hid (hrw.1 (.slice (some ⟨gr, 0, none⟩) R8 cr, xs) (by simp))
          have HBK := Lib.hid hbk
          have HPG := Lib.hid hpg
          have HRW := Lib.hid hrw
          obtain ⟨P, hP⟩ : ∃ P, R8 * k = P := ⟨_, rfl⟩
          obtain ⟨Q, hQ⟩ : ∃ Q, P / st = Q := ⟨_, rfl⟩
          have hPb : P ≤ 192 * 40 := by rw [← hP]; exact Nat.mul_le_mul hR8b.2 (by omega)
          have hQb : Q < R8 := by
            rw [← hQ, Nat.div_lt_iff_lt_mul hst0.1, ← hP]
            exact Nat.mul_lt_mul_of_pos_left hkst hR8b.1
          have hq1 : IntKind.i64.wrap ((R8 : Int) * (k : Int)) = (P : Int) := by rw [show (R8 : Int) * (k : Int) = (P : Int) by rw [← hP]; simp]; exact IntWalk.i64_in _ (by omega)
          have hq2 : (P : Int).tdiv (st : Int) = (Q : Int) := by rw [← hQ]; exact (Int.ofNat_tdiv P st).symm
          have hq3 : IntKind.i64.wrap (Q : Int) = (Q : Int) := IntWalk.i64_in _ (by omega)
          have hq4 : (0 : Int) ≤ (Q : Int) := by omega
          have hq5 : (Q : Int) < (R8 : Int) := by omega
          have hq7 : ¬ st = 0 := by omega
          have hq6 : ((st : Int) == 0) = false := by rw [beq_eq_false_iff_ne]; omega
          obtain ⟨x, hx⟩ : ∃ x, xs.getD Q 0 = x := ⟨_, rfl⟩
          have HXQ : Hid ((xs.map (Value.int .i64))[Q]? = some (.int .i64 x)) := by
            show _ = _
            rw [List.getElem?_map, List.getElem?_eq_getElem (by rw [HXL.out]; exact hQb), ← hx, List.getD_eq_getElem?_getD, List.getElem?_eq_getElem (by rw [HXL.out]; exact hQb)]
            rfl
          have HXC : Hid (wq.cell? ⟨gr, Q, none⟩ = some (.int .i64 x)) := by
            have h := HRING.out
            dsimp only at h
            rw [HXL.out] at h
            exact (h.cellAt Q (by omega)).trans HXQ.out
          have HXV : Hid (x = cellU rows cx cy st k (lo + i)) := by
            show _ = _
            unfold cellU
            rw [HRE.out, HXS.out, HR8.out, hP, hQ, hx]
          have HLK : Hid (∀ x, x = cellU rows cx cy st k (lo + i) → (fun j => if j = k then Lk k ++ [x] else Lk j) = fun j => rowU rows cx cy st lo j (if j < k + 1 then i + 1 else i)) := fun x hx => by
            funext j
            rw [← hLk]
            dsimp only
            by_cases e : j = k
            · subst e
              rw [if_pos rfl, if_neg (by omega), if_pos (by omega), rowU_succ, hx]
            · rw [if_neg e]
              by_cases e2 : j < k
              · rw [if_pos e2, if_pos (by omega)]
              · rw [if_neg e2, if_neg (by omega)]
          have HV4Q : Hid (wq.cell? ⟨w.heap.size + 1, 4, none⟩ = some (.int .i64 (st : Int))) := (HBQ.out.cell (p := ⟨w.heap.size + 1, 4, none⟩) (by dsimp only; omega)).trans HV4.out
          have HS0 : Hid ((fun w' : World => w'.cell? ⟨w.heap.size + 1, 4, none⟩ = some (.int .i64 (st : Int)) ∧ w'.cell? ⟨gr, Q, none⟩ = some (.int .i64 x) ∧ Below b1 W1 w') wq.drew) := ⟨HV4Q.out, HXC.out, HBQ.out.drew⟩
          have hszq : b1 ≤ wq.heap.size := by have := HBQ.out.size; have := HZ1.out; omega
          have hilb : i ≤ 1000 := by omega
          have hlkb : (Lk k).length ≤ 1000 := by rw [hlk]; omega
          have HLEN := Lib.hid hlk
          clear hLk hbk hpg hrw hP hQ hx HSQ HRING hlk
          go_wp2
          refine wp_region_held_drew (S := (fun w' : World => w'.cell? ⟨w.heap.size + 1, 4, none⟩ = some (.int .i64 (st : Int)) ∧ w'.cell? ⟨gr, Q, none⟩ = some (.int .i64 x) ∧ Below b1 W1 w')) (by kernel_rfl) ?_ ?_
          · exact HS0.out
          intro hHeld
          refine wpAnyH_take (i := 0) (v := ?_) rfl (by kernel_rfl) (by kernel_rfl) (by kernel_rfl) (fun _ _ _ h => h) (Or.inl ⟨by rfl, ?_⟩) (by assumption) ?_
          rotate_left
          · intro w hSw; (try dsimp only at hSw); go_simp; (try (with_reducible rfl))
          try simp only [List.getElem_toArray, List.getElem_cons_succ, List.getElem_cons_zero, Act.put, List.setIfInBounds_toArray, List.set_cons_zero, List.set_cons_succ]
          refine wpAnyH_take (i := 1) (v := ?_) rfl (by kernel_rfl) (by kernel_rfl) (by kernel_rfl) (fun _ _ _ h => h) (Or.inl ⟨by rfl, ?_⟩) (by assumption) ?_
          rotate_left
          · intro w hSw; (try dsimp only at hSw); go_simp; (try (with_reducible rfl))
          try simp only [List.getElem_toArray, List.getElem_cons_succ, List.getElem_cons_zero, Act.put, List.setIfInBounds_toArray, List.set_cons_zero, List.set_cons_succ]
          refine wpAnyH_take (i := 2) (v := ?_) rfl (by kernel_rfl) (by kernel_rfl) (by kernel_rfl) (fun _ _ _ h => h) (Or.inl ⟨by rfl, ?_⟩) (by assumption) ?_
          rotate_left
          · intro w hSw; (try dsimp only at hSw); go_simp; (try (with_reducible rfl))
          try simp only [List.getElem_toArray, List.getElem_cons_succ, List.getElem_cons_zero, Act.put, List.setIfInBounds_toArray, List.set_cons_zero, List.set_cons_succ]
          refine wpAnyH_take (i := 3) (v := ?_) rfl (by kernel_rfl) (by kernel_rfl) (by kernel_rfl) (fun _ _ _ h => h) (Or.inl ⟨by rfl, ?_⟩) (by assumption) ?_
          rotate_left
          · intro w hSw; (try dsimp only at hSw); go_simp; (try (with_reducible rfl))
          try simp only [List.getElem_toArray, List.getElem_cons_succ, List.getElem_cons_zero, Act.put, List.setIfInBounds_toArray, List.set_cons_zero, List.set_cons_succ]
          refine wpAnyH_take (i := 4) (v := ?_) rfl (by kernel_rfl) (by kernel_rfl) (by kernel_rfl) (fun _ _ _ h => h) (Or.inl ⟨by rfl, ?_⟩) (by assumption) ?_
          rotate_left
          · intro w hSw; (try dsimp only at hSw); go_simp; (try (with_reducible rfl))
          try simp only [List.getElem_toArray, List.getElem_cons_succ, List.getElem_cons_zero, Act.put, List.setIfInBounds_toArray, List.set_cons_zero, List.set_cons_succ]
          refine wpAnyH_take (i := 6) (v := ?_) rfl (by kernel_rfl) (by kernel_rfl) (by kernel_rfl) (fun _ _ _ h => h) (Or.inl ⟨by rfl, ?_⟩) (by assumption) ?_
          rotate_left
          · intro w hSw; (try dsimp only at hSw); go_simp; (try (with_reducible rfl))
          try simp only [List.getElem_toArray, List.getElem_cons_succ, List.getElem_cons_zero, Act.put, List.setIfInBounds_toArray, List.set_cons_zero, List.set_cons_succ]
          refine wpAnyH_take (i := 7) (v := ?_) rfl (by kernel_rfl) (by kernel_rfl) (by kernel_rfl) (fun _ _ _ h => h) (Or.inl ⟨by rfl, ?_⟩) (by assumption) ?_
          rotate_left
          · intro w hSw; (try dsimp only at hSw); go_simp; (try (with_reducible rfl))
          try simp only [List.getElem_toArray, List.getElem_cons_succ, List.getElem_cons_zero, Act.put, List.setIfInBounds_toArray, List.set_cons_zero, List.set_cons_succ]
          refine wpAnyH_take (i := 8) (v := ?_) rfl (by kernel_rfl) (by kernel_rfl) (by kernel_rfl) (fun _ _ _ h => h) (Or.inl ⟨by rfl, ?_⟩) (by assumption) ?_
          rotate_left
          · intro w hSw; (try dsimp only at hSw); go_simp; (try (with_reducible rfl))
          try simp only [List.getElem_toArray, List.getElem_cons_succ, List.getElem_cons_zero, Act.put, List.setIfInBounds_toArray, List.set_cons_zero, List.set_cons_succ]
          refine wpAnyH_take (i := 9) (v := ?_) rfl (by kernel_rfl) (by kernel_rfl) (by kernel_rfl) (fun _ _ _ h => h) (Or.inl ⟨by rfl, ?_⟩) (by assumption) ?_
          rotate_left
          · intro w hSw; (try dsimp only at hSw); go_simp; (try (with_reducible rfl))
          try simp only [List.getElem_toArray, List.getElem_cons_succ, List.getElem_cons_zero, Act.put, List.setIfInBounds_toArray, List.set_cons_zero, List.set_cons_succ]
          refine wpAnyH_take (i := 10) (v := ?_) rfl (by kernel_rfl) (by kernel_rfl) (by kernel_rfl) (fun _ _ _ h => h) (Or.inl ⟨by rfl, ?_⟩) (by assumption) ?_
          rotate_left
          · intro w hSw; (try dsimp only at hSw); go_simp; (try (with_reducible rfl))
          try simp only [List.getElem_toArray, List.getElem_cons_succ, List.getElem_cons_zero, Act.put, List.setIfInBounds_toArray, List.set_cons_zero, List.set_cons_succ]
          refine wpAnyH_take (i := 11) (v := ?_) rfl (by kernel_rfl) (by kernel_rfl) (by kernel_rfl) (fun _ _ _ h => h) (Or.inl ⟨by rfl, ?_⟩) (by assumption) ?_
          rotate_left
          · intro w hSw; (try dsimp only at hSw); go_simp; (try (with_reducible rfl))
          try simp only [List.getElem_toArray, List.getElem_cons_succ, List.getElem_cons_zero, Act.put, List.setIfInBounds_toArray, List.set_cons_zero, List.set_cons_succ]
          refine wpAnyH_take (i := 12) (v := ?_) rfl (by kernel_rfl) (by kernel_rfl) (by kernel_rfl) (fun _ _ _ h => h) (Or.inl ⟨by rfl, ?_⟩) (by assumption) ?_
          rotate_left
          · intro w hSw; (try dsimp only at hSw); go_simp; (try (with_reducible rfl))
          try simp only [List.getElem_toArray, List.getElem_cons_succ, List.getElem_cons_zero, Act.put, List.setIfInBounds_toArray, List.set_cons_zero, List.set_cons_succ]
          refine wpAnyH_take (i := 13) (v := ?_) rfl (by kernel_rfl) (by kernel_rfl) (by kernel_rfl) (fun _ _ _ h => h) (Or.inl ⟨by rfl, ?_⟩) (by assumption) ?_
          rotate_left
          · intro w hSw; (try dsimp only at hSw); go_simp; (try (with_reducible rfl))
          try simp only [List.getElem_toArray, List.getElem_cons_succ, List.getElem_cons_zero, Act.put, List.setIfInBounds_toArray, List.set_cons_zero, List.set_cons_succ]
          refine wpAnyH_take (i := 14) (v := ?_) rfl (by kernel_rfl) (by kernel_rfl) (by kernel_rfl) (fun _ _ _ h => h) (Or.inl ⟨by rfl, ?_⟩) (by assumption) ?_
          rotate_left
          · intro w hSw; (try dsimp only at hSw); go_simp; (try (with_reducible rfl))
          try simp only [List.getElem_toArray, List.getElem_cons_succ, List.getElem_cons_zero, Act.put, List.setIfInBounds_toArray, List.set_cons_zero, List.set_cons_succ]
          refine wpAnyH_take (i := 15) (v := ?_) rfl (by kernel_rfl) (by kernel_rfl) (by kernel_rfl) (fun _ _ _ h => h) (Or.inl ⟨by rfl, ?_⟩) (by assumption) ?_
          rotate_left
          · intro w hSw; (try dsimp only at hSw); go_simp; (try (with_reducible rfl))
          try simp only [List.getElem_toArray, List.getElem_cons_succ, List.getElem_cons_zero, Act.put, List.setIfInBounds_toArray, List.set_cons_zero, List.set_cons_succ]
          refine wpAnyH_ready (rs := [5, 16]) (by kernel_rfl) (by simp) ?_
          refine (AllReadyH.cons rfl (fun K hK => ?_) (AllReadyH.cons rfl (fun K hK => ?_) AllReadyH.nil))
          · go_simp
            refine hK.out _ _ ?_ (fun hHeld => ?_)
            · clear hK K; exact ⟨HV4Q.out, HXC.out, HBQ.out.drew⟩
            clear hK K
            try simp only [List.getElem_toArray, List.getElem_cons_succ, List.getElem_cons_zero, Act.put, List.setIfInBounds_toArray, List.set_cons_zero, List.set_cons_succ]
            refine wpAnyH_ready (rs := [16]) (by kernel_rfl) (by simp) ?_
            refine (AllReadyH.cons rfl (fun K hK => ?_) AllReadyH.nil)
            go_simp
            refine hK.out _ _ ?_ (fun hHeld => ?_)
            · clear hK K; exact ⟨cellA _ HV4Q.out, cellA _ HXC.out, (HBQ.out.alloc (by omega) _).drew⟩
            clear hK K
            try simp only [List.getElem_toArray, List.getElem_cons_succ, List.getElem_cons_zero, Act.put, List.setIfInBounds_toArray, List.set_cons_zero, List.set_cons_succ]
            refine wpAnyH_ready (rs := [17]) (by kernel_rfl) (by simp) ?_
            refine (AllReadyH.cons rfl (fun K hK => ?_) AllReadyH.nil)
            refine step_append_at _ rfl (.tmp 87) (.tmp 98) 22 rfl b1 3 i0' _ 1 8 Tryz.underlying22 hi0' hz0' hz1' hz2' rfl (by decide) _ (Lk k).length _ rfl ((HROW.out.alloc _).drew) ⟨wq.heap.size, 0, none⟩ 1 1 [.int .i64 x] rfl rfl (cell_one_new _ _ _) (by simp [Value.oneCell']) (by simp only [maxLen]; omega) (by omega) (by simp; omega) ?_
            intro v' w4 hown' hgrow _ hat
            obtain ⟨g', cap', rfl⟩ := ownsRow_succ hown'
            have HB4 : Hid (Below b1 W1 w4) := (HBQ.out.alloc (by omega) (.cells #[.int .i64 x] 3)).drew.grown hgrow (by simp; omega) (fun z e => (HROW.out.lt z e).1)
            have HR4 : Hid (RowsN w4 b1 (pre ++ (.slice (some ⟨g', 0, none⟩) ((Lk k).length + 1) cap', Lk k ++ [x]) :: (post ++ [(.slice (some ⟨gr, 0, none⟩) R8 cr, xs)]))) := (HRW.out.alloc (.cells #[.int .i64 x] 3)).drew.step hown' hgrow hat
            have HN4 : Hid (StripR (w4.setCell ⟨b1, k, none⟩ (.slice (some ⟨g', 0, none⟩) ((Lk k).length + 1) cap')) b1 st (fun j => if j = k then Lk k ++ [x] else Lk j) [(.slice (some ⟨gr, 0, none⟩) R8 cr, xs)]) := StripR.put hkst hpl (HBK.out.alloc (.cells #[.int .i64 x] 3)).drew hpn HPG.out (HRW.out.alloc (.cells #[.int .i64 x] 3)).drew hown' hgrow hat
            have hring4 : w4.cell? ⟨gr, Q, none⟩ = some (.int .i64 x) := by
              have h := HR4.out.1 (.slice (some ⟨gr, 0, none⟩) R8 cr, xs) (by simp)
              rw [HXL.out] at h
              rw [h.cellAt Q (by omega)]
              exact HXQ.out
            have hview4 : w4.cell? ⟨w.heap.size + 1, 4, none⟩ = some (.int .i64 (st : Int)) := (HB4.out.cell (p := ⟨w.heap.size + 1, 4, none⟩) (by dsimp only; omega)).trans HV4.out
            have hbk4 : Bk w4 b1 22 ((pre ++ (vk, Lk k) :: post).map Prod.fst).toArray := (HBK.out.alloc (.cells #[.int .i64 x] 3)).drew.grown hgrow (fun e => (row_not HROW.out HBK.out) e.symm)
            have hfr4 := hbk4.frozen k
            have hck4 : w4.cell? ⟨b1, k, none⟩ = some vk := (hbk4.cell k).trans ((HBK.out.cell k).symm.trans ck)
            have hrne : b1 ≠ gr := by
              intro e
              have h := row_not (HR4.out.1 (.slice (some ⟨gr, 0, none⟩) R8 cr, xs) (by simp)) hbk4
              exact h (by rw [e]; rfl)
            have HS4 : Hid ((fun w' : World => w'.cell? ⟨w.heap.size + 1, 4, none⟩ = some (.int .i64 (st : Int)) ∧ w'.cell? ⟨gr, Q, none⟩ = some (.int .i64 x) ∧ Below b1 W1 w') w4) := ⟨hview4, hring4, HB4.out⟩
            have HS5 : Hid ((fun w' : World => w'.cell? ⟨w.heap.size + 1, 4, none⟩ = some (.int .i64 (st : Int)) ∧ w'.cell? ⟨gr, Q, none⟩ = some (.int .i64 x) ∧ Below b1 W1 w') (w4.setCell ⟨b1, k, none⟩ (.slice (some ⟨g', 0, none⟩) ((Lk k).length + 1) cap'))) := ⟨by rw [World.cell?_setCell_far _ _ _ _ (by dsimp only; omega)]; exact hview4, by rw [World.cell?_setCell_far _ _ _ _ hrne]; exact hring4, HB4.out.setCell (p := ⟨b1, k, none⟩) (Nat.le_refl _) _⟩
            clear hring4 hview4 hbk4 hown' hgrow hat hrne
            refine hK.out _ _ ?_ (fun hHeld => ?_)
            · clear hK K; exact HS4.out
            clear hK K
            try simp only [List.getElem_toArray, List.getElem_cons_succ, List.getElem_cons_zero, Act.put, List.setIfInBounds_toArray, List.set_cons_zero, List.set_cons_succ]
            refine wpAnyH_take (i := 18) (v := ?_) rfl (by kernel_rfl) (by kernel_rfl) (by kernel_rfl) (fun _ _ _ h => h) (Or.inl ⟨by rfl, ?_⟩) (by assumption) ?_
            rotate_left
            · intro w hSw; (try dsimp only at hSw); go_simp; (try (with_reducible rfl))
            try simp only [List.getElem_toArray, List.getElem_cons_succ, List.getElem_cons_zero, Act.put, List.setIfInBounds_toArray, List.set_cons_zero, List.set_cons_succ]
            refine wpAnyH_ready (rs := [19]) (by kernel_rfl) (by simp) ?_
            refine (AllReadyH.cons rfl (fun K hK => ?_) AllReadyH.nil)
            go_simp
            refine hK.out _ _ ?_ (fun hHeld => ?_)
            · clear hK K; exact HS5.out
            clear hK K
            try simp only [List.getElem_toArray, List.getElem_cons_succ, List.getElem_cons_zero, Act.put, List.setIfInBounds_toArray, List.set_cons_zero, List.set_cons_succ]
            refine wpAnyH_done (by kernel_rfl) ?_ _
            have HB5 := Lib.hid HS5.out.2.2
            clear hHeld HS5 HS4 hck4 hfr4 HR4 HB4
            go_wp2
            go_roundw
            case rel =>
              refine ⟨k + 1, by omega, by go_num, ?_, HB5.out⟩
              show StripR _ _ _ _ _
              have e := HLK.out x HXV.out
              rw [← e]
              exact HN4.out
            case measure => simp [intOf]; omega
          · go_simp
            refine hK.out _ _ ?_ (fun hHeld => ?_)
            · clear hK K; exact ⟨cellA _ HV4Q.out, cellA _ HXC.out, (HBQ.out.alloc (by omega) _).drew⟩
            clear hK K
            try simp only [List.getElem_toArray, List.getElem_cons_succ, List.getElem_cons_zero, Act.put, List.setIfInBounds_toArray, List.set_cons_zero, List.set_cons_succ]
            refine wpAnyH_ready (rs := [5]) (by kernel_rfl) (by simp) ?_
            refine (AllReadyH.cons rfl (fun K hK => ?_) AllReadyH.nil)
            have ck2 := cellA (.cells #[.int .i64 x] 3) ck
            go_simp
            refine hK.out _ _ ?_ (fun hHeld => ?_)
            · clear hK K; exact ⟨cellA _ HV4Q.out, cellA _ HXC.out, (HBQ.out.alloc (by omega) _).drew⟩
            clear hK K
            try simp only [List.getElem_toArray, List.getElem_cons_succ, List.getElem_cons_zero, Act.put, List.setIfInBounds_toArray, List.set_cons_zero, List.set_cons_succ]
            refine wpAnyH_ready (rs := [17]) (by kernel_rfl) (by simp) ?_
            refine (AllReadyH.cons rfl (fun K hK => ?_) AllReadyH.nil)
            refine step_append_at _ rfl (.tmp 87) (.tmp 98) 22 rfl b1 3 i0' _ 1 8 Tryz.underlying22 hi0' hz0' hz1' hz2' rfl (by decide) _ (Lk k).length _ rfl ((HROW.out.alloc _).drew) ⟨wq.heap.size, 0, none⟩ 1 1 [.int .i64 x] rfl rfl (cell_one_new _ _ _) (by simp [Value.oneCell']) (by simp only [maxLen]; omega) (by omega) (by simp; omega) ?_
            intro v' w4 hown' hgrow _ hat
            obtain ⟨g', cap', rfl⟩ := ownsRow_succ hown'
            have HB4 : Hid (Below b1 W1 w4) := (HBQ.out.alloc (by omega) (.cells #[.int .i64 x] 3)).drew.grown hgrow (by simp; omega) (fun z e => (HROW.out.lt z e).1)
            have HR4 : Hid (RowsN w4 b1 (pre ++ (.slice (some ⟨g', 0, none⟩) ((Lk k).length + 1) cap', Lk k ++ [x]) :: (post ++ [(.slice (some ⟨gr, 0, none⟩) R8 cr, xs)]))) := (HRW.out.alloc (.cells #[.int .i64 x] 3)).drew.step hown' hgrow hat
            have HN4 : Hid (StripR (w4.setCell ⟨b1, k, none⟩ (.slice (some ⟨g', 0, none⟩) ((Lk k).length + 1) cap')) b1 st (fun j => if j = k then Lk k ++ [x] else Lk j) [(.slice (some ⟨gr, 0, none⟩) R8 cr, xs)]) := StripR.put hkst hpl (HBK.out.alloc (.cells #[.int .i64 x] 3)).drew hpn HPG.out (HRW.out.alloc (.cells #[.int .i64 x] 3)).drew hown' hgrow hat
            have hring4 : w4.cell? ⟨gr, Q, none⟩ = some (.int .i64 x) := by
              have h := HR4.out.1 (.slice (some ⟨gr, 0, none⟩) R8 cr, xs) (by simp)
              rw [HXL.out] at h
              rw [h.cellAt Q (by omega)]
              exact HXQ.out
            have hview4 : w4.cell? ⟨w.heap.size + 1, 4, none⟩ = some (.int .i64 (st : Int)) := (HB4.out.cell (p := ⟨w.heap.size + 1, 4, none⟩) (by dsimp only; omega)).trans HV4.out
            have hbk4 : Bk w4 b1 22 ((pre ++ (vk, Lk k) :: post).map Prod.fst).toArray := (HBK.out.alloc (.cells #[.int .i64 x] 3)).drew.grown hgrow (fun e => (row_not HROW.out HBK.out) e.symm)
            have hfr4 := hbk4.frozen k
            have hck4 : w4.cell? ⟨b1, k, none⟩ = some vk := (hbk4.cell k).trans ((HBK.out.cell k).symm.trans ck)
            have hrne : b1 ≠ gr := by
              intro e
              have h := row_not (HR4.out.1 (.slice (some ⟨gr, 0, none⟩) R8 cr, xs) (by simp)) hbk4
              exact h (by rw [e]; rfl)
            have HS4 : Hid ((fun w' : World => w'.cell? ⟨w.heap.size + 1, 4, none⟩ = some (.int .i64 (st : Int)) ∧ w'.cell? ⟨gr, Q, none⟩ = some (.int .i64 x) ∧ Below b1 W1 w') w4) := ⟨hview4, hring4, HB4.out⟩
            have HS5 : Hid ((fun w' : World => w'.cell? ⟨w.heap.size + 1, 4, none⟩ = some (.int .i64 (st : Int)) ∧ w'.cell? ⟨gr, Q, none⟩ = some (.int .i64 x) ∧ Below b1 W1 w') (w4.setCell ⟨b1, k, none⟩ (.slice (some ⟨g', 0, none⟩) ((Lk k).length + 1) cap'))) := ⟨by rw [World.cell?_setCell_far _ _ _ _ (by dsimp only; omega)]; exact hview4, by rw [World.cell?_setCell_far _ _ _ _ hrne]; exact hring4, HB4.out.setCell (p := ⟨b1, k, none⟩) (Nat.le_refl _) _⟩
            clear hring4 hview4 hbk4 hown' hgrow hat hrne
            refine hK.out _ _ ?_ (fun hHeld => ?_)
            · clear hK K; exact HS4.out
            clear hK K
            try simp only [List.getElem_toArray, List.getElem_cons_succ, List.getElem_cons_zero, Act.put, List.setIfInBounds_toArray, List.set_cons_zero, List.set_cons_succ]
            refine wpAnyH_take (i := 18) (v := ?_) rfl (by kernel_rfl) (by kernel_rfl) (by kernel_rfl) (fun _ _ _ h => h) (Or.inl ⟨by rfl, ?_⟩) (by assumption) ?_
            rotate_left
            · intro w hSw; (try dsimp only at hSw); go_simp; (try (with_reducible rfl))
            try simp only [List.getElem_toArray, List.getElem_cons_succ, List.getElem_cons_zero, Act.put, List.setIfInBounds_toArray, List.set_cons_zero, List.set_cons_succ]
            refine wpAnyH_ready (rs := [19]) (by kernel_rfl) (by simp) ?_
            refine (AllReadyH.cons rfl (fun K hK => ?_) AllReadyH.nil)
            go_simp
            refine hK.out _ _ ?_ (fun hHeld => ?_)
            · clear hK K; exact HS5.out
            clear hK K
            try simp only [List.getElem_toArray, List.getElem_cons_succ, List.getElem_cons_zero, Act.put, List.setIfInBounds_toArray, List.set_cons_zero, List.set_cons_succ]
            refine wpAnyH_done (by kernel_rfl) ?_ _
            have HB5 := Lib.hid HS5.out.2.2
            clear hHeld HS5 HS4 hck4 hfr4 HR4 HB4
            go_wp2
            go_roundw
            case rel =>
              refine ⟨k + 1, by omega, by go_num, ?_, HB5.out⟩
              show StripR _ _ _ _ _
              have e := HLK.out x HXV.out
              rw [← e]
              exact HN4.out
            case measure => simp [intOf]; omega
        · obtain rfl : st = k := by omega
          have HST2 : Hid (StripR wq b1 st (fun k => rowU rows cx cy st lo k (i + 1)) []) := (HSQ.out.to (fun k hk => by rw [if_pos hk])).only
          go_wp2
          go_roundw
          case rel => exact ⟨i + 1, by omega, by rw [← HRE.out]; go_num, HST2.out, HBQ.out⟩
          case measure => simp [intOf]; omega
    · obtain rfl : cnt = i := by omega
      have hrI : ¬ ((lo + cnt : Nat) : Int) ≤ (hi : Int) := by omega
      go_wp2
      go_ret2
      have hlen : (unL rows cx cy st lo cnt).length = st := by simp [unL]
      refine ⟨⟨some ⟨b1, 0, none⟩, st, by rw [hlen]; rfl, ?_⟩, HBW.out.trans (HX.out.mono (by omega))⟩
      rw [hlen]
      exact HST.out.read (fun k hk => by rw [rowU_length]; omega)

end Go.Proofs.YtjjflbnopphciaaGreatDoor

namespace Go.Proofs.YtjjflbnopphciaaGreatDoor
open Go.RowKit

theorem ptInfo : (Tryz.prog.info? 43).map (fun i => (i.zero, i.size, i.bytes)) = some (some (.agg #[.int .i64 0, .int .i64 0]), 2, 16) := by kernel_rfl
set_option maxRecDepth 100000 in
set_option maxHeartbeats 8000000 in
theorem refRing_any (r : Nat) (w : World) (h0 : 0 < r) (hr : r ≤ 100) :
    Calls Tryz.prog 16 #[.int .i64 r] w fun e w' => (∃ v, e = .returned v ∧ w'.ownsRow w.heap.size 43 2 v (refRing r).length (pairCells (refRing r))) ∧ Below w.heap.size w w' := by
  obtain ⟨i0, hi0, hz0, hz1, hz2⟩ := info_parts ptInfo
  have hn1 : IntKind.i64.wrap (-(r : Int)) = -(r : Int) := IntWalk.i64_in _ (by omega)
  have hn2 : IntKind.i64.wrap ((r : Int) - 1) = (r : Int) - 1 := IntWalk.i64_in _ (by omega)
  have hn3 : IntKind.i64.wrap (-(r : Int) + 1) = -(r : Int) + 1 := IntWalk.i64_in _ (by omega)
  go_enter Tryz.func16, Tryz.ntmps16
  go_wp2
  go_loopw [3, 4] (fun p i wr => ∃ k : Nat, k ≤ r + 1 ∧ i = .int .i64 ((k : Int)) ∧ ∃ v : Value, v = p ∧ Hid (wr.ownsRow w.heap.size 43 2 v (rgA r (k)).length (pairCells (rgA r (k))) ∧ Below w.heap.size w wr)) (fun _ i => fun _ => ((r : Int) + 1 - intOf i).toNat)
  case atStart => exact ⟨0, Nat.zero_le _, rfl, _, rfl, World.ownsRow_nil _ _ _ _, Below.refl _ _⟩
  case round =>
    obtain ⟨k, hk, rfl, v, rfl, HI⟩ := hrel
    by_cases hlt : k < r + 1
    · have hln : (rgA r (k)).length ≤ 10000 := by simp [rgA, rgB, rgC, rgD, rgE]; omega
      have hsn : pairCells (rgA r (k + 1)) = pairCells (rgA r (k)) ++ [.int .i64 ((r : Int)), .int .i64 ((k : Int))] := by
        rw [show (rgA r (k + 1)) = (rgA r (k)) ++ [((r : Int), (k : Int))] by simp [rgA, List.range_succ]]
        exact pairCells_snoc _ _
      have hll : (rgA r (k + 1)).length = (rgA r (k)).length + 1 := by simp [rgA, rgB, rgC, rgD, rgE]
      obtain ⟨y, hy⟩ : ∃ y : Int, (k : Int) = y := ⟨_, rfl⟩
      rw [hy] at hsn ⊢
      have hyb : -1000 ≤ y ∧ y ≤ 1000 := by omega
      have hcond : y ≤ (r : Int) := by omega
      have hnext : ((k + 1 : Nat) : Int) = y + 1 := by omega
      have hyw : IntKind.i64.wrap (y + 1) = y + 1 := IntWalk.i64_in _ (by omega)
      have HSN := Lib.hid hsn
      have HLL := Lib.hid hll
      have HNX := Lib.hid hnext
      have HY := Lib.hid hy
      obtain ⟨len, hlen⟩ : ∃ l, (rgA r (k)).length = l := ⟨_, rfl⟩
      rw [hlen] at HI HLL hln
      have hsz : w.heap.size ≤ wr.heap.size := HI.out.2.size
      clear hsn hll hnext hy hlen
      go_wp2_with (at_builtin; refine wpList_append_own _ rfl (.tmp 14) (.tmp 18) 44 rfl w.heap.size 43 i0 _ 2 16 Tryz.underlying44 hi0 hz0 hz1 hz2 rfl (by decide) _ _ _ rfl (HI.out.1.alloc _) ⟨wr.heap.size, 0, none⟩ 1 1 [.int .i64 ((r : Int)), .int .i64 (y)] rfl rfl (two_new _ _ _ _) (by simp [Value.oneCell']) (by unfold maxLen; omega) (by omega) (by simp; omega) ?_)
      intro v' w4 hown' hgrow _
      have HFIN : Hid (w4.ownsRow w.heap.size 43 2 v' (rgA r (k + 1)).length (pairCells (rgA r (k + 1))) ∧ Below w.heap.size w w4) := by
        show _ ∧ _
        rw [HSN.out, HLL.out]
        exact ⟨by first | exact hown' | simpa only [List.append_assoc] using hown', (HI.out.2.alloc HI.out.2.size _).grown hgrow (by simp; omega) (fun z e => (HI.out.1.lt z e).1)⟩
      clear hown' hgrow
      go_wp2
      go_roundw
      case rel => exact ⟨k + 1, by omega, by rw [HNX.out], _, rfl, HFIN.out⟩
      case measure => simp [intOf]; omega
    · have hke : k = r + 1 := by omega
      subst hke
      obtain ⟨wX0, hwX⟩ : ∃ W, W = wr := ⟨_, rfl⟩
      subst hwX
      have HP1 := HI
      have hcond : ¬ (((r + 1 : Nat) : Int)) ≤ (r : Int) := by omega
      clear HI hk hlt
      go_wp2
      go_loopw [3, 5] (fun p i wr => ∃ k : Nat, k ≤ 2 * r ∧ i = .int .i64 ((r : Int) - 1 - (k : Int)) ∧ ∃ v : Value, v = p ∧ Hid (wr.ownsRow w.heap.size 43 2 v (rgA r (r + 1) ++ rgB r (k)).length (pairCells (rgA r (r + 1) ++ rgB r (k))) ∧ Below w.heap.size w wr)) (fun _ i => fun _ => ((intOf i + (r : Int) + 1)).toNat)
      case atStart => exact ⟨0, Nat.zero_le _, by simp, _, rfl, by show _ ∧ _; rw [show rgB r 0 = [] from rfl, List.append_nil]; exact ⟨HP1.out.1, HP1.out.2⟩⟩
      case round =>
        obtain ⟨k, hk, rfl, v, rfl, HI⟩ := hrel
        by_cases hlt : k < 2 * r
        · have hln : (rgA r (r + 1) ++ rgB r (k)).length ≤ 10000 := by simp [rgA, rgB, rgC, rgD, rgE]; omega
          have hsn : pairCells (rgA r (r + 1) ++ rgB r (k + 1)) = pairCells (rgA r (r + 1) ++ rgB r (k)) ++ [.int .i64 ((r : Int) - 1 - (k : Int)), .int .i64 ((r : Int))] := by
            rw [show (rgA r (r + 1) ++ rgB r (k + 1)) = (rgA r (r + 1) ++ rgB r (k)) ++ [((r : Int) - 1 - (k : Int), (r : Int))] by simp [rgB, List.range_succ]]
            exact pairCells_snoc _ _
          have hll : (rgA r (r + 1) ++ rgB r (k + 1)).length = (rgA r (r + 1) ++ rgB r (k)).length + 1 := by simp [rgA, rgB, rgC, rgD, rgE]; omega
          obtain ⟨y, hy⟩ : ∃ y : Int, (r : Int) - 1 - (k : Int) = y := ⟨_, rfl⟩
          rw [hy] at hsn ⊢
          have hyb : -1000 ≤ y ∧ y ≤ 1000 := by omega
          have hcond : -(r : Int) ≤ y := by omega
          have hnext : (r : Int) - 1 - ((k + 1 : Nat) : Int) = y - 1 := by omega
          have hyw : IntKind.i64.wrap (y - 1) = y - 1 := IntWalk.i64_in _ (by omega)
          have HSN := Lib.hid hsn
          have HLL := Lib.hid hll
          have HNX := Lib.hid hnext
          have HY := Lib.hid hy
          obtain ⟨len, hlen⟩ : ∃ l, (rgA r (r + 1) ++ rgB r (k)).length = l := ⟨_, rfl⟩
          rw [hlen] at HI HLL hln
          have hsz : w.heap.size ≤ wr.heap.size := HI.out.2.size
          clear hsn hll hnext hy hlen
          go_wp2_with (at_builtin; refine wpList_append_own _ rfl (.tmp 28) (.tmp 32) 44 rfl w.heap.size 43 i0 _ 2 16 Tryz.underlying44 hi0 hz0 hz1 hz2 rfl (by decide) _ _ _ rfl (HI.out.1.alloc _) ⟨wr.heap.size, 0, none⟩ 1 1 [.int .i64 (y), .int .i64 ((r : Int))] rfl rfl (two_new _ _ _ _) (by simp [Value.oneCell']) (by unfold maxLen; omega) (by omega) (by simp; omega) ?_)
          intro v' w4 hown' hgrow _
          have HFIN : Hid (w4.ownsRow w.heap.size 43 2 v' (rgA r (r + 1) ++ rgB r (k + 1)).length (pairCells (rgA r (r + 1) ++ rgB r (k + 1))) ∧ Below w.heap.size w w4) := by
            show _ ∧ _
            rw [HSN.out, HLL.out]
            exact ⟨by first | exact hown' | simpa only [List.append_assoc] using hown', (HI.out.2.alloc HI.out.2.size _).grown hgrow (by simp; omega) (fun z e => (HI.out.1.lt z e).1)⟩
          clear hown' hgrow
          go_wp2
          go_roundw
          case rel => exact ⟨k + 1, by omega, by rw [HNX.out], _, rfl, HFIN.out⟩
          case measure => simp [intOf]; omega
        · have hke : k = 2 * r := by omega
          subst hke
          obtain ⟨wX1, hwX⟩ : ∃ W, W = wr := ⟨_, rfl⟩
          subst hwX
          have HP2 := HI
          have hcond : ¬ -(r : Int) ≤ (r : Int) - 1 - ((2 * r : Nat) : Int) := by omega
          clear HI hk hlt
          go_wp2
          go_loopw [3, 6] (fun p i wr => ∃ k : Nat, k ≤ 2 * r ∧ i = .int .i64 ((r : Int) - 1 - (k : Int)) ∧ ∃ v : Value, v = p ∧ Hid (wr.ownsRow w.heap.size 43 2 v (rgA r (r + 1) ++ rgB r (2 * r) ++ rgC r (k)).length (pairCells (rgA r (r + 1) ++ rgB r (2 * r) ++ rgC r (k))) ∧ Below w.heap.size w wr)) (fun _ i => fun _ => ((intOf i + (r : Int) + 1)).toNat)
          case atStart => exact ⟨0, Nat.zero_le _, by simp, _, rfl, by show _ ∧ _; rw [show rgC r 0 = [] from rfl, List.append_nil]; exact ⟨HP2.out.1, HP2.out.2⟩⟩
          case round =>
            obtain ⟨k, hk, rfl, v, rfl, HI⟩ := hrel
            by_cases hlt : k < 2 * r
            · have hln : (rgA r (r + 1) ++ rgB r (2 * r) ++ rgC r (k)).length ≤ 10000 := by simp [rgA, rgB, rgC, rgD, rgE]; omega
              have hsn : pairCells (rgA r (r + 1) ++ rgB r (2 * r) ++ rgC r (k + 1)) = pairCells (rgA r (r + 1) ++ rgB r (2 * r) ++ rgC r (k)) ++ [.int .i64 (-(r : Int)), .int .i64 ((r : Int) - 1 - (k : Int))] := by
                rw [show (rgA r (r + 1) ++ rgB r (2 * r) ++ rgC r (k + 1)) = (rgA r (r + 1) ++ rgB r (2 * r) ++ rgC r (k)) ++ [(-(r : Int), (r : Int) - 1 - (k : Int))] by simp [rgC, List.range_succ]]
                exact pairCells_snoc _ _
              have hll : (rgA r (r + 1) ++ rgB r (2 * r) ++ rgC r (k + 1)).length = (rgA r (r + 1) ++ rgB r (2 * r) ++ rgC r (k)).length + 1 := by simp [rgA, rgB, rgC, rgD, rgE]; omega
              obtain ⟨y, hy⟩ : ∃ y : Int, (r : Int) - 1 - (k : Int) = y := ⟨_, rfl⟩
              rw [hy] at hsn ⊢
              have hyb : -1000 ≤ y ∧ y ≤ 1000 := by omega
              have hcond : -(r : Int) ≤ y := by omega
              have hnext : (r : Int) - 1 - ((k + 1 : Nat) : Int) = y - 1 := by omega
              have hyw : IntKind.i64.wrap (y - 1) = y - 1 := IntWalk.i64_in _ (by omega)
              have HSN := Lib.hid hsn
              have HLL := Lib.hid hll
              have HNX := Lib.hid hnext
              have HY := Lib.hid hy
              obtain ⟨len, hlen⟩ : ∃ l, (rgA r (r + 1) ++ rgB r (2 * r) ++ rgC r (k)).length = l := ⟨_, rfl⟩
              rw [hlen] at HI HLL hln
              have hsz : w.heap.size ≤ wr.heap.size := HI.out.2.size
              clear hsn hll hnext hy hlen
              go_wp2_with (at_builtin; refine wpList_append_own _ rfl (.tmp 42) (.tmp 47) 44 rfl w.heap.size 43 i0 _ 2 16 Tryz.underlying44 hi0 hz0 hz1 hz2 rfl (by decide) _ _ _ rfl (HI.out.1.alloc _) ⟨wr.heap.size, 0, none⟩ 1 1 [.int .i64 (-(r : Int)), .int .i64 (y)] rfl rfl (two_new _ _ _ _) (by simp [Value.oneCell']) (by unfold maxLen; omega) (by omega) (by simp; omega) ?_)
              intro v' w4 hown' hgrow _
              have HFIN : Hid (w4.ownsRow w.heap.size 43 2 v' (rgA r (r + 1) ++ rgB r (2 * r) ++ rgC r (k + 1)).length (pairCells (rgA r (r + 1) ++ rgB r (2 * r) ++ rgC r (k + 1))) ∧ Below w.heap.size w w4) := by
                show _ ∧ _
                rw [HSN.out, HLL.out]
                exact ⟨by first | exact hown' | simpa only [List.append_assoc] using hown', (HI.out.2.alloc HI.out.2.size _).grown hgrow (by simp; omega) (fun z e => (HI.out.1.lt z e).1)⟩
              clear hown' hgrow
              go_wp2
              go_roundw
              case rel => exact ⟨k + 1, by omega, by rw [HNX.out], _, rfl, HFIN.out⟩
              case measure => simp [intOf]; omega
            · have hke : k = 2 * r := by omega
              subst hke
              obtain ⟨wX2, hwX⟩ : ∃ W, W = wr := ⟨_, rfl⟩
              subst hwX
              have HP3 := HI
              have hcond : ¬ -(r : Int) ≤ (r : Int) - 1 - ((2 * r : Nat) : Int) := by omega
              clear HI hk hlt
              go_wp2
              go_loopw [3, 7] (fun p i wr => ∃ k : Nat, k ≤ 2 * r ∧ i = .int .i64 (-(r : Int) + 1 + (k : Int)) ∧ ∃ v : Value, v = p ∧ Hid (wr.ownsRow w.heap.size 43 2 v (rgA r (r + 1) ++ rgB r (2 * r) ++ rgC r (2 * r) ++ rgD r (k)).length (pairCells (rgA r (r + 1) ++ rgB r (2 * r) ++ rgC r (2 * r) ++ rgD r (k))) ∧ Below w.heap.size w wr)) (fun _ i => fun _ => (((r : Int) + 1 - intOf i)).toNat)
              case atStart => exact ⟨0, Nat.zero_le _, by simp, _, rfl, by show _ ∧ _; rw [show rgD r 0 = [] from rfl, List.append_nil]; exact ⟨HP3.out.1, HP3.out.2⟩⟩
              case round =>
                obtain ⟨k, hk, rfl, v, rfl, HI⟩ := hrel
                by_cases hlt : k < 2 * r
                · have hln : (rgA r (r + 1) ++ rgB r (2 * r) ++ rgC r (2 * r) ++ rgD r (k)).length ≤ 10000 := by simp [rgA, rgB, rgC, rgD, rgE]; omega
                  have hsn : pairCells (rgA r (r + 1) ++ rgB r (2 * r) ++ rgC r (2 * r) ++ rgD r (k + 1)) = pairCells (rgA r (r + 1) ++ rgB r (2 * r) ++ rgC r (2 * r) ++ rgD r (k)) ++ [.int .i64 (-(r : Int) + 1 + (k : Int)), .int .i64 (-(r : Int))] := by
                    rw [show (rgA r (r + 1) ++ rgB r (2 * r) ++ rgC r (2 * r) ++ rgD r (k + 1)) = (rgA r (r + 1) ++ rgB r (2 * r) ++ rgC r (2 * r) ++ rgD r (k)) ++ [(-(r : Int) + 1 + (k : Int), -(r : Int))] by simp [rgD, List.range_succ]]
                    exact pairCells_snoc _ _
                  have hll : (rgA r (r + 1) ++ rgB r (2 * r) ++ rgC r (2 * r) ++ rgD r (k + 1)).length = (rgA r (r + 1) ++ rgB r (2 * r) ++ rgC r (2 * r) ++ rgD r (k)).length + 1 := by simp [rgA, rgB, rgC, rgD, rgE]; omega
                  obtain ⟨y, hy⟩ : ∃ y : Int, -(r : Int) + 1 + (k : Int) = y := ⟨_, rfl⟩
                  rw [hy] at hsn ⊢
                  have hyb : -1000 ≤ y ∧ y ≤ 1000 := by omega
                  have hcond : y ≤ (r : Int) := by omega
                  have hnext : -(r : Int) + 1 + ((k + 1 : Nat) : Int) = y + 1 := by omega
                  have hyw : IntKind.i64.wrap (y + 1) = y + 1 := IntWalk.i64_in _ (by omega)
                  have HSN := Lib.hid hsn
                  have HLL := Lib.hid hll
                  have HNX := Lib.hid hnext
                  have HY := Lib.hid hy
                  obtain ⟨len, hlen⟩ : ∃ l, (rgA r (r + 1) ++ rgB r (2 * r) ++ rgC r (2 * r) ++ rgD r (k)).length = l := ⟨_, rfl⟩
                  rw [hlen] at HI HLL hln
                  have hsz : w.heap.size ≤ wr.heap.size := HI.out.2.size
                  clear hsn hll hnext hy hlen
                  go_wp2_with (at_builtin; refine wpList_append_own _ rfl (.tmp 57) (.tmp 62) 44 rfl w.heap.size 43 i0 _ 2 16 Tryz.underlying44 hi0 hz0 hz1 hz2 rfl (by decide) _ _ _ rfl (HI.out.1.alloc _) ⟨wr.heap.size, 0, none⟩ 1 1 [.int .i64 (y), .int .i64 (-(r : Int))] rfl rfl (two_new _ _ _ _) (by simp [Value.oneCell']) (by unfold maxLen; omega) (by omega) (by simp; omega) ?_)
                  intro v' w4 hown' hgrow _
                  have HFIN : Hid (w4.ownsRow w.heap.size 43 2 v' (rgA r (r + 1) ++ rgB r (2 * r) ++ rgC r (2 * r) ++ rgD r (k + 1)).length (pairCells (rgA r (r + 1) ++ rgB r (2 * r) ++ rgC r (2 * r) ++ rgD r (k + 1))) ∧ Below w.heap.size w w4) := by
                    show _ ∧ _
                    rw [HSN.out, HLL.out]
                    exact ⟨by first | exact hown' | simpa only [List.append_assoc] using hown', (HI.out.2.alloc HI.out.2.size _).grown hgrow (by simp; omega) (fun z e => (HI.out.1.lt z e).1)⟩
                  clear hown' hgrow
                  go_wp2
                  go_roundw
                  case rel => exact ⟨k + 1, by omega, by rw [HNX.out], _, rfl, HFIN.out⟩
                  case measure => simp [intOf]; omega
                · have hke : k = 2 * r := by omega
                  subst hke
                  obtain ⟨wX3, hwX⟩ : ∃ W, W = wr := ⟨_, rfl⟩
                  subst hwX
                  have HP4 := HI
                  have hcond : ¬ -(r : Int) + 1 + ((2 * r : Nat) : Int) ≤ (r : Int) := by omega
                  clear HI hk hlt
                  go_wp2
                  go_loopw [3, 8] (fun p i wr => ∃ k : Nat, k ≤ r - 1 ∧ i = .int .i64 (-(r : Int) + 1 + (k : Int)) ∧ ∃ v : Value, v = p ∧ Hid (wr.ownsRow w.heap.size 43 2 v (rgA r (r + 1) ++ rgB r (2 * r) ++ rgC r (2 * r) ++ rgD r (2 * r) ++ rgE r (k)).length (pairCells (rgA r (r + 1) ++ rgB r (2 * r) ++ rgC r (2 * r) ++ rgD r (2 * r) ++ rgE r (k))) ∧ Below w.heap.size w wr)) (fun _ i => fun _ => (((r : Int) + 1 - intOf i)).toNat)
                  case atStart => exact ⟨0, Nat.zero_le _, by simp, _, rfl, by show _ ∧ _; rw [show rgE r 0 = [] from rfl, List.append_nil]; exact ⟨HP4.out.1, HP4.out.2⟩⟩
                  case round =>
                    obtain ⟨k, hk, rfl, v, rfl, HI⟩ := hrel
                    by_cases hlt : k < r - 1
                    · have hln : (rgA r (r + 1) ++ rgB r (2 * r) ++ rgC r (2 * r) ++ rgD r (2 * r) ++ rgE r (k)).length ≤ 10000 := by simp [rgA, rgB, rgC, rgD, rgE]; omega
                      have hsn : pairCells (rgA r (r + 1) ++ rgB r (2 * r) ++ rgC r (2 * r) ++ rgD r (2 * r) ++ rgE r (k + 1)) = pairCells (rgA r (r + 1) ++ rgB r (2 * r) ++ rgC r (2 * r) ++ rgD r (2 * r) ++ rgE r (k)) ++ [.int .i64 ((r : Int)), .int .i64 (-(r : Int) + 1 + (k : Int))] := by
                        rw [show (rgA r (r + 1) ++ rgB r (2 * r) ++ rgC r (2 * r) ++ rgD r (2 * r) ++ rgE r (k + 1)) = (rgA r (r + 1) ++ rgB r (2 * r) ++ rgC r (2 * r) ++ rgD r (2 * r) ++ rgE r (k)) ++ [((r : Int), -(r : Int) + 1 + (k : Int))] by simp [rgE, List.range_succ]]
                        exact pairCells_snoc _ _
                      have hll : (rgA r (r + 1) ++ rgB r (2 * r) ++ rgC r (2 * r) ++ rgD r (2 * r) ++ rgE r (k + 1)).length = (rgA r (r + 1) ++ rgB r (2 * r) ++ rgC r (2 * r) ++ rgD r (2 * r) ++ rgE r (k)).length + 1 := by simp [rgA, rgB, rgC, rgD, rgE]; omega
                      obtain ⟨y, hy⟩ : ∃ y : Int, -(r : Int) + 1 + (k : Int) = y := ⟨_, rfl⟩
                      rw [hy] at hsn ⊢
                      have hyb : -1000 ≤ y ∧ y ≤ 1000 := by omega
                      have hcond : y < 0 := by omega
                      have hnext : -(r : Int) + 1 + ((k + 1 : Nat) : Int) = y + 1 := by omega
                      have hyw : IntKind.i64.wrap (y + 1) = y + 1 := IntWalk.i64_in _ (by omega)
                      have HSN := Lib.hid hsn
                      have HLL := Lib.hid hll
                      have HNX := Lib.hid hnext
                      have HY := Lib.hid hy
                      obtain ⟨len, hlen⟩ : ∃ l, (rgA r (r + 1) ++ rgB r (2 * r) ++ rgC r (2 * r) ++ rgD r (2 * r) ++ rgE r (k)).length = l := ⟨_, rfl⟩
                      rw [hlen] at HI HLL hln
                      have hsz : w.heap.size ≤ wr.heap.size := HI.out.2.size
                      clear hsn hll hnext hy hlen
                      go_wp2_with (at_builtin; refine wpList_append_own _ rfl (.tmp 71) (.tmp 75) 44 rfl w.heap.size 43 i0 _ 2 16 Tryz.underlying44 hi0 hz0 hz1 hz2 rfl (by decide) _ _ _ rfl (HI.out.1.alloc _) ⟨wr.heap.size, 0, none⟩ 1 1 [.int .i64 ((r : Int)), .int .i64 (y)] rfl rfl (two_new _ _ _ _) (by simp [Value.oneCell']) (by unfold maxLen; omega) (by omega) (by simp; omega) ?_)
                      intro v' w4 hown' hgrow _
                      have HFIN : Hid (w4.ownsRow w.heap.size 43 2 v' (rgA r (r + 1) ++ rgB r (2 * r) ++ rgC r (2 * r) ++ rgD r (2 * r) ++ rgE r (k + 1)).length (pairCells (rgA r (r + 1) ++ rgB r (2 * r) ++ rgC r (2 * r) ++ rgD r (2 * r) ++ rgE r (k + 1))) ∧ Below w.heap.size w w4) := by
                        show _ ∧ _
                        rw [HSN.out, HLL.out]
                        exact ⟨by first | exact hown' | simpa only [List.append_assoc] using hown', (HI.out.2.alloc HI.out.2.size _).grown hgrow (by simp; omega) (fun z e => (HI.out.1.lt z e).1)⟩
                      clear hown' hgrow
                      go_wp2
                      go_roundw
                      case rel => exact ⟨k + 1, by omega, by rw [HNX.out], _, rfl, HFIN.out⟩
                      case measure => simp [intOf]; omega
                    · have hke : k = r - 1 := by omega
                      subst hke
                      obtain ⟨wX4, hwX⟩ : ∃ W, W = wr := ⟨_, rfl⟩
                      subst hwX
                      have HP5 := HI
                      have hcond : ¬ -(r : Int) + 1 + ((r - 1 : Nat) : Int) < 0 := by omega
                      clear HI hk hlt
                      go_wp2
                      go_ret
                      exact ⟨⟨_, rfl, HP5.out.1⟩, HP5.out.2⟩

end Go.Proofs.YtjjflbnopphciaaGreatDoor

namespace Go.Proofs.YtjjflbnopphciaaGreatDoor
open Go.RowKit

theorem own_pts {w : World} {base n : Nat} {v : Value} {ps : List (Int × Int)} (h : w.ownsRow base 43 2 v n (pairCells ps)) (hl : ps.length = n) (h0 : 0 < n) : ∃ c g, v = .slice (some ⟨g, 0, none⟩) n c ∧ RdR w g n ps := by
  obtain ⟨A, c, rfl, hf⟩ := own_form h
  obtain ⟨g, rfl⟩ := hf h0
  exact ⟨c, g, rfl, rdR_of_own h hl⟩
theorem RdI.ofOwnN {w : World} {base : Nat} {v : Value} {n : Nat} {xs : List Int} (h : w.ownsRow base 3 1 v n (xs.map (Value.int .i64))) : ∃ A c, v = .slice A n c ∧ RdI w A n xs ∧ (A = none → n = 0 ∧ c = 0) := by
  obtain ⟨A, c, e, _, hr, hn⟩ := rd_ownN h
  exact ⟨A, c, e, hr, hn⟩

end Go.Proofs.YtjjflbnopphciaaGreatDoor

namespace Go.Proofs.YtjjflbnopphciaaGreatDoor
open Go.RowKit

theorem OwnL.later {w w' : World} {base : Nat} {p : Value} {n : Nat} {rows : List (List Int)} (h : OwnL w base p n rows) (hb : Below w.heap.size w w') : OwnL w' base p n rows := by
  obtain ⟨vs, h1, h2⟩ := h
  exact ⟨vs, ownLater h1 hb, fun j hj => by obtain ⟨v, a, b⟩ := h2 j hj; exact ⟨v, a, ownLater b hb⟩⟩
theorem hasB_less {rows : List (List Int)} {cx cy r s : Int} (h : hasB rows cx cy s = true) (hr : r ≤ s) : hasB rows cx cy r = true := by
  unfold hasB at h ⊢
  rw [Bool.and_eq_true, fromB_one, fromB_one] at h ⊢
  omega
/-- The error of a ring of a size that is permitted, and its pixels. -/
theorem rr_has {rows : List (List Int)} {n m : Nat} {cx cy : Int} {r : Nat} (hg : gridE 24 24 rows = 0) (hn : rows.length = n) (hm : (rows.getD 0 []).length = m) (hr : 1 ≤ r ∧ r ≤ 24) :
    rrE n m cx cy (r : Int) = (if hasB rows cx cy (r : Int) = true then 0 else 23) ∧ (hasB rows cx cy (r : Int) = true → rrX rows n m cx cy (r : Int) = (ringTo cx cy r 5).map (pix rows)) := by
  obtain ⟨h1, h2⟩ := rr_same (cx := cx) (cy := cy) (r := (r : Int)) hg hn hm
  have e : ringE rows cx cy (r : Int) = if hasB rows cx cy (r : Int) = true then 0 else 23 := by
    unfold ringE
    rw [if_pos hg, if_pos (fromB_one.2 (by omega))]
  refine ⟨h1.trans e, fun hb => ?_⟩
  rw [h2]
  unfold ringX
  rw [e, if_pos hb, if_pos rfl, Int.toNat_natCast]

end Go.Proofs.YtjjflbnopphciaaGreatDoor

namespace Go.Proofs.YtjjflbnopphciaaGreatDoor
open Go.RowKit

theorem strip_rows (rows : List (List Int)) (cx cy : Int) (st lo cnt k : Nat) (hk : k < st) : (unL rows cx cy st lo cnt).getD k [] = rowU rows cx cy st lo k cnt := by
  simp [unL, List.getD_eq_getElem?_getD, hk]
end Go.Proofs.YtjjflbnopphciaaGreatDoor

namespace Go.Proofs.YtjjflbnopphciaaGreatDoor
open Go.RowKit

def vwX (rows : List (List Int)) (cx cy lo hi st : Int) : List (List Int) := if vwE rows cx cy lo hi st = 0 then unL rows cx cy st.toNat lo.toNat (hi - lo + 1).toNat else []
theorem un_any (ad : Addr) (n c m c' : Nat) (B : Option Addr) (rows : List (List Int)) (cx cy lo hi st : Int) (w : World) (hl : LaidSides w) (hr : RdG w (some ad) n rows) (hn : 0 < n ∧ n ≤ 24) (hm : 0 < m ∧ m ≤ 24) (hck : CellAt w ad (.slice B m c')) (hlm : (rows.getD 0 []).length = m) (hg : gridE 24 24 rows = 0) (hrg : ∀ r ∈ rows, r.length = m) :
    Calls Tryz.prog 17 #[.agg #[.slice (some ad) n c], .agg #[.int .i64 cx, .int .i64 cy, .int .i64 lo, .int .i64 hi, .int .i64 st]] w (ResG w (vwE rows cx cy lo hi st) (vwX rows cx cy lo hi st)) := by
  unfold vwX
  by_cases h1 : (1 ≤ lo ∧ lo ≤ 24) ∧ 1 ≤ hi ∧ hi ≤ 24
  · by_cases h3 : 1 ≤ st ∧ st ≤ 40
    · by_cases h4 : lo ≤ hi
      · by_cases h5 : hi - lo + 1 ≤ 12
        · cases hb : hasB rows cx cy hi with
          | false =>
            have e : vwE rows cx cy lo hi st = 23 := by unfold vwE; rw [if_pos ⟨h1, h3⟩, if_pos h4, if_pos h5, hb]; rfl
            rw [e, if_neg (by decide)]
            exact un_break ad n c m c' B rows cx cy lo hi st w hr hn hm hck hlm hg h1 h3 h4 h5 hb
          | true =>
            have e : vwE rows cx cy lo hi st = 0 := by unfold vwE; rw [if_pos ⟨h1, h3⟩, if_pos h4, if_pos h5, hb]; rfl
            rw [e, if_pos rfl]
            obtain ⟨l, rfl⟩ : ∃ q : Nat, lo = (q : Int) := ⟨lo.toNat, by omega⟩
            obtain ⟨h, rfl⟩ : ∃ q : Nat, hi = (q : Int) := ⟨hi.toNat, by omega⟩
            obtain ⟨s, rfl⟩ : ∃ q : Nat, st = (q : Int) := ⟨st.toNat, by omega⟩
            rw [Int.toNat_natCast, Int.toNat_natCast]
            exact un_well ad n c m c' B rows cx cy l h s ((h : Int) - (l : Int) + 1).toNat w hr hn hm hck hlm hg h1 h3 (by omega) (by omega) hl hrg hb
        · have e : vwE rows cx cy lo hi st = 8 := by unfold vwE; rw [if_pos ⟨h1, h3⟩, if_pos h4, if_neg h5]
          rw [e, if_neg (by decide)]
          exact un_large (some ad) n c rows cx cy lo hi st w hr (by omega) hg h1 h3 h4 h5
      · have e : vwE rows cx cy lo hi st = 9 := by unfold vwE; rw [if_pos ⟨h1, h3⟩, if_neg h4]
        rw [e, if_neg (by decide)]
        exact un_order (some ad) n c rows cx cy lo hi st w hr (by omega) hg h1 h3 h4
    · have e : vwE rows cx cy lo hi st = 2 := by unfold vwE; rw [if_neg (fun h => h3 h.2)]
      rw [e, if_neg (by decide)]
      exact un_range2 (some ad) n c rows cx cy lo hi st w hr (by omega) hg h1 h3
  · have e : vwE rows cx cy lo hi st = 2 := by unfold vwE; rw [if_neg (fun h => h1 h.1)]
    rw [e, if_neg (by decide)]
    exact un_range1 (some ad) n c rows cx cy lo hi st w hr (by omega) hg h1

end Go.Proofs.YtjjflbnopphciaaGreatDoor

namespace Go.Proofs.YtjjflbnopphciaaGreatDoor
open Go.RowKit

theorem firstE_step (f : Nat → Int) (k n : Nat) (h : k < n) : firstE f k (n - k) = if f k = 0 then firstE f (k + 1) (n - (k + 1)) else f k := by
  obtain ⟨m, hm⟩ : ∃ m, n - k = m + 1 := ⟨n - k - 1, by omega⟩
  rw [hm, show n - (k + 1) = m by omega]
  rfl
theorem stepE_bad (s : Int) (v : List Int) (k : Nat) (h : fromB (-2000000) 2000000 [v.getD k 0] = false) : stepE s v k = 2 := by unfold stepE; rw [if_neg (by rw [h]; decide)]
theorem stepE_next (s : Int) (v : List Int) (k : Nat) (h : fromB (-2000000) 2000000 [v.getD k 0] = true) : stepE s v k = if fromB (-1000000) 1000000 [posAt s v (k + 1)] = true then 0 else 23 := by unfold stepE; rw [if_pos h]
theorem psE_loop {s : Int} {v : List Int} {n : Nat} (h1 : fromB (-1000000) 1000000 [s] = true) (hl : v.length = n) (h2 : n < 200) : psE s v = firstE (stepE s v) 0 (n - 0) := by
  unfold psE; rw [if_pos h1, hl, if_pos h2]; rfl


set_option maxRecDepth 100000 in
set_option maxHeartbeats 4000000 in
theorem PositionsOf_any (s : Int) (A : Option Addr) (n c : Nat) (v : List Int) (w : World) (hr : RdI w A n v) (hn : n ≤ 1000000) :
    Calls Tryz.prog 30 #[.int .i64 s, .slice A n c] w (OwnRes w (psE s v) (psL s v)) := by
  have C0 := Lib.hid (areAtMost_any (some ⟨w.heap.size, 0, none⟩) 1 1 [s] 1000000 (w.alloc (.cells #[.int .i64 s] 3)) (lit1 _ _ _ (by simp [go_sem])) (by omega) (by omega))
  have HR := Lib.hid hr
  have HLN : Hid (v.length = n) := hr.1
  clear hr
  obtain ⟨i0, hi0, hz0, hz1, hz2⟩ := info_parts intInfo'
  cases hs : fromB (-1000000) 1000000 [s] with
  | false =>
    rw [hs] at C0
    have HE : Hid (psE s v = 2) := by show _ = _; unfold psE; rw [if_neg (by rw [hs]; decide)]
    clear hs
    rw [psL_err (by rw [HE.out]; decide), HE.out]
    go_enter Tryz.func30, Tryz.ntmps30
    go_wp2_with (go_at_call 60; refine C0.out.mono ?_; rintro e w' ⟨rfl, rfl⟩)
    go_ret2
    exact OwnRes.none_ ((Below.refl _ w).alloc (Nat.le_refl _) _)
  | true =>
    rw [hs] at C0
    have hsb := fromB_one.1 hs
    by_cases h2 : n < 200
    · have h2I : (n : Int) < 200 := by omega
      have HPE := Lib.hid (psE_loop hs HLN.out h2)
      clear hs
      go_enter Tryz.func30, Tryz.ntmps30
      go_wp2_with (go_at_call 60; refine C0.out.mono ?_; rintro e w' ⟨rfl, rfl⟩)
      go_loopw [6, 23] (fun p i wr => ∃ k : Nat, k ≤ n ∧ i = .int .i64 k ∧ Hid (psE s v = firstE (stepE s v) k (n - k)) ∧ Hid (wr.ownsRow w.heap.size 3 1 p (k + 1) ((posTo s v (k + 1)).map (Value.int .i64)) ∧ Below w.heap.size w wr ∧ -1000000 ≤ posAt s v k ∧ posAt s v k ≤ 1000000)) (fun _ i _ => n - (intOf i).toNat)
      case atStart =>
        refine ⟨0, Nat.zero_le _, rfl, HPE.out, ?_, ((Below.refl _ w).alloc (Nat.le_refl _) _).alloc (by simp) _, hsb⟩
        have := own_of_bk (w := (w.alloc (.cells #[.int .i64 s] 3)).alloc (.cells #[.int .i64 s] 3)) (base := w.heap.size) (g := (w.alloc (.cells #[.int .i64 s] 3)).heap.size) (xs := [s]) 1 (Bk.new (w.alloc (.cells #[.int .i64 s] 3)) 3 #[.int .i64 s]) rfl (by simp) (by omega)
        simpa [posTo, posAt] using this
      case round =>
        obtain ⟨k, hk, rfl, HF, HI⟩ := hrel
        by_cases hlt : k < n
        · have hkI : (k : Int) < (n : Int) := by omega
          have hk0 : (0 : Int) ≤ (k : Int) := by omega
          have hst := firstE_step (stepE s v) k n hlt
          obtain ⟨ad, ha, hadb, hc⟩ := HR.out.2 (by omega)
          have hck := (HI.out.2.1.cell (p := ad.add k) (by rw [addBlock]; exact hadb)).trans (hc k hlt)
          clear hc
          subst ha
          obtain ⟨g, cap, hp⟩ := ownsRow_succ HI.out.1
          subst hp
          have hpc : wr.cell? ⟨g, k, none⟩ = some (.int .i64 (posAt s v k)) := by
            have := HI.out.1.cellAt k (by omega)
            rw [this, List.getElem?_map, posTo_at s v (k + 1) k (by omega)]; rfl
          have hgw := (HI.out.1.lt g rfl).2
          have hpb := HI.out.2.2
          have hnx : posAt s v (k + 1) = posAt s v k + v.getD k 0 := rfl
          have hbad := stepE_bad s v k
          have hnext := stepE_next s v k
          have hsucc := posTo_succ s v (k + 1)
          rw [hnx] at hnext hsucc
          obtain ⟨x, hx⟩ : ∃ x, v.getD k 0 = x := ⟨_, rfl⟩
          obtain ⟨y, hy⟩ : ∃ y, posAt s v k = y := ⟨_, rfl⟩
          rw [hx] at hck hbad hnext hsucc hnx
          rw [hy] at hpc hpb hnext hsucc hnx
          have HBAD := Lib.hid hbad
          have HNEXT := Lib.hid hnext
          have HSUCC := Lib.hid hsucc
          have HNX := Lib.hid hnx
          have HST := Lib.hid hst
          clear hbad hnext hsucc hnx hst hx hy
          cases hfx : fromB (-2000000) 2000000 [x] with
          | false =>
            have HEE : Hid (psE s v = 2) := by show _ = _; rw [HF.out, HST.out, HBAD.out hfx]; rfl
            have CX := Lib.hid (areAtMost_any (some ⟨wr.heap.size, 0, none⟩) 1 1 [x] 2000000 (wr.alloc (.cells #[.int .i64 x] 3)) (lit1 _ _ _ (by simp [go_sem])) (by omega) (by omega))
            rw [hfx] at CX
            clear hfx
            go_wp2_with (go_at_call 60; refine CX.out.mono ?_; rintro e w' ⟨rfl, rfl⟩)
            go_ret2
            rw [psL_err (by rw [HEE.out]; decide), HEE.out]
            exact OwnRes.none_ (HI.out.2.1.alloc HI.out.2.1.size _)
          | true =>
            have hxb := fromB_one.1 hfx
            have HN2 := Lib.hid (HNEXT.out hfx)
            have CX := Lib.hid (areAtMost_any (some ⟨wr.heap.size, 0, none⟩) 1 1 [x] 2000000 (wr.alloc (.cells #[.int .i64 x] 3)) (lit1 _ _ _ (by simp [go_sem])) (by omega) (by omega))
            rw [hfx] at CX
            clear hfx
            have hwxy : IntKind.i64.wrap (y + x) = y + x := IntWalk.i64_in _ (by omega)
            cases hfy : fromB (-1000000) 1000000 [y + x] with
            | false =>
              have HEE : Hid (psE s v = 23) := by show _ = _; rw [HF.out, HST.out, HN2.out]; simp [hfy]
              have CY := Lib.hid (areAtMost_any (some ⟨wr.heap.size + 1, 0, none⟩) 1 1 [y + x] 1000000 ((wr.alloc (.cells #[.int .i64 x] 3)).alloc (.cells #[.int .i64 (y + x)] 3)) (lit1 _ _ _ (by simp [go_sem])) (by omega) (by omega))
              rw [hfy] at CY
              clear hfy
              go_wp2_with fail
              refine CX.out.mono ?_
              rintro e w' ⟨rfl, rfl⟩
              clear CX
              go_wp2_with (go_at_call 60; refine CY.out.mono ?_; rintro e w' ⟨rfl, rfl⟩)
              go_ret2
              rw [psL_err (by rw [HEE.out]; decide), HEE.out]
              exact OwnRes.none_ ((HI.out.2.1.alloc HI.out.2.1.size _).alloc (by have := HI.out.2.1.size; simp; omega) _)
            | true =>
              have hyb := fromB_one.1 hfy
              have HEE : Hid (psE s v = firstE (stepE s v) (k + 1) (n - (k + 1))) := by show _ = _; rw [HF.out, HST.out, HN2.out, if_pos hfy, if_pos rfl]
              have CY := Lib.hid (areAtMost_any (some ⟨wr.heap.size + 1, 0, none⟩) 1 1 [y + x] 1000000 ((wr.alloc (.cells #[.int .i64 x] 3)).alloc (.cells #[.int .i64 (y + x)] 3)) (lit1 _ _ _ (by simp [go_sem])) (by omega) (by omega))
              rw [hfy] at CY
              clear hfy
              go_wp2_with fail
              refine CX.out.mono ?_
              rintro e w' ⟨rfl, rfl⟩
              clear CX
              go_wp2_with fail
              refine CY.out.mono ?_
              rintro e w' ⟨rfl, rfl⟩
              clear CY hck hpc
              have HO2 : Hid (((wr.alloc (.cells #[.int .i64 x] 3)).alloc (.cells #[.int .i64 (y + x)] 3)).ownsRow w.heap.size 3 1 (.slice (some ⟨g, 0, none⟩) (k + 1) cap) (k + 1) ((posTo s v (k + 1)).map (Value.int .i64))) := (HI.out.1.alloc _).alloc _
              have HB2 : Hid (Below w.heap.size w ((wr.alloc (.cells #[.int .i64 x] 3)).alloc (.cells #[.int .i64 (y + x)] 3))) := (HI.out.2.1.alloc HI.out.2.1.size _).alloc (by have := HI.out.2.1.size; simp; omega) _
              obtain ⟨W2, hW2⟩ : ∃ W2, ((wr.alloc (.cells #[.int .i64 x] 3)).alloc (.cells #[.int .i64 (y + x)] 3)) = W2 := ⟨_, rfl⟩
              rw [hW2] at HO2 HB2 ⊢
              clear hW2
              have hzW : w.heap.size ≤ W2.heap.size := HB2.out.size
              go_wp2_with (at_builtin; refine wpList_append_own _ rfl (.tmp 42) (.tmp 44) 22 rfl w.heap.size 3 i0 _ 1 8 Tryz.underlying22 hi0 hz0 hz1 hz2 rfl (by decide) _ _ _ rfl (HO2.out.alloc _) ⟨W2.heap.size, 0, none⟩ 1 1 [.int .i64 (y + x)] rfl rfl (cell_one_new _ _ _) (by simp [Value.oneCell']) (by unfold maxLen; omega) (by omega) (by simp; omega) ?_)
              intro v' w4 hown' hgrow _
              have HFIN : Hid (w4.ownsRow w.heap.size 3 1 v' (k + 1 + 1) ((posTo s v (k + 1 + 1)).map (Value.int .i64)) ∧ Below w.heap.size w w4 ∧ -1000000 ≤ posAt s v (k + 1) ∧ posAt s v (k + 1) ≤ 1000000) := by
                refine ⟨by rw [HSUCC.out, List.map_append]; exact hown', (HB2.out.alloc HB2.out.size _).grown hgrow (by simp; omega) (fun z e => (HO2.out.lt z e).1), by rw [HNX.out]; exact hyb⟩
              clear hown' hgrow
              go_wp2
              go_roundw
              case rel => exact ⟨k + 1, by omega, by go_num, HEE.out, HFIN.out⟩
              case measure => simp [intOf]; omega
        · obtain rfl : k = n := by omega
          have HEE : Hid (psE s v = 0) := by show _ = _; rw [HF.out, Nat.sub_self]; rfl
          have HLL : Hid (psL s v = posTo s v (k + 1)) := by show _ = _; unfold psL; rw [if_pos HEE.out, HLN.out]
          go_wp2
          go_ret2
          rw [HLL.out, HEE.out]
          exact ⟨⟨_, rfl, by rw [posTo_length]; exact HI.out.1⟩, HI.out.2.1⟩
    · have h2I : ¬ (n : Int) < 200 := by omega
      have HE : Hid (psE s v = 8) := by show _ = _; unfold psE; rw [if_pos hs, if_neg (by rw [HLN.out]; exact h2)]
      clear hs
      rw [psL_err (by rw [HE.out]; decide), HE.out]
      go_enter Tryz.func30, Tryz.ntmps30
      go_wp2_with (go_at_call 60; refine C0.out.mono ?_; rintro e w' ⟨rfl, rfl⟩)
      go_ret2
      exact OwnRes.none_ ((Below.refl _ w).alloc (Nat.le_refl _) _)

end Go.Proofs.YtjjflbnopphciaaGreatDoor

namespace Go.Proofs.YtjjflbnopphciaaGreatDoor
open Go.RowKit

set_option maxRecDepth 100000 in
set_option maxHeartbeats 4000000 in
/-- The greatest that a price may be, of prices whose row before is there. -/
theorem maxPrice_at (ad : Addr) (n c m : Nat) (rows : List (List Int)) (b : Int) (pd : Addr) (cp : Nat) (p : List (List Int)) (r k : Nat) (w : World) (hr : RdG w (some ad) n rows) (hp : r ≠ 0 → ∃ Bq cq, w.cell? (pd.add (r - 1)) = some (.slice Bq m cq) ∧ RdI w Bq m (p.getD (r - 1) []) ∧ ∀ x ∈ p.getD (r - 1) [], -1000000 ≤ x ∧ x ≤ 1000000) (hn : n ≤ 1000000) (hm : m ≤ 1000000) (hrn : r < n) (hkm : k < m) (hbb : 0 ≤ b ∧ b ≤ 1000)
    (hg : ∀ r ∈ rows, r.length = m ∧ ∀ x ∈ r, 0 ≤ x ∧ x ≤ 255) :
    Calls Tryz.prog 52 #[.agg #[.slice (some ad) n c, .int .i64 b, .int .i64 m], .slice (some pd) n cp, .int .i64 (r : Int), .int .i64 (k : Int)] w fun e w' => e = .returned (.int .i64 (mpF rows b m p r k)) ∧ Below w.heap.size w w' := by
  have hb0 : Below w.heap.size w (w.alloc (.cells #[.slice (some ad) n c, .int .i64 b, .int .i64 m] 104)) := (Below.refl _ _).alloc (Nat.le_refl _) _
  have HR1 := Lib.hid (hr.below hb0)
  have HP1 : Hid (r ≠ 0 → ∃ Bq cq, (w.alloc (.cells #[.slice (some ad) n c, .int .i64 b, .int .i64 m] 104)).cell? (pd.add (r - 1)) = some (.slice Bq m cq) ∧ RdI (w.alloc (.cells #[.slice (some ad) n c, .int .i64 b, .int .i64 m] 104)) Bq m (p.getD (r - 1) []) ∧ ∀ x ∈ p.getD (r - 1) [], -1000000 ≤ x ∧ x ≤ 1000000) := fun h0 => by
    obtain ⟨Bq, cq, h1, h2, h3⟩ := hp h0
    exact ⟨Bq, cq, (hb0.cell (World.block_lt_of_cell? _ _ h1)).trans h1, h2.below hb0, h3⟩
  have HB0 := Lib.hid hb0
  have HN := Lib.hid (Bk.new w 104 #[.slice (some ad) n c, .int .i64 b, .int .i64 m])
  have hrI : (r : Int) < (n : Int) := by omega
  have hr0 : (0 : Int) ≤ (r : Int) := by omega
  have hkI : (k : Int) < (m : Int) := by omega
  have hk0 : (0 : Int) ≤ (k : Int) := by omega
  obtain ⟨W1, hW1⟩ : ∃ W, w.alloc (.cells #[.slice (some ad) n c, .int .i64 b, .int .i64 m] 104) = W := ⟨_, rfl⟩
  obtain ⟨g, hgw⟩ : ∃ g, w.heap.size = g := ⟨_, rfl⟩
  rw [hW1] at HR1 HP1 HB0 HN
  rw [hgw] at HN
  have n0 : W1.cell? ⟨g, 0, none⟩ = some (.slice (some ad) n c) := by rw [HN.out.cell]; rfl
  have n1 : W1.cell? ⟨g, 1, none⟩ = some (.int .i64 b) := by rw [HN.out.cell]; rfl
  have n2 : W1.cell? ⟨g, 2, none⟩ = some (.int .i64 m) := by rw [HN.out.cell]; rfl
  obtain ⟨bd, cb, r1, r2, hv0, hv1, _, _⟩ := grid_at HR1.out hg r k hrn hkm
  obtain ⟨v, hve⟩ : ∃ v, (rows.getD r []).getD k 0 = v := ⟨_, rfl⟩
  have HV : Hid (cellV rows r k = v) := hve
  rw [hve] at r2 hv0 hv1
  have HGW := Lib.hid hgw
  clear hr hp hb0 hg hve
  by_cases h0 : r = 0
  · have HM : Hid (mpF rows b m p r k = v) := by show _ = _; unfold mpF; rw [if_pos h0, HV.out]; omega
    have hq : ((r : Int) == 0) = true := by rw [h0]; rfl
    have hq2 : (r == 0) = true := by rw [h0]; rfl
    rw [HM.out]
    have hr00 : r = 0 := h0
    subst hr00
    rw [addZ] at r1
    go_enter Tryz.func52, Tryz.ntmps52
    try simp only [hgw]
    go_wp2
    go_ret
    first | exact ⟨rfl, HB0.out⟩ | (rw [← HGW.out]; exact ⟨rfl, HB0.out⟩)
  · obtain ⟨q, hq⟩ : ∃ q, r = q + 1 := ⟨r - 1, by omega⟩
    obtain ⟨Bq, cq, hck, hrow, hpb⟩ := HP1.out h0
    rw [show r - 1 = q by omega] at hck hrow hpb
    have hpq : (p.getD q []).length = m ∧ ∀ x ∈ p.getD q [], -1000000 ≤ x ∧ x ≤ 1000000 := ⟨hrow.1, hpb⟩
    have hl := chp_least (p.getD q []) b 1000000 k m hkm hpq.1 hbb.1 (by omega) hpq.2
    obtain ⟨z1, z2, hz⟩ : ∃ z1 z2, chp (p.getD q []) b k m = (z1, z2) := ⟨_, _, rfl⟩
    have HM : Hid (mpF rows b m p r k = v + z2) := by
      show _ = _
      unfold mpF
      rw [if_neg h0, HV.out, show r - 1 = q by omega, hz]
    rw [hz] at hl
    have hzb : -1000000 ≤ z2 ∧ z2 ≤ 1001000 := by have := hl.2; dsimp only at this; omega
    have CC : Hid (∀ W', (fun w' : World => w'.cell? ⟨g, 0, none⟩ = some (.slice (some ad) n c) ∧ w'.cell? ⟨g, 1, none⟩ = some (.int .i64 b) ∧ w'.cell? ⟨g, 2, none⟩ = some (.int .i64 m) ∧ w'.cell? (pd.add q) = some (.slice Bq m cq) ∧ Below W1.heap.size W1 w') W' → Calls Tryz.prog 82 #[.agg #[.slice (some ad) n c, .int .i64 b, .int .i64 m], .slice Bq m cq, .int .i64 (k : Int)] W' fun e w' => e = .returned (.tuple #[.int .i64 z1, .int .i64 z2]) ∧ (fun w' : World => w'.cell? ⟨g, 0, none⟩ = some (.slice (some ad) n c) ∧ w'.cell? ⟨g, 1, none⟩ = some (.int .i64 b) ∧ w'.cell? ⟨g, 2, none⟩ = some (.int .i64 m) ∧ w'.cell? (pd.add q) = some (.slice Bq m cq) ∧ Below W1.heap.size W1 w') w') := by
      rintro W' ⟨g1, g2, g3, g4, g5⟩
      have h := cheapest_neg (.slice (some ad) n c) b m k Bq cq (p.getD q []) W' hkm hm (hrow.below g5) ⟨hbb.1, by omega⟩ (fun x hx => by have := hpq.2 x hx; omega)
      rw [hz] at h
      refine h.mono ?_
      rintro e w' ⟨he, hb⟩
      exact ⟨he, (hb.cell (World.block_lt_of_cell? _ _ g1)).trans g1, (hb.cell (World.block_lt_of_cell? _ _ g2)).trans g2, (hb.cell (World.block_lt_of_cell? _ _ g3)).trans g3, (hb.cell (World.block_lt_of_cell? _ _ g4)).trans g4, g5.trans (hb.mono g5.size)⟩
    have HS0 : Hid ((fun w' : World => w'.cell? ⟨g, 0, none⟩ = some (.slice (some ad) n c) ∧ w'.cell? ⟨g, 1, none⟩ = some (.int .i64 b) ∧ w'.cell? ⟨g, 2, none⟩ = some (.int .i64 m) ∧ w'.cell? (pd.add q) = some (.slice Bq m cq) ∧ Below W1.heap.size W1 w') W1.drew) := ⟨n0, n1, n2, hck, (Below.refl _ _).drew⟩
    have hz1 : IntKind.i64.wrap ((r : Int) - 1) = (q : Int) := by rw [show (r : Int) - 1 = (q : Int) by omega]; exact IntWalk.i64_in _ (by omega)
    have hz3 : (0 : Int) ≤ (q : Int) := by omega
    have hz4 : (q : Int) < (n : Int) := by omega
    have hrq : ((r : Int) == 0) = false := by rw [beq_eq_false_iff_ne]; omega
    rw [HM.out]
    clear hq hrow hpb hpq hl hz hck h0
    go_enter Tryz.func52, Tryz.ntmps52
    try simp only [hgw]
    go_wp2
    clear hW1
    refine wp_region_held_drew (S := (fun w' : World => w'.cell? ⟨g, 0, none⟩ = some (.slice (some ad) n c) ∧ w'.cell? ⟨g, 1, none⟩ = some (.int .i64 b) ∧ w'.cell? ⟨g, 2, none⟩ = some (.int .i64 m) ∧ w'.cell? (pd.add q) = some (.slice Bq m cq) ∧ Below W1.heap.size W1 w')) (by kernel_rfl) ?_ ?_
    · first | exact hs2 | exact HS0.out
    intro hHeld
    refine wpAnyH_take (i := 0) (v := ?_) rfl (by kernel_rfl) (by kernel_rfl) (by kernel_rfl) (fun _ _ _ h => h) (Or.inl ⟨by rfl, ?_⟩) (by assumption) ?_
    rotate_left
    · intro w hSw; (try dsimp only at hSw); go_simp; (try (with_reducible rfl))
    try simp only [List.getElem_toArray, List.getElem_cons_succ, List.getElem_cons_zero, Act.put, List.setIfInBounds_toArray, List.set_cons_zero, List.set_cons_succ]
    refine wpAnyH_take (i := 1) (v := ?_) rfl (by kernel_rfl) (by kernel_rfl) (by kernel_rfl) (fun _ _ _ h => h) (Or.inl ⟨by rfl, ?_⟩) (by assumption) ?_
    rotate_left
    · intro w hSw; (try dsimp only at hSw); go_simp; (try (with_reducible rfl))
    try simp only [List.getElem_toArray, List.getElem_cons_succ, List.getElem_cons_zero, Act.put, List.setIfInBounds_toArray, List.set_cons_zero, List.set_cons_succ]
    refine wpAnyH_take (i := 2) (v := ?_) rfl (by kernel_rfl) (by kernel_rfl) (by kernel_rfl) (fun _ _ _ h => h) (Or.inl ⟨by rfl, ?_⟩) (by assumption) ?_
    rotate_left
    · intro w hSw; (try dsimp only at hSw); go_simp; (try (with_reducible rfl))
    try simp only [List.getElem_toArray, List.getElem_cons_succ, List.getElem_cons_zero, Act.put, List.setIfInBounds_toArray, List.set_cons_zero, List.set_cons_succ]
    refine wpAnyH_take (i := 3) (v := ?_) rfl (by kernel_rfl) (by kernel_rfl) (by kernel_rfl) (fun _ _ _ h => h) (Or.inl ⟨by rfl, ?_⟩) (by assumption) ?_
    rotate_left
    · intro w hSw; (try dsimp only at hSw); go_simp; (try (with_reducible rfl))
    try simp only [List.getElem_toArray, List.getElem_cons_succ, List.getElem_cons_zero, Act.put, List.setIfInBounds_toArray, List.set_cons_zero, List.set_cons_succ]
    refine wpAnyH_take (i := 4) (v := ?_) rfl (by kernel_rfl) (by kernel_rfl) (by kernel_rfl) (fun _ _ _ h => h) (Or.inl ⟨by rfl, ?_⟩) (by assumption) ?_
    rotate_left
    · intro w hSw; (try dsimp only at hSw); go_simp; (try (with_reducible rfl))
    try simp only [List.getElem_toArray, List.getElem_cons_succ, List.getElem_cons_zero, Act.put, List.setIfInBounds_toArray, List.set_cons_zero, List.set_cons_succ]
    refine wpAnyH_take (i := 5) (v := ?_) rfl (by kernel_rfl) (by kernel_rfl) (by kernel_rfl) (fun _ _ _ h => h) (Or.inl ⟨by rfl, ?_⟩) (by assumption) ?_
    rotate_left
    · intro w hSw; (try dsimp only at hSw); go_simp; (try (with_reducible rfl))
    try simp only [List.getElem_toArray, List.getElem_cons_succ, List.getElem_cons_zero, Act.put, List.setIfInBounds_toArray, List.set_cons_zero, List.set_cons_succ]
    refine wpAnyH_take (i := 6) (v := ?_) rfl (by kernel_rfl) (by kernel_rfl) (by kernel_rfl) (fun _ _ _ h => h) (Or.inl ⟨by rfl, ?_⟩) (by assumption) ?_
    rotate_left
    · intro w hSw; (try dsimp only at hSw); go_simp; (try (with_reducible rfl))
    try simp only [List.getElem_toArray, List.getElem_cons_succ, List.getElem_cons_zero, Act.put, List.setIfInBounds_toArray, List.set_cons_zero, List.set_cons_succ]
    refine wpAnyH_ready (rs := [7]) (by kernel_rfl) (by simp) ?_
    refine AllReadyH.cons rfl (fun K hK => ?_) AllReadyH.nil
    go_simp
    go_at_call 82; refine (CC.out _ hHeld).mono ?_; rintro e w2 ⟨rfl, hs2⟩
    go_wp2_with fail
    refine hK.out _ _ ?_ (fun hHeld => ?_)
    · clear hK K; first | exact hs2 | exact HS0.out
    clear hK K
    try simp only [List.getElem_toArray, List.getElem_cons_succ, List.getElem_cons_zero, Act.put, List.setIfInBounds_toArray, List.set_cons_zero, List.set_cons_succ]
    refine wpAnyH_take (i := 8) (v := ?_) rfl (by kernel_rfl) (by kernel_rfl) (by kernel_rfl) (fun _ _ _ h => h) (Or.inl ⟨by rfl, ?_⟩) (by assumption) ?_
    rotate_left
    · intro w hSw; (try dsimp only at hSw); go_simp; (try (with_reducible rfl))
    try simp only [List.getElem_toArray, List.getElem_cons_succ, List.getElem_cons_zero, Act.put, List.setIfInBounds_toArray, List.set_cons_zero, List.set_cons_succ]
    refine wpAnyH_take (i := 9) (v := ?_) rfl (by kernel_rfl) (by kernel_rfl) (by kernel_rfl) (fun _ _ _ h => h) (Or.inl ⟨by rfl, ?_⟩) (by assumption) ?_
    rotate_left
    · intro w hSw; (try dsimp only at hSw); go_simp; (try (with_reducible rfl))
    try simp only [List.getElem_toArray, List.getElem_cons_succ, List.getElem_cons_zero, Act.put, List.setIfInBounds_toArray, List.set_cons_zero, List.set_cons_succ]
    refine wpAnyH_take (i := 10) (v := ?_) rfl (by kernel_rfl) (by kernel_rfl) (by kernel_rfl) (fun _ _ _ h => h) (Or.inl ⟨by rfl, ?_⟩) (by assumption) ?_
    rotate_left
    · intro w hSw; (try dsimp only at hSw); go_simp; (try (with_reducible rfl))
    try simp only [List.getElem_toArray, List.getElem_cons_succ, List.getElem_cons_zero, Act.put, List.setIfInBounds_toArray, List.set_cons_zero, List.set_cons_succ]
    refine wpAnyH_take (i := 11) (v := ?_) rfl (by kernel_rfl) (by kernel_rfl) (by kernel_rfl) (fun _ _ _ h => h) (Or.inl ⟨by rfl, ?_⟩) (by assumption) ?_
    rotate_left
    · intro w hSw; (try dsimp only at hSw); go_simp; (try (with_reducible rfl))
    try simp only [List.getElem_toArray, List.getElem_cons_succ, List.getElem_cons_zero, Act.put, List.setIfInBounds_toArray, List.set_cons_zero, List.set_cons_succ]
    refine wpAnyH_take (i := 12) (v := ?_) rfl (by kernel_rfl) (by kernel_rfl) (by kernel_rfl) (fun _ _ _ h => h) (Or.inl ⟨by rfl, ?_⟩) (by assumption) ?_
    rotate_left
    · intro w hSw; (try dsimp only at hSw); go_simp; (try (with_reducible rfl))
    try simp only [List.getElem_toArray, List.getElem_cons_succ, List.getElem_cons_zero, Act.put, List.setIfInBounds_toArray, List.set_cons_zero, List.set_cons_succ]
    refine wpAnyH_done (by kernel_rfl) ?_ _
    obtain ⟨_, _, _, _, hbl⟩ := hHeld
    have HBL := Lib.hid hbl
    clear hbl HS0 CC hz1 hs2 n0 n1 n2 r1 r2
    go_wp2
    go_ret
    rw [← HGW.out]
    exact ⟨rfl, HB0.out.trans (HBL.out.mono HB0.out.size)⟩

end Go.Proofs.YtjjflbnopphciaaGreatDoor

namespace Go.Proofs.YtjjflbnopphciaaGreatDoor
open Go.RowKit

/-- Before row k, the cells of block B hold slices of whole blocks that lie between B and N and hold the rows of X. -/
def RowsLt (B cols : Nat) (X : List (List Int)) (k N : Nat) (W : World) : Prop :=
  ∀ j, j < k → ∃ g, W.cell? ⟨B, j, none⟩ = some (.slice (some ⟨g, 0, none⟩) cols cols) ∧ B < g ∧ g < N ∧ Bk W g 3 (iArr (X.getD j []))
def PrI (w : World) (A : Option Addr) (n c cols : Nat) (b : Int) (X : List (List Int)) (k : Nat) (wr : World) : Prop :=
  (∃ cur, Bk wr (w.heap.size + 1) 22 cur ∧ cur.size = n) ∧ RowsLt (w.heap.size + 1) cols X k wr.heap.size wr ∧ Bk wr w.heap.size 104 #[.slice A n c, .int .i64 b, .int .i64 cols] ∧ Below w.heap.size w wr
def PrJ (w : World) (A : Option Addr) (n c cols : Nat) (b : Int) (X : List (List Int)) (j C q : Nat) (wr : World) : Prop :=
  Bk wr C 3 (iArr (padR (X.getD j []) q cols)) ∧ (∃ cur, Bk wr (w.heap.size + 1) 22 cur ∧ cur.size = n ∧ cur[j]? = some (.slice (some ⟨C, 0, none⟩) cols cols)) ∧ RowsLt (w.heap.size + 1) cols X j C wr ∧ Bk wr w.heap.size 104 #[.slice A n c, .int .i64 b, .int .i64 cols] ∧ Below w.heap.size w wr ∧ w.heap.size + 1 < C
theorem RowsLt.keep {B cols : Nat} {X : List (List Int)} {k N N' : Nat} {W W' : World} (h : RowsLt B cols X k N W) (hN : N ≤ N') (hc : ∀ j, j < k → W'.cell? ⟨B, j, none⟩ = W.cell? ⟨B, j, none⟩) (hg : ∀ g, B < g → g < N → W'.heap[g]? = W.heap[g]?) : RowsLt B cols X k N' W' := by
  intro j hj
  obtain ⟨g, h1, h2, h3, h4⟩ := h j hj
  exact ⟨g, (hc j hj).trans h1, h2, by omega, (hg g h2 h3).trans h4⟩
theorem PrJ.lt {w : World} {A : Option Addr} {n c cols : Nat} {b : Int} {X : List (List Int)} {j C q : Nat} {wr : World} (h : PrJ w A n c cols b X j C q wr) : C < wr.heap.size := h.1.lt
theorem PrJ.step {w : World} {A : Option Addr} {n c cols : Nat} {b : Int} {X : List (List Int)} {j C q : Nat} {wr w' : World} {x : Int} (h : PrJ w A n c cols b X j C q wr) (hb : Below wr.heap.size wr w') (hx : (X.getD j []).getD q 0 = x) :
    PrJ w A n c cols b X j C (q + 1) (w'.setCell ⟨C, q, none⟩ (.int .i64 x)) := by
  have hC := h.lt
  obtain ⟨h1, ⟨cur, h2, h3, h4⟩, h5, h6, h7, h8⟩ := h
  have hfar : ∀ g, g ≠ C → g < wr.heap.size → (w'.setCell ⟨C, q, none⟩ (.int .i64 x)).heap[g]? = wr.heap[g]? := fun g hg hlt => (Below.heap_setCell _ _ _ _ hg).trans (hb.block g hlt)
  refine ⟨?_, ⟨cur, (hfar _ (by omega) h2.lt).trans h2, h3, h4⟩, h5.keep (Nat.le_refl _) (fun i _ => ?_) (fun g _ hg => hfar g (by omega) (by omega)), (hfar _ (by omega) h6.lt).trans h6, (h7.trans (hb.mono h7.size)).setCell (p := ⟨C, q, none⟩) (by dsimp only; omega) _, h8⟩
  · have := (h1.later hb).set_ q (.int .i64 x)
    rw [iArr_set, ← hx, padR_set, hx] at this
    exact this
  · have e := hfar (w.heap.size + 1) (by omega) h2.lt
    simp only [World.cell?, e]
theorem PrJ.done_ {w : World} {A : Option Addr} {n c cols : Nat} {b : Int} {X : List (List Int)} {j C : Nat} {wr : World} (h : PrJ w A n c cols b X j C cols wr) (hl : (X.getD j []).length = cols) : PrI w A n c cols b X (j + 1) wr := by
  have hC := h.lt
  obtain ⟨h1, ⟨cur, h2, h3, h4⟩, h5, h6, h7, h8⟩ := h
  refine ⟨⟨cur, h2, h3⟩, fun i hi => ?_, h6, h7⟩
  by_cases e : i = j
  · subst e
    rw [padR_all _ _ hl] at h1
    exact ⟨C, by rw [h2.cell]; exact h4, h8, hC, h1⟩
  · obtain ⟨g, k1, k2, k3, k4⟩ := h5 i (by omega)
    exact ⟨g, k1, k2, by omega, k4⟩
theorem RowsLt.rdGN {B n cols : Nat} {X : List (List Int)} {N : Nat} {W : World} (h : RowsLt B cols X n N W) (hB : B < W.heap.size) (hX : X.length = n) (hl : ∀ j, j < n → (X.getD j []).length = cols) (hcols : cols ≤ 1000) : RdGN W (some ⟨B, 0, none⟩) n X := by
  refine ⟨hX, fun _ => ⟨_, rfl, hB, fun j hj => ?_⟩⟩
  obtain ⟨g, h1, h2, h3, h4⟩ := h j hj
  exact ⟨_, _, _, by rw [addOff]; exact h1, rd_of_bk h4 (hl j hj), by omega, fun e => by cases e⟩
theorem make_prices (c : Nat) (hc : c ≤ 1000000) (W : World) :
    (Instr.makeSlice 60 (.int .i64 (c : Int)) (.int .i64 (c : Int))).run Tryz.prog W = .ok (.slice (some ⟨W.heap.size, 0, none⟩) c c) (W.alloc (.cells (List.replicate c (Value.slice none 0 0)).toArray 22)) := by
  obtain ⟨i0, hi, hz0, hz1, hz2⟩ := info_parts sliceInfo
  have hr := run_make (P := Tryz.prog) W 60 22 i0 _ Tryz.underlying60 hi hz0 .i64 .i64 c c (by omega) (by omega) (by rw [hz2]; omega) (by omega)
  rw [hr]
  have e : madeCells (Value.cells (.slice none 0 0)) ((c : Int).toNat * i0.size) = (List.replicate c (Value.slice none 0 0)).toArray := by
    rw [hz1]
    apply Array.ext'
    have := toList_madeCells_one (Value.slice none 0 0) c
    simp only [Int.toNat_natCast, Nat.mul_one]
    show (madeCells #[Value.slice none 0 0] c).toList = _
    rw [this]
  rw [e, Int.toNat_natCast]

set_option maxRecDepth 100000 in
set_option maxHeartbeats 8000000 in
theorem Prices_ok (A : Option Addr) (n c : Nat) (rows : List (List Int)) (b : Int) (m : Nat) (w : World) (hr : RdG w A n rows) (hn : n ≤ 9223372036854775806) (hE : taskE rows b = 0) (hm : colsOf rows = m) :
    Calls Tryz.prog 22 #[.agg #[.slice A n c, .int .i64 b]] w fun e w' => (∃ A', e = .returned (.tuple #[.slice A' n n, .int .i64 0]) ∧ RdGN w' A' n (prTo rows b m n)) ∧ Below w.heap.size w w' := by
  have hb0 : Below w.heap.size w (w.alloc (.cells #[.slice A n c, .int .i64 b] 55)) := (Below.refl _ w).alloc (Nat.le_refl _) _
  obtain ⟨hg, hbb⟩ := task_ok hE
  obtain ⟨m', g1, g2, g3, g4, g5, g6⟩ := grid_ok hg
  obtain rfl : m = m' := by rw [← g5]; exact hm.symm
  have hln := hr.1
  obtain ⟨ad, rfl, hadb, hc⟩ := hr.2 (by omega)
  obtain ⟨B0, m2, c', hck, hrow, _⟩ := hc 0 (by omega)
  obtain rfl : m = m2 := by rw [← hrow.1]; exact g5.symm
  rw [addZ] at hck
  have CC := Lib.hid (checked_ok ad n c m c' B0 rows b _ (hr.below hb0) hn (Nat.lt_of_lt_of_le hadb hb0.size) ((hb0.cell hadb).trans hck) (by omega) hE)
  have HG := Lib.hid hr
  have HRB := Lib.hid (row_bounds g6)
  have HB0 := Lib.hid hb0
  have hm12 : 0 < m ∧ m ≤ 12 := ⟨g2, g4⟩
  have hn40 : 0 < n ∧ n ≤ 40 := by omega
  have HTK : Hid (TkOk rows b n m) := ⟨hln, hn40.1, hn40.2, g2, g4, row_bounds g6, hbb⟩
  have HLen : Hid (rows.length = n) := hln
  have HBB := Lib.hid hbb
  clear hr hb0 hE hg hc hck hrow g5 g6 hln hm hbb
  obtain ⟨X, hX⟩ : ∃ X, prTo rows b m n = X := ⟨_, rfl⟩
  have HX := Lib.hid hX
  rw [hX]
  clear hX
  have HXL : Hid (X.length = n) := by show _ = _; rw [← HX.out, prTo_length]
  have HXR : Hid (∀ j, j < n → (X.getD j []).length = m ∧ ∀ x ∈ X.getD j [], 0 ≤ x ∧ x ≤ 100000) := fun j hj => by rw [← HX.out]; exact prTo_row HTK.out n (Nat.le_refl _) j hj
  have HXV : Hid (∀ j q, j < n → q < m → (X.getD j []).getD q 0 = mpF rows b m X j q) := fun j q hj hq => by rw [← HX.out]; exact cell_prTo n j q hj hq
  have hmk := make_prices n (by omega)
  have hmi := make_ints m (by omega)
  go_enter Tryz.func22, Tryz.ntmps22
  go_wp2_with fail
  refine CC.out.mono ?_
  rintro e w1 ⟨rfl, hb1⟩
  have HB1 : Hid (Below w.heap.size w w1) := HB0.out.trans (hb1.mono HB0.out.size)
  clear hb1 CC
  have HR1 := Lib.hid (HG.out.below HB1.out)
  have HAB : Hid (ad.block < w1.heap.size) := Nat.lt_of_lt_of_le hadb HB1.out.size
  clear hadb
  go_wp2
  go_loopw [24] (fun i wr => ∃ k : Nat, k ≤ n ∧ i = .int .i64 (k : Int) ∧ Hid (PrI w1 (some ad) n c m b X k wr)) (fun i _ => n - (intOf i).toNat)
  case atStart =>
    refine ⟨0, Nat.zero_le _, rfl, ⟨(List.replicate n (Value.slice none 0 0)).toArray, ?_, by simp⟩, fun j h1 => by omega, (Bk.new w1 _ _).alloc _, ((Below.refl _ w1).alloc (Nat.le_refl _) _).alloc (by simp) _⟩
    have := Bk.new (w1.alloc (.cells #[.slice (some ad) n c, .int .i64 b, .int .i64 m] 104)) 22 (List.replicate n (Value.slice none 0 0)).toArray
    simpa using this
  case round =>
    obtain ⟨k, hk, rfl, HI⟩ := hrel
    by_cases hlt : k < n
    · have hkI : (k : Int) < (n : Int) := by omega
      have hk0 : (0 : Int) ≤ (k : Int) := by omega
      obtain ⟨⟨cur, hB, hcs⟩, hrows, hbox, hbel⟩ := HI.out
      clear HI
      have c0 : wr.cell? ⟨w1.heap.size, 0, none⟩ = some (.slice (some ad) n c) := by rw [hbox.cell]; rfl
      have c1 : wr.cell? ⟨w1.heap.size, 1, none⟩ = some (.int .i64 b) := by rw [hbox.cell]; rfl
      have c2 : wr.cell? ⟨w1.heap.size, 2, none⟩ = some (.int .i64 m) := by rw [hbox.cell]; rfl
      have hBlt := hB.lt
      have hold : wr.cell? ⟨w1.heap.size + 1, k, none⟩ = some cur[k] := by rw [hB.cell]; exact Array.getElem?_eq_getElem (by omega)
      have hfr : wr.frozen? ⟨w1.heap.size + 1, k, none⟩ = false := hB.frozen k
      obtain ⟨o, ho⟩ : ∃ o, cur[k] = o := ⟨_, rfl⟩
      rw [ho] at hold
      clear ho
      have HI0 : Hid (PrJ w1 (some ad) n c m b X k wr.heap.size 0 ((wr.setCell ⟨w1.heap.size + 1, k, none⟩ (.slice (some ⟨wr.heap.size, 0, none⟩) m m)).alloc (.cells (iArr (List.replicate m 0)) 3))) := by
        have hz : (wr.setCell ⟨w1.heap.size + 1, k, none⟩ (.slice (some ⟨wr.heap.size, 0, none⟩) m m)).heap.size = wr.heap.size := by simp
        have hfar : ∀ g, g ≠ w1.heap.size + 1 → g < wr.heap.size → ((wr.setCell ⟨w1.heap.size + 1, k, none⟩ (.slice (some ⟨wr.heap.size, 0, none⟩) m m)).alloc (.cells (iArr (List.replicate m 0)) 3)).heap[g]? = wr.heap[g]? := fun g hg hlt => (Below.heap_alloc _ _ _ (by rw [hz]; exact hlt)).trans (Below.heap_setCell _ _ _ _ hg)
        refine ⟨?_, ⟨_, (hB.set_ k _).alloc _, by simp [hcs], by rw [Array.getElem?_setIfInBounds, if_pos rfl, if_pos (by omega)]⟩, hrows.keep (Nat.le_refl _) (fun i hi => ?_) (fun g hg hlt => hfar g (by omega) hlt), (hfar _ (by omega) hbox.lt).trans hbox, (hbel.setCell (p := ⟨w1.heap.size + 1, k, none⟩) (by dsimp only; omega) _).alloc (by rw [hz]; exact hbel.size) _, hBlt⟩
        · rw [padR_zero]
          have := Bk.new (wr.setCell ⟨w1.heap.size + 1, k, none⟩ (.slice (some ⟨wr.heap.size, 0, none⟩) m m)) 3 (iArr (List.replicate m 0))
          rw [hz] at this
          exact this
        · rw [World.cell?_alloc_lt _ _ _ (by rw [hz]; exact hBlt)]
          exact World.cell?_setCell_other _ _ _ _ (by intro e; injection e; omega)
      clear hB hrows hbox hbel hcs
      go_upto_region 9 with (fail)
      obtain ⟨W2, hW2⟩ : ∃ W2, ((wr.setCell ⟨w1.heap.size + 1, k, none⟩ (.slice (some ⟨wr.heap.size, 0, none⟩) m m)).alloc (.cells (iArr (List.replicate m 0)) 3)) = W2 := ⟨_, rfl⟩
      rw [hW2] at HI0 ⊢
      clear hW2 c0 c1 c2 hold hfr
      have hcB0 : W2.cell? ⟨w1.heap.size + 1, k, none⟩ = some (.slice (some ⟨wr.heap.size, 0, none⟩) m m) := by
        obtain ⟨cur, h1, _, h3⟩ := HI0.out.2.1
        rw [h1.cell]; exact h3
      obtain ⟨C, hC⟩ : ∃ C, wr.heap.size = C := ⟨_, rfl⟩
      rw [hC] at HI0 hBlt hcB0 ⊢
      clear hC
      go_wp2
      clear hcB0
      go_loopw [38] (fun i wr2 => ∃ q : Nat, q ≤ m ∧ i = .int .i64 (q : Int) ∧ Hid (PrJ w1 (some ad) n c m b X k C q wr2)) (fun i _ => m - (intOf i).toNat)
      case atStart => exact ⟨0, Nat.zero_le _, rfl, HI0.out⟩
      case round =>
        obtain ⟨q, hq, rfl, HI⟩ := hrel
        obtain ⟨wi, hwi⟩ : ∃ W, W = wr := ⟨_, rfl⟩
        subst hwi
        by_cases hqm : q < m
        · have hqI : (q : Int) < (m : Int) := by omega
          have hq0 : (0 : Int) ≤ (q : Int) := by omega
          obtain ⟨cur, hB, hcs, hcj⟩ := HI.out.2.1
          have hcB : wi.cell? ⟨w1.heap.size + 1, k, none⟩ = some (.slice (some ⟨C, 0, none⟩) m m) := by rw [hB.cell]; exact hcj
          have hcC : wi.cell? ⟨C, q, none⟩ = some (.int .i64 ((padR (X.getD k []) q m).getD q 0)) := by rw [HI.out.1.cell]; exact iArr_at _ _ (by rw [padR_length]; exact hqm)
          have hfC : wi.frozen? ⟨C, q, none⟩ = false := HI.out.1.frozen q
          obtain ⟨o, ho⟩ : ∃ o, (padR (X.getD k []) q m).getD q 0 = o := ⟨_, rfl⟩
          rw [ho] at hcC
          obtain ⟨x, hx⟩ : ∃ x, mpF rows b m X k q = x := ⟨_, rfl⟩
          have HXQ : Hid ((X.getD k []).getD q 0 = x) := (HXV.out k q hlt hqm).trans hx
          have d0 : wi.cell? ⟨w1.heap.size, 0, none⟩ = some (.slice (some ad) n c) := by rw [HI.out.2.2.2.1.cell]; rfl
          have d1 : wi.cell? ⟨w1.heap.size, 1, none⟩ = some (.int .i64 b) := by rw [HI.out.2.2.2.1.cell]; rfl
          have d2 : wi.cell? ⟨w1.heap.size, 2, none⟩ = some (.int .i64 m) := by rw [HI.out.2.2.2.1.cell]; rfl
          have hgl : w1.heap.size < wi.heap.size := HI.out.2.2.2.1.lt
          have hgl1 : w1.heap.size + 1 < wi.heap.size := hB.lt
          have hCl : C < wi.heap.size := HI.lt
          have hgC : w1.heap.size + 1 < C := HI.out.2.2.2.2.2
          have CC : Hid (∀ W', Below wi.heap.size wi W' → Calls Tryz.prog 52 #[.agg #[.slice (some ad) n c, .int .i64 b, .int .i64 m], .slice (some ⟨w1.heap.size + 1, 0, none⟩) n n, .int .i64 (k : Int), .int .i64 (q : Int)] W' fun e w' => e = .returned (.int .i64 x) ∧ Below wi.heap.size wi w') := fun W' hW' => by
            have h := maxPrice_at ad n c m rows b ⟨w1.heap.size + 1, 0, none⟩ n X k q W' ((HR1.out.below HI.out.2.2.2.2.1).below hW') (fun hk => by
              obtain ⟨gj, e1, e2, e3, e4⟩ := HI.out.2.2.1 (k - 1) (by omega)
              have hz := HXR.out (k - 1) (by omega)
              exact ⟨some ⟨gj, 0, none⟩, m, by rw [addOff]; exact (hW'.cell (World.block_lt_of_cell? _ _ e1)).trans e1, rd_of_bk (e4.later hW') hz.1, fun y hy => by have := hz.2 y hy; omega⟩) (by omega) (by omega) hlt hqm HBB.out HRB.out
            rw [hx] at h
            refine h.mono ?_
            rintro e w' ⟨he, hb⟩
            exact ⟨he, hW'.trans (hb.mono hW'.size)⟩
          have HS0 : Hid ((fun w' : World => w'.cell? ⟨w1.heap.size, 0, none⟩ = some (.slice (some ad) n c) ∧ w'.cell? ⟨w1.heap.size, 1, none⟩ = some (.int .i64 b) ∧ w'.cell? ⟨w1.heap.size, 2, none⟩ = some (.int .i64 m) ∧ w'.cell? ⟨w1.heap.size + 1, k, none⟩ = some (.slice (some ⟨C, 0, none⟩) m m) ∧ (∃ W2, Below wi.heap.size wi W2 ∧ (w' = W2 ∨ w' = W2.setCell ⟨C, q, none⟩ (.int .i64 x)))) wi.drew) := ⟨d0, d1, d2, hcB, wi.drew, (Below.refl _ _).drew, .inl rfl⟩
          clear hB hcs hcj ho hx
          go_wp2_with fail
          refine wp_region_held_drew (S := (fun w' : World => w'.cell? ⟨w1.heap.size, 0, none⟩ = some (.slice (some ad) n c) ∧ w'.cell? ⟨w1.heap.size, 1, none⟩ = some (.int .i64 b) ∧ w'.cell? ⟨w1.heap.size, 2, none⟩ = some (.int .i64 m) ∧ w'.cell? ⟨w1.heap.size + 1, k, none⟩ = some (.slice (some ⟨C, 0, none⟩) m m) ∧ (∃ W2, Below wi.heap.size wi W2 ∧ (w' = W2 ∨ w' = W2.setCell ⟨C, q, none⟩ (.int .i64 x))))) (by kernel_rfl) ?_ ?_
          · first | exact HS0.out | exact HS2.out | exact HS3.out
          intro hHeld
          refine wpAnyH_take (i := 0) (v := ?_) rfl (by kernel_rfl) (by kernel_rfl) (by kernel_rfl) (fun _ _ _ h => h) (Or.inl ⟨by rfl, ?_⟩) (by assumption) ?_
          rotate_left
          · intro w hSw; (try dsimp only at hSw); go_simp; (try (with_reducible rfl))
          try simp only [List.getElem_toArray, List.getElem_cons_succ, List.getElem_cons_zero, Act.put, List.setIfInBounds_toArray, List.set_cons_zero, List.set_cons_succ]
          refine wpAnyH_take (i := 1) (v := ?_) rfl (by kernel_rfl) (by kernel_rfl) (by kernel_rfl) (fun _ _ _ h => h) (Or.inl ⟨by rfl, ?_⟩) (by assumption) ?_
          rotate_left
          · intro w hSw; (try dsimp only at hSw); go_simp; (try (with_reducible rfl))
          try simp only [List.getElem_toArray, List.getElem_cons_succ, List.getElem_cons_zero, Act.put, List.setIfInBounds_toArray, List.set_cons_zero, List.set_cons_succ]
          refine wpAnyH_take (i := 2) (v := ?_) rfl (by kernel_rfl) (by kernel_rfl) (by kernel_rfl) (fun _ _ _ h => h) (Or.inl ⟨by rfl, ?_⟩) (by assumption) ?_
          rotate_left
          · intro w hSw; (try dsimp only at hSw); go_simp; (try (with_reducible rfl))
          try simp only [List.getElem_toArray, List.getElem_cons_succ, List.getElem_cons_zero, Act.put, List.setIfInBounds_toArray, List.set_cons_zero, List.set_cons_succ]
          refine wpAnyH_take (i := 3) (v := ?_) rfl (by kernel_rfl) (by kernel_rfl) (by kernel_rfl) (fun _ _ _ h => h) (Or.inl ⟨by rfl, ?_⟩) (by assumption) ?_
          rotate_left
          · intro w hSw; (try dsimp only at hSw); go_simp; (try (with_reducible rfl))
          try simp only [List.getElem_toArray, List.getElem_cons_succ, List.getElem_cons_zero, Act.put, List.setIfInBounds_toArray, List.set_cons_zero, List.set_cons_succ]
          refine wpAnyH_take (i := 4) (v := ?_) rfl (by kernel_rfl) (by kernel_rfl) (by kernel_rfl) (fun _ _ _ h => h) (Or.inl ⟨by rfl, ?_⟩) (by assumption) ?_
          rotate_left
          · intro w hSw; (try dsimp only at hSw); go_simp; (try (with_reducible rfl))
          try simp only [List.getElem_toArray, List.getElem_cons_succ, List.getElem_cons_zero, Act.put, List.setIfInBounds_toArray, List.set_cons_zero, List.set_cons_succ]
          refine wpAnyH_take (i := 5) (v := ?_) rfl (by kernel_rfl) (by kernel_rfl) (by kernel_rfl) (fun _ _ _ h => h) (Or.inl ⟨by rfl, ?_⟩) (by assumption) ?_
          rotate_left
          · intro w hSw; (try dsimp only at hSw); go_simp; (try (with_reducible rfl))
          try simp only [List.getElem_toArray, List.getElem_cons_succ, List.getElem_cons_zero, Act.put, List.setIfInBounds_toArray, List.set_cons_zero, List.set_cons_succ]
          refine wpAnyH_take (i := 6) (v := ?_) rfl (by kernel_rfl) (by kernel_rfl) (by kernel_rfl) (fun _ _ _ h => h) (Or.inl ⟨by rfl, ?_⟩) (by assumption) ?_
          rotate_left
          · intro w hSw; (try dsimp only at hSw); go_simp; (try (with_reducible rfl))
          try simp only [List.getElem_toArray, List.getElem_cons_succ, List.getElem_cons_zero, Act.put, List.setIfInBounds_toArray, List.set_cons_zero, List.set_cons_succ]
          refine wpAnyH_take (i := 7) (v := ?_) rfl (by kernel_rfl) (by kernel_rfl) (by kernel_rfl) (fun _ _ _ h => h) (Or.inl ⟨by rfl, ?_⟩) (by assumption) ?_
          rotate_left
          · intro w hSw; (try dsimp only at hSw); go_simp; (try (with_reducible rfl))
          try simp only [List.getElem_toArray, List.getElem_cons_succ, List.getElem_cons_zero, Act.put, List.setIfInBounds_toArray, List.set_cons_zero, List.set_cons_succ]
          refine wpAnyH_take (i := 8) (v := ?_) rfl (by kernel_rfl) (by kernel_rfl) (by kernel_rfl) (fun _ _ _ h => h) (Or.inl ⟨by rfl, ?_⟩) (by assumption) ?_
          rotate_left
          · intro w hSw; (try dsimp only at hSw); go_simp; (try (with_reducible rfl))
          try simp only [List.getElem_toArray, List.getElem_cons_succ, List.getElem_cons_zero, Act.put, List.setIfInBounds_toArray, List.set_cons_zero, List.set_cons_succ]
          refine wpAnyH_ready (rs := [9]) (by kernel_rfl) (by simp) ?_
          refine AllReadyH.cons rfl (fun K hK => ?_) AllReadyH.nil
          go_simp
          go_at_call 52; refine (CC.out _ (Below.refl _ _).drew).mono ?_; rintro e w2 ⟨rfl, hb2⟩
          have HB2 := Lib.hid hb2
          have f0 := (hb2.cell (p := ⟨w1.heap.size, 0, none⟩) hgl).trans d0
          have f1 := (hb2.cell (p := ⟨w1.heap.size, 1, none⟩) hgl).trans d1
          have f2 := (hb2.cell (p := ⟨w1.heap.size, 2, none⟩) hgl).trans d2
          have f3 := (hb2.cell (p := ⟨w1.heap.size + 1, k, none⟩) hgl1).trans hcB
          have f4 := (hb2.cell (p := ⟨C, q, none⟩) hCl).trans hcC
          have f5 := (hb2.frozen (p := ⟨C, q, none⟩) hCl).trans hfC
          have HS2 : Hid ((fun w' : World => w'.cell? ⟨w1.heap.size, 0, none⟩ = some (.slice (some ad) n c) ∧ w'.cell? ⟨w1.heap.size, 1, none⟩ = some (.int .i64 b) ∧ w'.cell? ⟨w1.heap.size, 2, none⟩ = some (.int .i64 m) ∧ w'.cell? ⟨w1.heap.size + 1, k, none⟩ = some (.slice (some ⟨C, 0, none⟩) m m) ∧ (∃ W2, Below wi.heap.size wi W2 ∧ (w' = W2 ∨ w' = W2.setCell ⟨C, q, none⟩ (.int .i64 x)))) w2) := ⟨f0, f1, f2, f3, w2, hb2, .inl rfl⟩
          have HS3 : Hid ((fun w' : World => w'.cell? ⟨w1.heap.size, 0, none⟩ = some (.slice (some ad) n c) ∧ w'.cell? ⟨w1.heap.size, 1, none⟩ = some (.int .i64 b) ∧ w'.cell? ⟨w1.heap.size, 2, none⟩ = some (.int .i64 m) ∧ w'.cell? ⟨w1.heap.size + 1, k, none⟩ = some (.slice (some ⟨C, 0, none⟩) m m) ∧ (∃ W2, Below wi.heap.size wi W2 ∧ (w' = W2 ∨ w' = W2.setCell ⟨C, q, none⟩ (.int .i64 x)))) (w2.setCell ⟨C, q, none⟩ (.int .i64 x))) := ⟨(World.cell?_setCell_other _ _ _ _ (by intro e; injection e; omega)).trans f0, (World.cell?_setCell_other _ _ _ _ (by intro e; injection e; omega)).trans f1, (World.cell?_setCell_other _ _ _ _ (by intro e; injection e; omega)).trans f2, (World.cell?_setCell_other _ _ _ _ (by intro e; injection e; omega)).trans f3, w2, hb2, .inr rfl⟩
          clear hb2 f0 f1 f2 f3
          go_wp2_with fail
          refine hK.out _ _ ?_ (fun hHeld => ?_)
          · clear hK K; first | exact HS0.out | exact HS2.out | exact HS3.out
          clear hK K
          try simp only [List.getElem_toArray, List.getElem_cons_succ, List.getElem_cons_zero, Act.put, List.setIfInBounds_toArray, List.set_cons_zero, List.set_cons_succ]
          refine wpAnyH_take (i := 10) (v := ?_) rfl (by kernel_rfl) (by kernel_rfl) (by kernel_rfl) (fun _ _ _ h => h) (Or.inl ⟨by rfl, ?_⟩) (by assumption) ?_
          rotate_left
          · intro w hSw; (try dsimp only at hSw); go_simp; (try (with_reducible rfl))
          try simp only [List.getElem_toArray, List.getElem_cons_succ, List.getElem_cons_zero, Act.put, List.setIfInBounds_toArray, List.set_cons_zero, List.set_cons_succ]
          refine wpAnyH_ready (rs := [11]) (by kernel_rfl) (by simp) ?_
          refine AllReadyH.cons rfl (fun K hK => ?_) AllReadyH.nil
          go_simp
          refine hK.out _ _ ?_ (fun hHeld => ?_)
          · clear hK K; first | exact HS0.out | exact HS2.out | exact HS3.out
          clear hK K
          try simp only [List.getElem_toArray, List.getElem_cons_succ, List.getElem_cons_zero, Act.put, List.setIfInBounds_toArray, List.set_cons_zero, List.set_cons_succ]
          refine wpAnyH_done (by kernel_rfl) ?_ _
          clear hHeld HS0 HS2 HS3 CC d0 d1 d2 hcB hcC hfC f4 f5
          go_wp2
          go_roundw
          case rel => exact ⟨q + 1, by omega, by go_num, HI.out.step HB2.out HXQ.out⟩
          case measure => simp [intOf]; omega
        · obtain rfl : q = m := by omega
          go_wp2
          exact ⟨⟨k + 1, by omega, by go_num, HI.out.done_ (HXR.out k hlt).1⟩, by simp [intOf]; omega⟩
    · obtain rfl : k = n := by omega
      obtain ⟨⟨cur, hB, hcs⟩, hrows, hbox, hbel⟩ := HI.out
      have HRW := Lib.hid hrows
      have HBLT := Lib.hid hB.lt
      have HBL := Lib.hid hbel
      clear hB hrows hbox hbel hcs HI
      go_wp2
      go_ret2
      exact ⟨⟨_, rfl, HRW.out.rdGN HBLT.out HXL.out (fun j hj => (HXR.out j hj).1) (by omega)⟩, HB1.out.trans (HBL.out.mono HB1.out.size)⟩

end Go.Proofs.YtjjflbnopphciaaGreatDoor

namespace Go.Proofs.YtjjflbnopphciaaGreatDoor
open Go.RowKit

theorem w_unr {R : Nat → Int} (hR : Radii8 R) {L c : Int} (hL : 0 ≤ L ∧ L ≤ 255) (A : Option Addr) (cp : Nat) (W : World) (hl : LaidSides W) (hr : RdGN W A 13 (imgW R L c 8)) :
    Calls Tryz.prog 17 #[.agg #[.slice A 13 cp], .agg #[.int .i64 6, .int .i64 6, .int .i64 1, .int .i64 6, .int .i64 8]] W fun e w' => (∃ A' c', e = .returned (.tuple #[.slice A' 8 c', .int .i64 0]) ∧ RdGN w' A' 8 (stripW R L c)) ∧ Below W.heap.size W w' := by
  obtain ⟨ad, rfl, hab, hc⟩ := hr.2 (by omega)
  obtain ⟨B, m, c', h1, h2, _⟩ := hc 0 (by omega)
  rw [addZ] at h1
  rw [imgW_at _ _ _ _ _ (by omega)] at h2
  have hm : 13 = m := by rw [← h2.1, rowW_length]
  subst hm
  have h := un_any ad 13 cp 13 c' B (imgW R L c 8) 6 6 1 6 8 W hl hr.toG (by omega) (by omega) ⟨hab, h1⟩ (by rw [imgW_at _ _ _ _ _ (by omega), rowW_length]) (imgW_grid hL) (fun r hr => (imgW_row hL r hr).1)
  have e0 : vwE (imgW R L c 8) 6 6 1 6 8 = 0 := by
    have := unE_W (R := R) (c := c) hL
    unfold unE at this
    rwa [if_pos (imgW_grid hL)] at this
  have e1 : vwX (imgW R L c 8) 6 6 1 6 8 = stripW R L c := by
    have := unX_W hR (c := c) hL
    unfold unX at this
    rw [if_pos (unE_W hL)] at this
    unfold vwX
    rw [if_pos e0]
    exact this
  rw [e0, e1] at h
  refine h.mono ?_
  rintro e w' ⟨⟨A', c2, he, h3⟩, hb⟩
  rw [strip_len] at he h3
  exact ⟨⟨A', c2, he, h3⟩, hb⟩
theorem strip203 (R : Nat → Int) (L c : Int) : ∀ j, j < 8 → ((stripW R L c).getD j []).length ≤ 203 := fun j hj => by rw [strip_at _ _ _ _ hj]; simp
theorem img203 (R : Nat → Int) (L c : Int) (k : Nat) : ∀ j, j < 13 → ((imgW R L c k).getD j []).length ≤ 203 := fun j hj => by rw [imgW_at _ _ _ _ _ hj, rowW_length]; omega
theorem w_task {R : Nat → Int} {L c b : Int} (hL : 0 ≤ L ∧ L ≤ 255) (hb : 0 ≤ b ∧ b ≤ 1000) (A : Option Addr) (cp : Nat) (W : World) (hr : RdGN W A 8 (stripW R L c)) :
    Calls Tryz.prog 19 #[.agg #[.slice A 8 cp, .int .i64 b]] W fun e w' => e = .returned (.int .i64 0) ∧ Below W.heap.size W w' := by
  have h := refTaskErr_any A 8 cp (stripW R L c) b W hr.toG (by omega)
  rwa [strip_task hL hb] at h
theorem w_best {R : Nat → Int} {L c b : Int} (hL : 0 ≤ L ∧ L ≤ 255) (hb : 0 ≤ b ∧ b ≤ 1000) {l : List Int} {n : Int} (hbl : bestL (stripW R L c) b = (l, n)) (hln : l.length = 8) (A : Option Addr) (cp : Nat) (W : World) (hr : RdGN W A 8 (stripW R L c)) :
    Calls Tryz.prog 20 #[.agg #[.slice A 8 cp, .int .i64 b]] W fun e w' => (∃ A' c', e = .returned (.tuple #[.slice A' 8 c', .int .i64 n, .int .i64 0]) ∧ RdI w' A' 8 l ∧ (A' = none → 8 = 0 ∧ c' = 0)) ∧ Below W.heap.size W w' := by
  have h := BestPath_any A 8 cp (stripW R L c) b W hr.toG (by omega)
  rw [strip_task hL hb, hbl] at h
  refine h.mono ?_
  rintro e w' ⟨⟨v, he, ho⟩, hb⟩
  have ho' : w'.ownsRow W.heap.size 3 1 v l.length (l.map (Value.int .i64)) := ho
  obtain ⟨A', c', rfl, _, h3, h4⟩ := rd_ownN ho'
  rw [hln] at he h3 h4
  exact ⟨⟨A', c', he, h3, h4⟩, hb⟩
theorem w_prices {R : Nat → Int} {L c b : Int} (hL : 0 ≤ L ∧ L ≤ 255) (hb : 0 ≤ b ∧ b ≤ 1000) (A : Option Addr) (cp : Nat) (W : World) (hr : RdGN W A 8 (stripW R L c)) :
    Calls Tryz.prog 22 #[.agg #[.slice A 8 cp, .int .i64 b]] W fun e w' => (∃ A', e = .returned (.tuple #[.slice A' 8 8, .int .i64 0]) ∧ RdGN w' A' 8 (prTo (stripW R L c) b 6 8)) ∧ Below W.heap.size W w' :=
  Prices_ok A 8 cp (stripW R L c) b 6 W hr.toG (by omega) (strip_task hL hb) (strip_cols _ _ _)
theorem w_pathErr {R : Nat → Int} {L c b : Int} (hL : 0 ≤ L ∧ L ≤ 255) (hb : 0 ≤ b ∧ b ≤ 1000) {l : List Int} (hp : pathE 8 6 l = 0) (A P : Option Addr) (cp cq : Nat) (W : World) (hr : RdGN W A 8 (stripW R L c)) (hq : RdI W P 8 l) :
    Calls Tryz.prog 23 #[.agg #[.slice A 8 cp, .int .i64 b], .slice P 8 cq] W fun e w' => e = .returned (.int .i64 0) ∧ Below W.heap.size W w' := by
  obtain ⟨ad, m, c', B, rfl, hcm, _, _, hm0, hm12, hab, hck, _, _⟩ := task_parts hr.toG (strip_task (b := b) hL hb)
  have hm : 6 = m := by rw [← hcm, strip_cols]
  subst hm
  have h := refPathErr_any ad 8 cp 6 c' B b P 8 cq l W (by omega) (by omega) (by omega) hab hck hq
  rwa [hp] at h
theorem w_check {R : Nat → Int} {L c b : Int} (hL : 1 ≤ L ∧ L ≤ 255) (hb : 0 ≤ b ∧ b ≤ 1000) {l : List Int} {n : Int} (hbl : bestTo (fun _ _ => true) b 6 (stripW R L c) 6 = (l, n)) (A P : Option Addr) (cp cq : Nat) (W : World) (hr : RdGN W A 8 (stripW R L c)) (hq : RdGN W P 8 (prTo (stripW R L c) b 6 8)) :
    Calls Tryz.prog 24 #[.agg #[.slice A 8 cp, .int .i64 b], .slice P 8 cq] W fun e w' => e = .returned (.tuple #[.int .i64 n, .int .i64 0]) ∧ Below W.heap.size W w' := by
  have h := CheckPrices_any A 8 cp (stripW R L c) b P 8 cq _ W hr.toG (by omega) hq.toG (by omega)
  obtain ⟨h1, h2⟩ := prices_W (R := R) (c := c) hL hb hbl
  rw [h1, if_pos rfl, h2] at h
  exact h
theorem w_cracks {R : Nat → Int} {L c b : Int} (hL : 1 ≤ L ∧ L ≤ 255) (hb : 0 ≤ b ∧ b ≤ 1000) (hc : -1 ≤ c ∧ c ≤ 6) {l : List Int} (hp : pathE 8 6 l = 0) (hin : ∀ k, k < 8 → 0 ≤ l.getD k 0 ∧ l.getD k 0 ≤ 5) (hf : ∀ k : Nat, k < 8 → (k : Int) ≠ c → l.getD k 0 = R k - 1) (A P : Option Addr) (cp cq : Nat) (W : World) (hr : RdGN W A 8 (stripW R L c)) (hq : RdI W P 8 l) :
    Calls Tryz.prog 26 #[.agg #[.slice A 8 cp, .int .i64 b], .slice P 8 cq, .int .i64 0] W (OwnResR W 0 (crkW c)) := by
  have h := CracksIn_any A 8 cp (stripW R L c) b 0 P 8 cq l W hr.toG (by omega) hq (by omega)
  obtain ⟨h1, h2⟩ := crk_W (b := b) hL hb hc hp hin hf
  rwa [h1, h2] at h
theorem copyPrices (R : Nat → Int) (L c b : Int) (A : Option Addr) (cp : Nat) (W : World) (h : RdGN W A 8 (prTo (stripW R L c) b 6 8)) :
    Calls Tryz.prog 25 #[.slice A 8 cp] W fun e w' => (∃ A' c', e = .returned (.slice A' 8 c') ∧ RdGN w' A' 8 (prTo (stripW R L c) b 6 8)) ∧ Below W.heap.size W w' := by
  have h203 : ∀ j, j < 8 → ((prTo (stripW R L c) b 6 8).getD j []).length ≤ 203 := fun j hj => by rw [prTo_at _ _ hj, prRow_length]; omega
  refine (copyLists_any A 8 cp _ W h (by omega) h203).mono ?_
  rintro e w' ⟨⟨v, he, ho⟩, hb⟩
  obtain ⟨A', c', e2, h2⟩ := ho.read (prTo_length _) h203
  exact ⟨⟨A', c', by rw [he, e2], h2⟩, hb⟩
/-- A copy of eight numbers. -/
theorem copy8 (A : Option Addr) (c : Nat) (l : List Int) (hln : l.length = 8) (W : World) (hA : A = none → 8 = 0 ∧ c = 0) (hr : RdI W A 8 l) :
    Calls Tryz.prog 8 #[.slice A 8 c] W fun e w' => (∃ A' c', e = .returned (.slice A' 8 c') ∧ RdI w' A' 8 l ∧ (A' = none → 8 = 0 ∧ c' = 0)) ∧ Below W.heap.size W w' := by
  refine (copyInts_any A 8 c l W hA hr (by omega)).mono ?_
  rintro e w' ⟨⟨v, he, ho⟩, hb⟩
  have ho' : w'.ownsRow W.heap.size 3 1 v l.length (l.map (Value.int .i64)) := ho
  obtain ⟨A', c', rfl, _, h3, h4⟩ := rd_ownN ho'
  rw [hln] at he h3 h4
  exact ⟨⟨A', c', he, h3, h4⟩, hb⟩

/-- Appending a slice that may be nil. -/
theorem wpList_append_both {P : Program} {w : World} {ops : Array Oper} {rest : List Oper} {o : Oper} {a : Act} {Q : Exit → Act → World → Prop} (hgd : o.guard = none) (s x : Operand) (t : TypeId)
    (ho : o.op = .call { callee := .builtin .append, args := #[s, x], argTypes := #[t, t] })
    (base : Nat) (e : TypeId) (i : TypeInfo) (z : Value) (size bytes : Nat) (ht : P.underlying t = some (.slice e)) (hi : P.info? e = some i) (hz : i.zero = some z)
    (hsize : i.size = size) (hby : i.bytes = bytes) (hzs : z.cells.size = size) (hsz : 0 < size)
    (v : Value) (n : Nat) (xs : List Value) (hs : a.eval s = v) (hown : w.ownsRow base e size v n xs)
    (A : Option Addr) (m c : Nat) (news : List Value) (hx : a.eval x = .slice A m c) (hA : A = none → m = 0 ∧ c = 0) (hl : news.length = m * size) (hnews : ∀ ad, A = some ad → ∀ j u, news[j]? = some u → w.cell? (ad.add j) = some u) (h1 : ∀ u ∈ news, u.oneCell' = true)
    (h63 : n + m ≤ maxLen) (hbytes : (n + m) * bytes ≤ 140737488355328) (hbase : base ≤ w.heap.size)
    (h : ∀ v' w', w'.ownsRow base e size v' (n + m) (xs ++ news) → w.grownBy w' v.ownBlock → (v' = .slice none 0 0 ↔ v = .slice none 0 0 ∧ m = 0) → wpList P ops Q rest (a.put o.dst v') w') : wpList P ops Q (o :: rest) a w := by
  cases A with
  | none =>
    obtain ⟨rfl, rfl⟩ := hA rfl
    have hn : news = [] := List.eq_nil_of_length_eq_zero (by rw [hl]; omega)
    subst hn
    refine wpList_append_own_none hgd s x t ho base e i size ht hi v n xs hs hown hx ?_
    refine h v w ?_ (World.grownBy.refl _ _) ⟨fun h => ⟨h, rfl⟩, fun h => h.1⟩
    rw [List.append_nil]
    exact hown
  | some ad => exact wpList_append_own w hgd s x t ho base e i z size bytes ht hi hz hsize hby hzs hsz v n xs hs hown ad m c news hx hl (hnews ad rfl) h1 h63 hbytes hbase h
theorem ownNil {w : World} {base size n : Nat} {t : TypeId} {v : Value} {xs : List Value} (h : w.ownsRow base t size v n xs) : ∀ A c, v = .slice A n c → A = none → n = 0 ∧ c = 0 := by
  rintro A c rfl rfl
  rcases h.2 with ⟨e, h0⟩ | ⟨g, cap, cur, e, _⟩
  · injection e with _ e1 e2; exact ⟨e1, e2⟩
  · injection e with e; cases e
theorem app_some {w : World} {base size n : Nat} {t : TypeId} {v : Value} {xs : List Value} (h : w.ownsRow base t size v n xs) (hn : v = .slice none 0 0 → False) : ∃ g c, v = .slice (some ⟨g, 0, none⟩) n c := by
  rcases h.2 with ⟨e, h0⟩ | ⟨g, cap, cur, e, _⟩
  · exact absurd e hn
  · exact ⟨g, cap, e⟩
theorem ranges_src {W : World} {o : Obj} {A : Option Addr} {g n : Nat} {cw : List (Int × Int)} (h : RdR W g n cw) (hA : 0 < n → A = some ⟨g, 0, none⟩) (hl : cw.length = n) {ad : Addr} (e : A = some ad) (j : Nat) (u : Value) (hu : (pairCells cw)[j]? = some u) : (W.alloc o).cell? (ad.add j) = some u := by
  have hj : j < cw.length * 2 := by
    have := (List.getElem?_eq_some_iff.1 hu).1
    rw [pairCells_length] at this
    exact this
  have h0 : 0 < n := by omega
  have h1 := hA h0
  rw [e] at h1
  cases h1
  have hg := h.2.1 h0
  rw [addOff, World.cell?_alloc_lt W _ _ hg]
  obtain ⟨p1, p2⟩ := pairCells_at cw (j / 2) (by omega)
  obtain ⟨q1, q2⟩ := h.2.2 (j / 2) (by omega)
  rcases Nat.mod_two_eq_zero_or_one j with hm | hm
  · have ej : j = j / 2 * 2 := by omega
    rw [ej] at hu ⊢
    rw [p1] at hu
    rw [q1, ← hu]
  · have ej : j = j / 2 * 2 + 1 := by omega
    rw [ej] at hu ⊢
    rw [p2] at hu
    rw [q2, ← hu]
end Go.Proofs.YtjjflbnopphciaaGreatDoor

