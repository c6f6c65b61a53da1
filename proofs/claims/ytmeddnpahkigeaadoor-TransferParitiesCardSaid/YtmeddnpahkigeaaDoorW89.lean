import Derived.Test.YtmeddnpahkigeaaDoorW88
import Derived.StillTailTactics
namespace Go.Proofs.YtmeddnpahkigeaaDoor
open Go.RowKit
open Go.Shelf

/-- Cell k of the parity j of the first i blocks. -/
def pk (ds : List (List Int)) (j : Int) (i k : Nat) : Int := (parP ds j (List.range i)).getD k 0
theorem pk_zero (ds : List (List Int)) (j : Int) (k : Nat) : pk ds j 0 k = 0 := by
  unfold pk parP zer8
  simp only [List.range_zero, List.foldl_nil]
  match k with
  | 0 => rfl
  | 1 => rfl
  | 2 => rfl
  | 3 => rfl
  | 4 => rfl
  | 5 => rfl
  | 6 => rfl
  | 7 => rfl
  | k + 8 => rfl
theorem pk_succ (ds : List (List Int)) (j : Int) (i k : Nat) (hk : k < 8) : pk ds j (i + 1) k = (pk ds j i k + invT (4 + (i : Int) - j) * (dc ds i k + 32768)) % 65537 := by
  unfold pk
  rw [List.range_succ, parP_snoc, addP_at _ _ _ _ _ hk, if_pos hk]
  unfold numL
  rw [numTo_at _ _ _ hk, if_pos hk]
  rfl
/-- The reference's parity while it is filled. -/
def stS (ds : List (List Int)) (j : Int) (n s i : Nat) : List Int := (List.range 8).map fun k => if k < s then pk ds j n k else if k = s then pk ds j i k else 0
theorem stS_length (ds : List (List Int)) (j : Int) (n s i : Nat) : (stS ds j n s i).length = 8 := by simp [stS]
theorem stS_at (ds : List (List Int)) (j : Int) (n s i k : Nat) (hk : k < 8) : (stS ds j n s i).getD k 0 = if k < s then pk ds j n k else if k = s then pk ds j i k else 0 := by
  simp [stS, List.getD_eq_getElem?_getD, hk]
theorem stS_zero (ds : List (List Int)) (j : Int) (n : Nat) : stS ds j n 0 0 = zer8 := by
  simp only [stS, pk_zero, Nat.not_lt_zero, if_false, ite_self]
  rfl
theorem stS_step (ds : List (List Int)) (j : Int) (n s i : Nat) (hs : s < 8) : (stS ds j n s i).set s (pk ds j (i + 1) s) = stS ds j n s (i + 1) := by
  apply List.ext_getElem (by simp [stS])
  intro q h1 h2
  have hq : q < 8 := by simpa [stS] using h2
  rw [List.getElem_set]
  by_cases e : s = q
  · subst e; simp [stS]
  · rw [if_neg e]
    simp only [stS, List.getElem_map, List.getElem_range]
    by_cases h : q < s
    · rw [if_pos h, if_pos h]
    · rw [if_neg h, if_neg h, if_neg (fun e' => e e'.symm), if_neg (fun e' => e e'.symm)]
theorem stS_next (ds : List (List Int)) (j : Int) (n s : Nat) : stS ds j n s n = stS ds j n (s + 1) 0 := by
  unfold stS
  refine List.map_congr_left fun k _ => ?_
  rw [pk_zero]
  by_cases h : k < s
  · rw [if_pos h, if_pos (by omega)]
  · rw [if_neg h]
    by_cases e : k = s
    · rw [if_pos e, if_pos (by omega)]
    · rw [if_neg e, if_neg (by omega)]; split <;> rfl
theorem stS_end (ds : List (List Int)) (j : Int) (n : Nat) : stS ds j n 8 0 = parP ds j (List.range n) := by
  apply List.ext_getElem (by rw [stS_length, parP_length])
  intro q h1 h2
  have hq : q < 8 := by simpa [stS] using h1
  simp only [stS, List.getElem_map, List.getElem_range, if_pos hq, pk, List.getD_eq_getElem?_getD, List.getElem?_eq_getElem h2, Option.getD_some]

set_option maxRecDepth 100000 in
set_option maxHeartbeats 4000000 in
theorem refParityOf_any (A : Option Addr) (n c : Nat) (ds : List (List Int)) (K : Nat) (w : World) (hr : RdD w A n ds) (hX : BndD ds) (hn : n ≤ 1000) (hK : K ≤ 4) :
    Calls Tryd.prog 21 #[.slice A n c, .int .i64 (K : Int)] w fun e w' => (∃ A3 c3, e = .returned (.slice A3 K c3) ∧ RdD w' A3 K (parL n ds K)) ∧ Below w.heap.size w w' := by
  have HR := Lib.hid hr
  have HX := Lib.hid hX
  obtain ⟨i0, hi0, hz0, hz1, hz2⟩ := info_parts arr8Info
  clear hr hX
  go_enter Tryd.func21, Tryd.ntmps21
  go_wp2
  go_loopw [5, 6, 7, 8, 9] (fun v i _ _ _ wr => ∃ j : Nat, j ≤ K ∧ i = .int .i64 j ∧ Hid (wr.ownsRow w.heap.size 65 8 v j (dCells (parL n ds j)) ∧ Below w.heap.size w wr)) (fun _ i _ _ _ _ => K - (intOf i).toNat)
  case atStart => exact ⟨0, Nat.zero_le _, rfl, World.ownsRow_nil _ _ _ _, Below.refl _ _⟩
  case round =>
    obtain ⟨j, hj, rfl, HI⟩ := hrel
    obtain ⟨Ac, ca, rfl, _⟩ := own_formT HI.out.1
    have hsz : w.heap.size ≤ wr.heap.size := HI.out.2.size
    by_cases hlt : j < K
    · have hjI : (j : Int) < (K : Int) := by omega
      obtain ⟨wA, hwA⟩ : ∃ X, X = wr := ⟨_, rfl⟩
      subst hwA
      obtain ⟨g, hg⟩ : ∃ g, wA.heap.size = g := ⟨_, rfl⟩
      obtain ⟨w2, hw2⟩ : ∃ X, wA.alloc (.cells zero8 65) = X := ⟨_, rfl⟩
      have hbk : Hid (Bk w2 g 65 (iArr (stS ds j n 0 0))) := by
        show Bk _ _ _ _
        rw [stS_zero, ← hw2, ← hg]
        exact Bk.new _ _ _
      have hb2 : Hid (Below g wA w2) := by show Below _ _ _; rw [← hw2, ← hg]; exact (Below.refl _ _).alloc (Nat.le_refl _) _
      have HG := Lib.hid hg
      have HW2 : Hid (wA.alloc (.cells #[.int .i64 0, .int .i64 0, .int .i64 0, .int .i64 0, .int .i64 0, .int .i64 0, .int .i64 0, .int .i64 0] 65) = w2) := hw2
      have HII := Lib.hid HI.out
      clear hw2 hg HI
      go_wp2
      rw [HW2.out]
      rw [HG.out]
      rw [HG.out] at hsz
      clear HW2
      go_loopw [8, 9] (fun i _ W => ∃ s : Nat, s ≤ 8 ∧ i = .int .i64 s ∧ Hid (Bk W g 65 (iArr (stS ds j n s 0))) ∧ Hid (Below g wA W)) (fun i _ _ => 8 - (intOf i).toNat)
      case atStart => exact ⟨0, Nat.zero_le _, rfl, hbk.out, hb2.out⟩
      case round =>
        clear hbk hb2
        obtain ⟨s, hs8, rfl, hbk, hbe⟩ := hrel
        by_cases hs : s < 8
        · have hsI : (s : Int) < 8 := by omega
          obtain ⟨wB, hwB⟩ : ∃ X, X = wr := ⟨_, rfl⟩
          subst hwB
          go_wp2
          go_loopw [9] (fun i W => ∃ m : Nat, m ≤ n ∧ i = .int .i64 m ∧ Hid (Bk W g 65 (iArr (stS ds j n s m))) ∧ Hid (Below g wA W)) (fun i _ => n - (intOf i).toNat)
          case atStart => exact ⟨0, Nat.zero_le _, rfl, hbk.out, hbe.out⟩
          case round =>
            clear hbk hbe
            obtain ⟨m, hm, rfl, hbk, hbe⟩ := hrel
            have hBW : Below w.heap.size w wr := HII.out.2.trans (hbe.out.mono hsz)
            by_cases hmn : m < n
            · have hmI : (m : Int) < (n : Int) := by omega
              obtain ⟨ad, rfl, hadl, hcx⟩ := (HR.out.below hBW).2.2 (by omega)
              have hck := hcx m s hmn hs
              have hxb := HX.out m s
              have hpb : 0 ≤ pk ds j m s ∧ pk ds j m s ≤ 65536 := parP_bd ds j (List.range m) s
              have hsu := pk_succ ds j m s hs
              have hold : wr.cell? ⟨g, s, none⟩ = some (.int .i64 (pk ds j m s)) := by
                rw [hbk.out.cell, iArr_at _ _ (by rw [stS_length]; exact hs), stS_at _ _ _ _ _ _ hs, if_neg (by omega), if_pos rfl]
              have hfr : wr.frozen? ⟨g, s, none⟩ = false := hbk.out.frozen _
              have hst := stS_step ds j n s m hs
              have hwt := invT_bd (4 + (m : Int) - j)
              have CF := Lib.hid (fun W => factor_any m j (by omega) (by omega) W)
              obtain ⟨x, hx⟩ : ∃ x, dc ds m s = x := ⟨_, rfl⟩
              obtain ⟨o, ho⟩ : ∃ o, pk ds j m s = o := ⟨_, rfl⟩
              obtain ⟨wt, hwtt⟩ : ∃ wt, invT (4 + (m : Int) - j) = wt := ⟨_, rfl⟩
              rw [hx] at hck hxb hsu
              rw [ho] at hpb hsu hold
              rw [hwtt] at hwt CF hsu
              have hmul := mul_bd2 wt (x + 32768) 65536 65535 hwt.1 (by omega) (by omega) (by omega)
              have t1 : (o + wt * (x + 32768)).tmod 65537 = (o + wt * (x + 32768)) % 65537 := Int.tmod_eq_emod_of_nonneg (by omega)
              rw [← hsu] at t1
              obtain ⟨z, hz⟩ : ∃ z, pk ds j (m + 1) s = z := ⟨_, rfl⟩
              rw [hz] at hst t1
              have v1 : IntKind.i64.wrap (x + 32768) = x + 32768 := IntWalk.i64_in _ (by omega)
              have v2 : IntKind.i64.wrap (wt * (x + 32768)) = wt * (x + 32768) := IntWalk.i64_in _ (by omega)
              have v3 : IntKind.i64.wrap (o + wt * (x + 32768)) = o + wt * (x + 32768) := IntWalk.i64_in _ (by omega)
              have FIN : Hid (Bk (wr.drew.setCell ⟨g, s, none⟩ (.int .i64 z)) g 65 (iArr (stS ds j n s (m + 1)))) := by
                show Bk _ _ _ _
                rw [← hst, ← iArr_set]
                exact hbk.out.drew.set_ _ _
              have FIB : Hid (Below g wA (wr.drew.setCell ⟨g, s, none⟩ (.int .i64 z))) := hbe.out.drew.setCell (Nat.le_refl _) _
              clear hx ho hwtt hz hst hsu hcx hbk hbe hBW hmul
              go_wp2_with fail
              go_still_tail 18, (by kernel_rfl)
              refine wpStill_step (fun K hK => ?_)
              go_simp
              refine ⟨_, (CF.out _).mono (fun e w'' h => ⟨h.1, h.2.symm⟩), hK _ ?_⟩
              clear hK K
              repeat still_step
              refine wpStill_nil ?_
              change wpList _ _ _ _ _ wr.drew
              have hold' : wr.drew.cell? ⟨g, s, none⟩ = some (.int .i64 o) := hold
              have hfr' : wr.drew.frozen? ⟨g, s, none⟩ = false := hfr
              clear hold hfr CF hck v1 v2 v3 t1
              generalize wr.drew = w9 at *
              go_wp2
              go_roundw
              case rel => exact ⟨m + 1, by omega, by go_num, FIN.out, FIB.out⟩
              case measure => simp [intOf]; omega
            · obtain rfl : n = m := by omega
              rw [stS_next] at hbk
              go_wp2
              go_roundw
              case rel => exact ⟨s + 1, by omega, by go_num, hbk.out, hbe.out⟩
              case measure => simp [intOf]; omega
        · obtain rfl : s = 8 := by omega
          rw [stS_end] at hbk
          have hp8 := parP_length ds j (List.range n)
          have hl8 := iArr8 _ hp8
          have hls := list8 _ hp8
          have hsu := parL_succ n ds j
          obtain ⟨pp, hpp⟩ : ∃ pp, parP ds (j : Int) (List.range n) = pp := ⟨_, rfl⟩
          rw [hpp] at hbk hl8 hls hsu
          rw [hls] at hsu
          rw [hl8] at hbk
          have HSU := Lib.hid hsu
          clear hpp hl8 hls hsu hp8
          have hsu2 := HSU.out
          have HS2 : Hid (dCells (parL n ds (j + 1)) = dCells (parL n ds j) ++ [.int .i64 (pp.getD 0 0), .int .i64 (pp.getD 1 0), .int .i64 (pp.getD 2 0), .int .i64 (pp.getD 3 0), .int .i64 (pp.getD 4 0), .int .i64 (pp.getD 5 0), .int .i64 (pp.getD 6 0), .int .i64 (pp.getD 7 0)]) := by
            show _ = _
            rw [hsu2, dCells_snoc]; rfl
          clear hsu2 HSU
          generalize pp.getD 0 0 = p0 at *
          generalize pp.getD 1 0 = p1 at *
          generalize pp.getD 2 0 = p2 at *
          generalize pp.getD 3 0 = p3 at *
          generalize pp.getD 4 0 = p4 at *
          generalize pp.getD 5 0 = p5 at *
          generalize pp.getD 6 0 = p6 at *
          generalize pp.getD 7 0 = p7 at *
          have e0 : wr.cell? ⟨g, 0, none⟩ = some (.int .i64 p0) := by rw [hbk.out.cell]; rfl
          have e1 : wr.cell? ⟨g, 1, none⟩ = some (.int .i64 p1) := by rw [hbk.out.cell]; rfl
          have e2 : wr.cell? ⟨g, 2, none⟩ = some (.int .i64 p2) := by rw [hbk.out.cell]; rfl
          have e3 : wr.cell? ⟨g, 3, none⟩ = some (.int .i64 p3) := by rw [hbk.out.cell]; rfl
          have e4 : wr.cell? ⟨g, 4, none⟩ = some (.int .i64 p4) := by rw [hbk.out.cell]; rfl
          have e5 : wr.cell? ⟨g, 5, none⟩ = some (.int .i64 p5) := by rw [hbk.out.cell]; rfl
          have e6 : wr.cell? ⟨g, 6, none⟩ = some (.int .i64 p6) := by rw [hbk.out.cell]; rfl
          have e7 : wr.cell? ⟨g, 7, none⟩ = some (.int .i64 p7) := by rw [hbk.out.cell]; rfl
          have hgl : g < wr.heap.size := hbk.out.lt
          have hoW : Hid (wr.ownsRow w.heap.size 65 8 (.slice Ac j ca) j (dCells (parL n ds j))) := ownBelowT HII.out.1 (by rw [HG.out]; exact hbe.out)
          have hsW : w.heap.size ≤ wr.heap.size := by have := hbe.out.size; have := HG.out; omega
          have HN8 : Hid (∀ i u, [.int .i64 p0, .int .i64 p1, .int .i64 p2, .int .i64 p3, .int .i64 p4, .int .i64 p5, .int .i64 p6, .int .i64 p7][i]? = some u → (wr.alloc (.cells #[.int .i64 p0, .int .i64 p1, .int .i64 p2, .int .i64 p3, .int .i64 p4, .int .i64 p5, .int .i64 p6, .int .i64 p7] 65)).cell? ((⟨wr.heap.size, 0, none⟩ : Addr).add i) = some u) := new11 wr #[.int .i64 p0, .int .i64 p1, .int .i64 p2, .int .i64 p3, .int .i64 p4, .int .i64 p5, .int .i64 p6, .int .i64 p7] 65
          go_wp2_with (at_builtin; refine wpList_append_own _ rfl (.tmp 43) (.tmp 45) 35 rfl w.heap.size 65 i0 _ 8 64 Tryd.underlying35 hi0 hz0 hz1 hz2 rfl (by decide) _ _ _ rfl (hoW.out.alloc _) ⟨wr.heap.size, 0, none⟩ 1 1 [.int .i64 p0, .int .i64 p1, .int .i64 p2, .int .i64 p3, .int .i64 p4, .int .i64 p5, .int .i64 p6, .int .i64 p7] rfl rfl HN8.out (by simp [Value.oneCell']) (by unfold maxLen; omega) (by omega) (by simp; omega) ?_)
          intro v' w6 hown' hgrow _
          have HFIN : Hid (w6.ownsRow w.heap.size 65 8 v' (j + 1) (dCells (parL n ds (j + 1))) ∧ Below w.heap.size w w6) := by
            refine ⟨?_, ((HII.out.2.trans (hbe.out.mono hsz)).alloc hsW _).grown hgrow (by simp; omega) (fun z e => (hoW.out.lt z e).1)⟩
            rw [HS2.out]
            exact hown'
          clear hown' hgrow
          go_wp2
          go_roundw
          case rel => exact ⟨j + 1, by omega, by go_num, HFIN.out⟩
          case measure => simp [intOf]; omega
    · obtain rfl : K = j := by omega
      have HRD := Lib.hid (RdD.of_own HI.out.1 (parL_length _ _ _) (parL_ok8 _ _ _))
      go_wp2
      go_ret
      exact ⟨⟨_, _, rfl, HRD.out⟩, HI.out.2⟩

end Go.Proofs.YtmeddnpahkigeaaDoor
