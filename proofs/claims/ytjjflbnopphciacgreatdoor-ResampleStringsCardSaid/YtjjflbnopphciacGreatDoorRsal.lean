import Derived.Test.YtjjflbnopphciacGreatDoorRsak
import Derived.Test.YtjjflbnopphciacGreatDoorRsac
import Derived.Test.YtjjflbnopphciacGreatDoorRsad
import Derived.OpenShut
namespace Go.Proofs.YtjjflbnopphciacGreatDoor
open Go.RowKit

def ArrIn (ws : List (List UInt8)) (j : Nat) (cs : Array Value) : Prop := cs.size = 4 ∧ (∀ i p, 1 ≤ i → i < j → ws[i]? = some p → ∃ v, numU p 4 = some v ∧ cs[i]? = some (.int .i64 v))
theorem ArrIn.step {ws : List (List UInt8)} {j : Nat} {cs : Array Value} {v : Int} {p : List UInt8} (h : ArrIn ws j cs) (hj : j < 4) (hp : ws[j]? = some p) (hv : numU p 4 = some v) : ArrIn ws (j + 1) (cs.setIfInBounds j (.int .i64 v)) := by
  refine ⟨by simp [h.1], fun i p' h1 h2 hp' => ?_⟩
  by_cases e : i = j
  · subst e
    rw [hp] at hp'
    obtain rfl := Option.some.inj hp'
    exact ⟨v, hv, by rw [Array.getElem?_setIfInBounds]; simp [h.1, hj]⟩
  · obtain ⟨u, hu, hc⟩ := h.2 i p' h1 (by omega) hp'
    exact ⟨u, hu, by rw [Array.getElem?_setIfInBounds]; simp [Ne.symm e, hc]⟩
def ratioFin (o1 o2 o3 : Option Int) : Rul × Int := rulFin (ratioV true o1 o2 o3)
theorem ratioFin_bad (a b c : List UInt8) (j : Nat) (p : List UInt8) (hj : 1 ≤ j) (kw : List UInt8) (hp : (kw :: [a, b, c])[j]? = some p) (hn : numU p 4 = none) : ratioFin (numU a 4) (numU b 4) (numU c 4) = (rul0, 7) := by
  unfold ratioFin
  match j, hp with
  | 0, _ => omega
  | 1, hp => obtain rfl : a = p := by simpa using hp
             rw [hn]; cases numU b 4 <;> cases numU c 4 <;> exact rulFin_err 7 (by omega)
  | 2, hp => obtain rfl : b = p := by simpa using hp
             rw [hn]; cases numU a 4 <;> cases numU c 4 <;> exact rulFin_err 7 (by omega)
  | 3, hp => obtain rfl : c = p := by simpa using hp
             rw [hn]; cases numU a 4 <;> cases numU b 4 <;> exact rulFin_err 7 (by omega)
  | j + 4, hp => simp at hp

set_option maxRecDepth 100000 in
set_option maxHeartbeats 8000000 in
theorem refPR_ratio (s : ByteArray) (w : World) (hs : s.size ≤ 60000) (kw a b c : List UInt8) (q : Nat) (hps : pcs 32 s.data.toList = kw :: [a, b, c]) (hq : (kw :: [a, b, c]).length = q) (h1 : kw = ratioL) :
    Calls Tryz.prog 13 #[.string s] w (RulRes w (ratioFin (numU a 4) (numU b 4) (numU c 4))) := by
  have hz : s.data.toList.length = s.size := by simp
  have hsum := pcs_sum 32 s.data.toList
  rw [hps] at hsum
  have HML : Hid (∀ p ∈ (kw :: [a, b, c]), p.length ≤ 60000) := fun p hp => by have := hsum p hp; omega
  have CN : Hid (∀ X : ByteArray, X.size ≤ 60000 → ∀ W, _) := Lib.hid fun X hX W => refNum4_any X 4 W (by omega) (by omega) (by omega)
  obtain ⟨ws, hws⟩ : ∃ ws, kw :: [a, b, c] = ws := ⟨_, rfl⟩
  have HWSS := Lib.hid hws
  have HBADX : Hid (∀ j p, 1 ≤ j → ws[j]? = some p → numU p 4 = none → ratioFin (numU a 4) (numU b 4) (numU c 4) = (rul0, 7)) := fun j p hj hp hn => ratioFin_bad a b c j p hj kw (by rw [hws]; exact hp) hn
  rw [hws] at hps hq HML
  have hkw : ws[0]? = some kw := by rw [← hws]; rfl
  have hl4 : ws.length = 4 := by rw [← hws]; rfl
  obtain ⟨RR, hRR⟩ : ∃ r, ratioFin (numU a 4) (numU b 4) (numU c 4) = r := ⟨_, rfl⟩
  rw [hRR] at HBADX ⊢
  have HRR := Lib.hid hRR
  clear hsum hz hws hRR
  obtain ⟨w1, hw1⟩ : ∃ W, (w.alloc (.cells #[.int .i64 0, .int .i64 0, .int .i64 0, .int .i64 0, .int .i64 0, .slice none 0 0] 26)).alloc (.cells #[.int .i64 0, .int .i64 0, .int .i64 0, .int .i64 0, .int .i64 0, .slice none 0 0] 26) = W := ⟨_, rfl⟩
  have HB1 : Hid (Below w.heap.size w w1) := by show Below _ _ _; rw [← hw1]; exact below2 _ _ _
  have K1 : Hid (Bk w1 w.heap.size 26 #[.int .i64 0, .int .i64 0, .int .i64 0, .int .i64 0, .int .i64 0, .slice none 0 0]) := by show Bk _ _ _ _; rw [← hw1]; exact (Bk.new _ _ _).alloc _
  have N1 : Hid (Bk w1 (w.heap.size + 1) 26 #[.int .i64 0, .int .i64 0, .int .i64 0, .int .i64 0, .int .i64 0, .slice none 0 0]) := by show Bk _ _ _ _; rw [← hw1]; simpa using Bk.new (w.alloc (.cells #[.int .i64 0, .int .i64 0, .int .i64 0, .int .i64 0, .int .i64 0, .slice none 0 0] 26)) 26 #[.int .i64 0, .int .i64 0, .int .i64 0, .int .i64 0, .int .i64 0, .slice none 0 0]
  have HW1 := Lib.hid hw1
  have CC := Lib.hid (cut_form s 32 32 rfl w1 (by omega) ws q hps hq)
  have hI : ¬ (60000 : Int) < (s.size : Int) := by omega
  obtain ⟨X, hX⟩ : ∃ X : ByteArray, (⟨kw.toArray⟩ : ByteArray) = X := ⟨_, rfl⟩
  have HX := Lib.hid hX
  have HXL : Hid (X.data.toList = kw) := by show _ = _; rw [← hX]
  have HQ := Lib.hid hq
  have hq0 : 0 < q := by rw [← hq, hl4]; omega
  have hq0I : (0 : Int) < (q : Int) := by omega
  clear hw1 hX hs hps hq
  go_enter Tryz.func13, Tryz.ntmps13
  go_upto_region 2 with fail
  rw [show (w.alloc (.cells #[.int .i64 0, .int .i64 0, .int .i64 0, .int .i64 0, .int .i64 0, .slice none 0 0] 26)).alloc (.cells #[.int .i64 0, .int .i64 0, .int .i64 0, .int .i64 0, .int .i64 0, .slice none 0 0] 26) = w1 from HW1.out]
  go_wp2_with fail
  refine CC.out.mono ?_
  rintro e w2 ⟨g, cp, rfl, hg1, hg2, hc, hb⟩
  obtain ⟨w3, hw3⟩ : ∃ W, w2.alloc (.cells #[.int .i64 0, .int .i64 0, .int .i64 0, .int .i64 0, .int .i64 0, .slice none 0 0] 26) = W := ⟨_, rfl⟩
  have B23 : Below w2.heap.size w2 w3 := by rw [← hw3]; exact (Below.refl _ _).alloc (Nat.le_refl _) _
  have B2 := HB1.out.trans (hb.mono HB1.out.size)
  have HB3 : Hid (Below w.heap.size w w3) := B2.trans (B23.mono B2.size)
  have K3 : Hid (Bk w3 w.heap.size 26 #[.int .i64 0, .int .i64 0, .int .i64 0, .int .i64 0, .int .i64 0, .slice none 0 0]) := (K1.out.later hb).later B23
  have N3 : Hid (Bk w3 (w.heap.size + 1) 26 #[.int .i64 0, .int .i64 0, .int .i64 0, .int .i64 0, .int .i64 0, .slice none 0 0]) := (N1.out.later hb).later B23
  have R3 : Hid (Bk w3 w2.heap.size 26 #[.int .i64 0, .int .i64 0, .int .i64 0, .int .i64 0, .int .i64 0, .slice none 0 0]) := by show Bk _ _ _ _; rw [← hw3]; exact Bk.new _ _ _
  have HWD2 : WordsAt w2 g ws := ⟨hg2, hc⟩
  have HWD : Hid (WordsAt w3 g ws) := HWD2.later B23
  have HW3 := Lib.hid hw3
  have hgl : w.heap.size + 1 < g := Nat.lt_of_lt_of_le N1.out.lt hg1
  clear hg1 hc hb B23 B2 HWD2 hw3 CC
  go_upto_region 6 with fail
  rw [show w2.alloc (.cells #[.int .i64 0, .int .i64 0, .int .i64 0, .int .i64 0, .int .i64 0, .slice none 0 0] 26) = w3 from HW3.out]
  have k0 : w3.cell? ⟨g, 0, none⟩ = some (.string X) := by rw [HWD.out.2 0 kw hkw, ← HX.out]; rfl
  have eq1 : (X.toList == [114, 97, 116, 105, 111]) = true := by rw [Lib.toList_data, HXL.out]; exact beq_iff_eq.2 h1
  obtain rfl : q = 4 := by rw [← HQ.out]; exact hl4
  obtain ⟨w4, hw4⟩ : ∃ W, w3.alloc (.cells #[.int .i64 0, .int .i64 0, .int .i64 0, .int .i64 0] 78) = W := ⟨_, rfl⟩
  have B34 : Below w3.heap.size w3 w4 := by rw [← hw4]; exact (Below.refl _ _).alloc (Nat.le_refl _) _
  have HB4 : Hid (Below w.heap.size w w4) := HB3.out.trans (B34.mono HB3.out.size)
  have K4 : Hid (Bk w4 w.heap.size 26 #[.int .i64 0, .int .i64 0, .int .i64 0, .int .i64 0, .int .i64 0, .slice none 0 0]) := K3.out.later B34
  have N4 : Hid (Bk w4 (w.heap.size + 1) 26 #[.int .i64 0, .int .i64 0, .int .i64 0, .int .i64 0, .int .i64 0, .slice none 0 0]) := N3.out.later B34
  have R4 : Hid (Bk w4 w2.heap.size 26 #[.int .i64 0, .int .i64 0, .int .i64 0, .int .i64 0, .int .i64 0, .slice none 0 0]) := R3.out.later B34
  have HWD4 : Hid (WordsAt w4 g ws) := HWD.out.later B34
  have A4 : Hid (Bk w4 w3.heap.size 78 #[.int .i64 0, .int .i64 0, .int .i64 0, .int .i64 0]) := by show Bk _ _ _ _; rw [← hw4]; exact Bk.new _ _ _
  have HW4 := Lib.hid hw4
  have hl23 : w2.heap.size < w3.heap.size := R3.out.lt
  have hg3 : g < w3.heap.size := HWD.out.1
  obtain ⟨gn, hgn⟩ : ∃ n, w3.heap.size = n := ⟨_, rfl⟩
  have HGN := Lib.hid hgn
  rw [hgn] at A4 hl23 hg3
  clear h1 B34 hw4
  go_upto_region 8 with fail
  rw [show w3.alloc (.cells #[.int .i64 0, .int .i64 0, .int .i64 0, .int .i64 0] 78) = w4 from HW4.out]
  try rw [show w3.heap.size = gn from HGN.out]
  go_wp2
  clear k0 hgn
  go_loopw [8, 9, 10] (fun i _ _ wr => ∃ (j : Nat) (cs : Array Value), Hid (1 ≤ j) ∧ j ≤ 4 ∧ i = .int .i64 (j : Int) ∧ Hid (ArrIn ws j cs) ∧ Hid (Bk wr gn 78 cs) ∧ Hid (Bk wr w.heap.size 26 #[.int .i64 0, .int .i64 0, .int .i64 0, .int .i64 0, .int .i64 0, .slice none 0 0]) ∧ Hid (Bk wr (w.heap.size + 1) 26 #[.int .i64 0, .int .i64 0, .int .i64 0, .int .i64 0, .int .i64 0, .slice none 0 0]) ∧ Hid (Bk wr w2.heap.size 26 #[.int .i64 0, .int .i64 0, .int .i64 0, .int .i64 0, .int .i64 0, .slice none 0 0]) ∧ Hid (WordsAt wr g ws) ∧ Hid (Below w.heap.size w wr)) (fun i _ _ _ => 4 - (intOf i).toNat)
  case atStart => exact ⟨1, _, Nat.le_refl _, by omega, rfl, ⟨rfl, fun i p h1 h2 => by omega⟩, A4, K4, N4, R4, HWD4, HB4⟩
  case round =>
    clear A4 K4 N4 R4 HWD4 HB4
    obtain ⟨j, cs, HJ, hj, rfl, HA, A5, K5, N5, R5, HWD5, HB5⟩ := hrel
    by_cases hlt : j < 4
    · obtain ⟨p, hp⟩ : ∃ p, ws[j]? = some p := ⟨_, List.getElem?_eq_getElem (by omega)⟩
      obtain ⟨P, hP⟩ : ∃ P : ByteArray, (⟨p.toArray⟩ : ByteArray) = P := ⟨_, rfl⟩
      have hcj : wr.cell? ⟨g, j, none⟩ = some (.string P) := by rw [HWD5.out.2 j p hp, ← hP]; rfl
      have hPz : P.size ≤ 60000 := by rw [← hP, bytes_size]; exact HML.out p (List.mem_of_getElem? hp)
      have C1 := CN.out P hPz wr
      obtain ⟨o, ho⟩ : ∃ o, numU p 4 = o := ⟨_, rfl⟩
      rw [show P.data.toList = p by rw [← hP], ho] at C1
      have C2 := Lib.hid C1
      have HO := Lib.hid ho
      have HP := Lib.hid hp
      have hltI : (j : Int) < 4 := by omega
      clear C1 ho hp hP hPz
      go_wp2_with fail
      refine C2.out.mono ?_
      rintro e w6 ⟨⟨v, rfl, hv⟩, hb⟩
      have HB6 : Hid (Below w.heap.size w w6) := HB5.out.trans (hb.mono HB5.out.size)
      have A6 : Hid (Bk w6 gn 78 cs) := A5.out.later hb
      have K6 : Hid (Bk w6 w.heap.size 26 #[.int .i64 0, .int .i64 0, .int .i64 0, .int .i64 0, .int .i64 0, .slice none 0 0]) := K5.out.later hb
      have N6 : Hid (Bk w6 (w.heap.size + 1) 26 #[.int .i64 0, .int .i64 0, .int .i64 0, .int .i64 0, .int .i64 0, .slice none 0 0]) := N5.out.later hb
      have R6 : Hid (Bk w6 w2.heap.size 26 #[.int .i64 0, .int .i64 0, .int .i64 0, .int .i64 0, .int .i64 0, .slice none 0 0]) := R5.out.later hb
      have HWD6 : Hid (WordsAt w6 g ws) := HWD5.out.later hb
      have Hv := Lib.hid hv
      clear hb hv C2 hcj A5 K5 N5 R5 HWD5 HB5
      cases o with
      | none =>
        have HR : Hid (RR = (rul0, 7)) := HBADX.out j p HJ.out HP.out HO.out
        obtain ⟨⟨e0, e1, e2, e3, e4, e5⟩, h0, h1, h2, h3, h4, h5⟩ := bk6' K6.out
        obtain ⟨⟨n0, n1, n2, n3, n4, n5⟩, _⟩ := bk6' N6.out
        go_wp2
        refine bodyPost_ret (v := .tuple #[.agg #[.int .i64 0, .int .i64 0, .int .i64 0, .int .i64 0, .int .i64 0, .slice none 0 0], .int .i64 7]) (by simp [results, Tryz.results13, go_sem, e0, e1, e2, e3, e4, e5, h0, h1, h2, h3, h4, h5]) rfl ?_
        exact rulNil (below6 HB6.out (Nat.le_refl _) _ _ _ _ _ _) HR.out
      | some x =>
        have g1 : v = x := Hv.out rfl
        subst g1
        have hcs : cs[j]? = some (cs[j]'(by rw [HA.out.1]; exact hlt)) := Array.getElem?_eq_getElem _
        have a0 : w6.cell? ⟨gn, j, none⟩ = some (cs[j]'(by rw [HA.out.1]; exact hlt)) := by rw [A6.out.cell]; exact hcs
        have b0 : w6.frozen? ⟨gn, j, none⟩ = false := A6.out.frozen j
        have HA7 := Lib.hid (HA.out.step hlt HP.out HO.out)
        have A7 : Hid (Bk (w6.setCell ⟨gn, j, none⟩ (.int .i64 v)) gn 78 (cs.setIfInBounds j (.int .i64 v))) := A6.out.set_ j _
        have K7 : Hid (Bk (w6.setCell ⟨gn, j, none⟩ (.int .i64 v)) w.heap.size 26 #[.int .i64 0, .int .i64 0, .int .i64 0, .int .i64 0, .int .i64 0, .slice none 0 0]) := K6.out.far _ (by show w.heap.size ≠ gn; omega) _
        have N7 : Hid (Bk (w6.setCell ⟨gn, j, none⟩ (.int .i64 v)) (w.heap.size + 1) 26 #[.int .i64 0, .int .i64 0, .int .i64 0, .int .i64 0, .int .i64 0, .slice none 0 0]) := N6.out.far _ (by show w.heap.size + 1 ≠ gn; omega) _
        have R7 : Hid (Bk (w6.setCell ⟨gn, j, none⟩ (.int .i64 v)) w2.heap.size 26 #[.int .i64 0, .int .i64 0, .int .i64 0, .int .i64 0, .int .i64 0, .slice none 0 0]) := R6.out.far _ (by show w2.heap.size ≠ gn; omega) _
        have HWD7 : Hid (WordsAt (w6.setCell ⟨gn, j, none⟩ (.int .i64 v)) g ws) := HWD6.out.far _ _ (by show g ≠ gn; omega)
        have HB7 : Hid (Below w.heap.size w (w6.setCell ⟨gn, j, none⟩ (.int .i64 v))) := HB6.out.setCell (by show w.heap.size ≤ gn; omega) _
        clear hcs
        go_wp2
        go_roundw
        case rel => exact ⟨j + 1, _, by show 1 ≤ j + 1; omega, by omega, by go_num, HA7.out, A7.out, K7.out, N7.out, R7.out, HWD7.out, HB7.out⟩
        case measure => simp [intOf]; omega
    ·
      obtain rfl : j = 4 := by omega
      obtain ⟨u1, hu1, c1⟩ := HA.out.2 1 a (by omega) (by omega) (by rw [← HWSS.out]; rfl)
      obtain ⟨u2, hu2, c2⟩ := HA.out.2 2 b (by omega) (by omega) (by rw [← HWSS.out]; rfl)
      obtain ⟨u3, hu3, c3⟩ := HA.out.2 3 c (by omega) (by omega) (by rw [← HWSS.out]; rfl)
      have a1 : wr.cell? ⟨gn, 1, none⟩ = some (.int .i64 u1) := by rw [A5.out.cell]; exact c1
      have a2 : wr.cell? ⟨gn, 2, none⟩ = some (.int .i64 u2) := by rw [A5.out.cell]; exact c2
      have a3 : wr.cell? ⟨gn, 3, none⟩ = some (.int .i64 u3) := by rw [A5.out.cell]; exact c3
      obtain ⟨C, hC⟩ : ∃ C, rulC 0 u1 u2 u3 0 0 [] = C := ⟨_, rfl⟩
      have HF : Hid (RR = if C = 0 then (⟨0, u1, u2, u3, 0, []⟩, 0) else (rul0, C)) := by
        show _ = _
        rw [← HRR.out]
        unfold ratioFin
        rw [hu1, hu2, hu3]
        exact rulFin_good ⟨0, u1, u2, u3, 0, []⟩ C hC
      obtain ⟨w8, hw8⟩ : ∃ W, ((((((wr.setCell ⟨w2.heap.size, 0, none⟩ (.int .i64 0)).setCell ⟨w2.heap.size, 1, none⟩ (.int .i64 u1)).setCell ⟨w2.heap.size, 2, none⟩ (.int .i64 u2)).setCell ⟨w2.heap.size, 3, none⟩ (.int .i64 u3)).setCell ⟨w2.heap.size, 4, none⟩ (.int .i64 0)).setCell ⟨w2.heap.size, 5, none⟩ (.slice none 0 0)) = W := ⟨_, rfl⟩
      have hl02 : w.heap.size ≠ w2.heap.size := by omega
      have hl12 : w.heap.size + 1 ≠ w2.heap.size := by omega
      have HB8 : Hid (Below w.heap.size w w8) := by show Below _ _ _; rw [← hw8]; exact below6 HB5.out (by omega) _ _ _ _ _ _
      have K8 : Hid (Bk w8 w.heap.size 26 #[.int .i64 0, .int .i64 0, .int .i64 0, .int .i64 0, .int .i64 0, .slice none 0 0]) := by show Bk _ _ _ _; rw [← hw8]; exact bkfar6 K5.out hl02 _ _ _ _ _ _
      have N8 : Hid (Bk w8 (w.heap.size + 1) 26 #[.int .i64 0, .int .i64 0, .int .i64 0, .int .i64 0, .int .i64 0, .slice none 0 0]) := by show Bk _ _ _ _; rw [← hw8]; exact bkfar6 N5.out hl12 _ _ _ _ _ _
      have R8 : Hid (Bk w8 w2.heap.size 26 #[.int .i64 0, .int .i64 u1, .int .i64 u2, .int .i64 u3, .int .i64 0, .slice none 0 0]) := by show Bk _ _ _ _; rw [← hw8]; exact (((((R5.out.set_ 0 _).set_ 1 _).set_ 2 _).set_ 3 _).set_ 4 _).set_ 5 _
      have CE := Lib.hid (refRulesErr_any 0 u1 u2 u3 0 none 0 0 [] w8 ⟨rfl, fun h => absurd h (by omega)⟩ (by omega))
      rw [hC] at CE
      have HW8 := Lib.hid hw8
      obtain ⟨⟨r0, r1, r2, r3, r4, r5⟩, f0, f1, f2, f3, f4, f5⟩ := bk6' R5.out
      clear hw8 hC c1 c2 c3 hu1 hu2 hu3
      go_upto_region 31 with fail
      rw [show ((((((wr.setCell ⟨w2.heap.size, 0, none⟩ (.int .i64 0)).setCell ⟨w2.heap.size, 1, none⟩ (.int .i64 u1)).setCell ⟨w2.heap.size, 2, none⟩ (.int .i64 u2)).setCell ⟨w2.heap.size, 3, none⟩ (.int .i64 u3)).setCell ⟨w2.heap.size, 4, none⟩ (.int .i64 0)).setCell ⟨w2.heap.size, 5, none⟩ (.slice none 0 0)) = w8 from HW8.out]
      clear r0 r1 r2 r3 r4 r5 f0 f1 f2 f3 f4 f5 a1 a2 a3
      obtain ⟨⟨r0, r1, r2, r3, r4, r5⟩, f0, f1, f2, f3, f4, f5⟩ := bk6' R8.out
      go_wp2_with fail
      refine CE.out.mono ?_
      rintro e w9 ⟨rfl, hb⟩
      have HB9 : Hid (Below w.heap.size w w9) := HB8.out.trans (hb.mono HB8.out.size)
      have K9 : Hid (Bk w9 w.heap.size 26 #[.int .i64 0, .int .i64 0, .int .i64 0, .int .i64 0, .int .i64 0, .slice none 0 0]) := K8.out.later hb
      have N9 : Hid (Bk w9 (w.heap.size + 1) 26 #[.int .i64 0, .int .i64 0, .int .i64 0, .int .i64 0, .int .i64 0, .slice none 0 0]) := N8.out.later hb
      have R9 : Hid (Bk w9 w2.heap.size 26 #[.int .i64 0, .int .i64 u1, .int .i64 u2, .int .i64 u3, .int .i64 0, .slice none 0 0]) := R8.out.later hb
      clear hb CE r0 r1 r2 r3 r4 r5 f0 f1 f2 f3 f4 f5
      by_cases hC0 : C = 0
      · have HF2 : Hid (RR = (⟨0, u1, u2, u3, 0, []⟩, 0)) := HF.out.trans (if_pos hC0)
        subst hC0
        obtain ⟨⟨r0, r1, r2, r3, r4, r5⟩, _⟩ := bk6' R9.out
        obtain ⟨⟨e0, e1, e2, e3, e4, e5⟩, h0, h1, h2, h3, h4, h5⟩ := bk6' K9.out
        go_wp2
        refine bodyPost_ret (v := .tuple #[.agg #[.int .i64 0, .int .i64 u1, .int .i64 u2, .int .i64 u3, .int .i64 0, .slice none 0 0], .int .i64 0]) (by simp [results, Tryz.results13, go_sem, e0, e1, e2, e3, e4, e5, h0, h1, h2, h3, h4, h5]) rfl ?_
        exact rulNil (below6 HB9.out (Nat.le_refl _) _ _ _ _ _ _) HF2.out
      · have HF2 : Hid (RR = (rul0, C)) := HF.out.trans (if_neg hC0)
        have hne : (C != 0) = true := by simpa using hC0
        clear hC0
        obtain ⟨⟨e0, e1, e2, e3, e4, e5⟩, h0, h1, h2, h3, h4, h5⟩ := bk6' K9.out
        obtain ⟨⟨n0, n1, n2, n3, n4, n5⟩, _⟩ := bk6' N9.out
        go_wp2
        refine bodyPost_ret (v := .tuple #[.agg #[.int .i64 0, .int .i64 0, .int .i64 0, .int .i64 0, .int .i64 0, .slice none 0 0], .int .i64 C]) (by simp [results, Tryz.results13, go_sem, e0, e1, e2, e3, e4, e5, h0, h1, h2, h3, h4, h5]) rfl ?_
        exact rulNil (below6 HB9.out (Nat.le_refl _) _ _ _ _ _ _) HF2.out
end Go.Proofs.YtjjflbnopphciacGreatDoor

namespace Go.Proofs.YtjjflbnopphciacGreatDoor
open Go.RowKit

/-- The reference's ParseRules answers what the code's does. -/
theorem refParseRules_any (s : ByteArray) (w : World) :
    Calls Tryz.prog 13 #[.string s] w (RulRes w (rulesS s)) := by
  by_cases hbig : 60000 < s.size
  · rw [show rulesS s = (rul0, 8) from if_pos hbig]
    exact refPR_big s w hbig
  · have hs : s.size ≤ 60000 := by omega
    rw [show rulesS s = rulFin (rulesW s.data.toList) from if_neg hbig]
    unfold rulesW
    cases hp : pcs 32 s.data.toList with
    | nil => exact absurd hp (pcs_ne _ _)
    | cons kw ps =>
      have h7 : rulFin (rul0, 7) = (rul0, 7) := rulFin_err 7 (by omega)
      by_cases hR : kw = ratioL
      · rw [show rulesP (kw :: ps) = ratioW ps from if_pos hR]
        rcases p3_cases ps with ⟨a, b, c, m, rfl⟩ | hl
        · cases m with
          | nil =>
            have e : Lib.join [c] [32] = c := by simp [Lib.join_cons, Lib.joinTail]
            have := refPR_ratio s w hs kw a b c _ hp rfl hR
            unfold ratioFin at this
            show Calls _ _ _ _ (RulRes w (rulFin (ratioV true (numU a 4) (numU b 4) (numU (Lib.join [c] [32]) 4))))
            rw [e]
            exact this
          | cons d m =>
            have hmem : (32 : UInt8) ∈ Lib.join (c :: d :: m) [32] := by simp [Lib.join_cons, Lib.joinTail]
            have hn : numU (Lib.join (c :: d :: m) [32]) 4 = none := numU_has hmem (by decide)
            have e : rulFin (ratioW (a :: b :: c :: d :: m)) = (rul0, 7) := by
              show rulFin (ratioV true (numU a 4) (numU b 4) (numU (Lib.join (c :: d :: m) [32]) 4)) = _
              rw [hn]
              cases numU a 4 <;> cases numU b 4 <;> exact h7
            rw [e]
            exact refPR_ratioN s w hs kw _ _ hp rfl hR (by simp)
        · rw [ratioW_small hl, h7]
          exact refPR_ratioN s w hs kw _ _ hp rfl hR (by simp only [List.length_cons]; omega)
      · by_cases hM : kw = mapL
        · rw [show rulesP (kw :: ps) = mapW ps from (if_neg hR).trans (if_pos hM)]
          rcases p3_cases ps with ⟨a, b, c, m, rfl⟩ | hl
          · exact refPR_map s w hs kw a b c m _ hp rfl hM
          · rw [mapW_small hl, h7]
            exact refPR_mapN s w hs kw _ _ hp rfl hM (by simp only [List.length_cons]; omega)
        · rw [show rulesP (kw :: ps) = (rul0, 7) from (if_neg hR).trans (if_neg hM), h7]
          exact refPR_none s w hs kw ps _ hp rfl hR hM
end Go.Proofs.YtjjflbnopphciacGreatDoor

namespace Go.Proofs.YtjjflbnopphciacGreatDoor
open Go.RowKit

theorem itoa64 (n : Int) : ∀ b ∈ Lib.itoa n, b ≠ 64 := by
  intro b hb
  have := itoa_all n b hb
  rintro rfl; revert this; decide
theorem nodeT_all (p : Int × Int) : ∀ b ∈ nodeT p, b ≠ 32 := by
  intro b hb
  rcases List.mem_append.1 hb with h | h
  · exact itoaG_all _ b h
  · rcases List.mem_cons.1 h with rfl | h
    · decide
    · exact itoaG_all _ b h
theorem pcs_whole (c : UInt8) (l : List UInt8) (h : ∀ b ∈ l, b ≠ c) : pcs c l = [l] :=
  pcs_miss c l fun q e => h c (List.mem_of_getElem? e) rfl
theorem nodeO_T (p : Int × Int) (h1 : 0 ≤ p.1 ∧ p.1 < (10 ^ 7 : Nat)) (h2 : 0 ≤ p.2 ∧ p.2 < (10 ^ 13 : Nat)) : nodeO (nodeT p) = some p := by
  unfold nodeO nodeT
  rw [pcs_app 64 _ _ (itoa64 _), pcs_whole 64 _ (itoa64 _)]
  show pairO (numU (Lib.itoa p.1) 7) (numU (Lib.itoa p.2) 13) = _
  rw [numU_itoa 7 (by omega) p.1 h1, numU_itoa 13 (by omega) p.2 h2]
  rfl
theorem allO_map (ns : List (Int × Int)) (h : ∀ p ∈ ns, (0 ≤ p.1 ∧ p.1 < (10 ^ 7 : Nat)) ∧ 0 ≤ p.2 ∧ p.2 < (10 ^ 13 : Nat)) : allO nodeO (ns.map nodeT) = some ns := by
  induction ns with
  | nil => rfl
  | cons p t ih =>
    rw [List.map_cons, allO, nodeO_T p (h p (by simp)).1 (h p (by simp)).2, ih fun x hx => h x (by simp [hx])]
    rfl
theorem pcs_joinN (ns : List (Int × Int)) (h : ns ≠ []) : pcs 32 (joinN ns) = ns.map nodeT := by
  refine pcs_join 32 _ (by simpa using h) ?_
  intro x hx b hb
  obtain ⟨y, _, rfl⟩ := List.mem_map.1 hx
  exact nodeT_all y b hb
/-- A map's text is parsed to the map. -/
theorem mapS_T (ns : List (Int × Int)) (hne : ns ≠ []) (hn : ns.length ≤ 1000) (h : ∀ p ∈ ns, (0 ≤ p.1 ∧ p.1 < (10 ^ 7 : Nat)) ∧ 0 ≤ p.2 ∧ p.2 < (10 ^ 13 : Nat)) (hE : (mapR ns).2 = 0) : mapS (mapT ns) = (ns, 0) := by
  have h64 : I64N ns := fun p hp => by have := h p hp; omega
  have hl := joinN_len ns h64
  have hz : (mapT ns).size = (joinN ns).length := bytes_size _
  unfold mapS
  rw [if_neg (by rw [hz]; omega)]
  show mapQ (allO nodeO (pcs 32 (joinN ns))) = _
  rw [pcs_joinN ns hne, allO_map ns h, mapQ_ok hE]
end Go.Proofs.YtjjflbnopphciacGreatDoor

namespace Go.Proofs.YtjjflbnopphciacGreatDoor
open Go.RowKit

theorem itoa32 (n : Int) : ∀ b ∈ Lib.itoa n, b ≠ 32 := itoaG_all n
theorem rulesW_ratio (d nu q s : Int) (ns : List (Int × Int)) (h1 : 0 ≤ d ∧ d < (10 ^ 4 : Nat)) (h2 : 0 ≤ nu ∧ nu < (10 ^ 4 : Nat)) (h3 : 0 ≤ q ∧ q < (10 ^ 4 : Nat)) :
    rulesW (rulesT 0 d nu q s ns).data.toList = (⟨0, d, nu, q, 0, []⟩, 0) := by
  have e : (rulesT 0 d nu q s ns).data.toList = ratioL ++ 32 :: joinP [d, nu, q] := by
    rw [rulesT0]
    simp [ratioL]
  unfold rulesW
  rw [e, pcs_app 32 ratioL _ (by decide), pcs_joinG _ (by simp)]
  show ratioV true (numU (Lib.itoa d) 4) (numU (Lib.itoa nu) 4) (numU (Lib.join [Lib.itoa q] [32]) 4) = _
  rw [show Lib.join [Lib.itoa q] [32] = Lib.itoa q by simp [Lib.join_cons, Lib.joinTail], numU_itoa 4 (by omega) d h1, numU_itoa 4 (by omega) nu h2, numU_itoa 4 (by omega) q h3]
  rfl
theorem rulesW_map (d nu q s : Int) (ns : List (Int × Int)) (h1 : 0 ≤ d ∧ d < (10 ^ 4 : Nat)) (h2 : 0 ≤ s ∧ s < (10 ^ 13 : Nat)) (hne : ns ≠ []) (hS : mapS (mapT ns) = (ns, 0)) :
    rulesW (rulesT 1 d nu q s ns).data.toList = (⟨1, d, 0, 0, s, ns⟩, 0) := by
  have e : (rulesT 1 d nu q s ns).data.toList = mapL ++ 32 :: (Lib.itoa d ++ 32 :: (Lib.itoa s ++ 32 :: joinN ns)) := by
    rw [rulesT1]
    simp [mapL, joinP, Lib.join_cons, Lib.joinTail]
  unfold rulesW
  rw [e, pcs_app 32 mapL _ (by decide), pcs_app 32 _ _ (itoa32 d), pcs_app 32 _ _ (itoa32 s), pcs_joinN ns hne]
  cases ns with
  | nil => exact absurd rfl hne
  | cons p t =>
    show mapV (mapS ⟨(Lib.join (nodeT p :: t.map nodeT) [32]).toArray⟩) true (numU (Lib.itoa d) 4) (numU (Lib.itoa s) 13) = _
    rw [show (⟨(Lib.join (nodeT p :: t.map nodeT) [32]).toArray⟩ : ByteArray) = mapT (p :: t) from rfl, hS, numU_itoa 4 (by omega) d h1, numU_itoa 13 (by omega) s h2]
    rfl
end Go.Proofs.YtjjflbnopphciacGreatDoor

namespace Go.Proofs.YtjjflbnopphciacGreatDoor
open Go.RowKit

theorem fNZ2 {a b : Int} (h : firstNZ [a, b] = 0) : a = 0 ∧ b = 0 := by
  simp only [firstNZ] at h
  by_cases ha : a = 0
  · by_cases hb : b = 0
    · exact ⟨ha, hb⟩
    · rw [if_pos ha, if_neg hb] at h; exact absurd h hb
  · rw [if_neg ha] at h; exact absurd h ha
theorem rngE_in {lo hi : Int} {xs : List Int} (h : rngE lo hi xs = 0) : ∀ x ∈ xs, lo ≤ x ∧ x ≤ hi := by
  unfold rngE at h
  by_cases hb : fromB lo hi xs = true
  · exact fromB_all hb
  · rw [if_neg hb] at h; omega
theorem degE_in {d : Int} (h : degE d = 0) : 0 ≤ d ∧ d < (10 ^ 4 : Nat) := by
  unfold degE at h
  by_cases hd : d = 1 ∨ d = 3
  · rcases hd with rfl | rfl <;> exact ⟨by omega, by decide⟩
  · rw [if_neg hd] at h; omega
/-- Rules of a ratio are parsed again. -/
theorem rules_again0 (d nu q s : Int) (ns : List (Int × Int)) (h : rulC 0 d nu q s ns.length ns = 0) : rulesS (rulesT 0 d nu q s ns) = (⟨0, d, nu, q, s, ns⟩, 0) := by
  have hC := h
  unfold rulC at h
  rw [if_neg (by omega)] at h
  by_cases hd : degE d = 0
  · rw [if_pos hd, if_pos rfl] at h
    obtain ⟨h1, h2⟩ := fNZ2 h
    have hr := rngE_in h1
    have hn := hr nu (by simp)
    have hq := hr q (by simp)
    by_cases hz : s ≠ 0 ∨ 0 < ns.length
    · rw [if_pos hz] at h2; omega
    · obtain rfl : s = 0 := by omega
      obtain rfl : ns = [] := List.eq_nil_of_length_eq_zero (by omega)
      have hd2 := degE_in hd
      have hsz : (rulesT 0 d nu q 0 []).size ≤ 60000 := by
        have hz1 : (⟨(joinP [d, nu, q]).toArray⟩ : ByteArray).size = (joinP [d, nu, q]).length := bytes_size _
        rw [rulesT0, ByteArray.size_append, hz1]
        have := joinP_len [d, nu, q] (fun x hx => by
          simp only [List.mem_cons, List.not_mem_nil, or_false] at hx
          rcases hx with rfl | rfl | rfl <;> omega)
        simp only [List.length_cons, List.length_nil] at this
        show 6 + _ ≤ _
        omega
      unfold rulesS
      rw [if_neg (by omega), rulesW_ratio d nu q 0 [] hd2 (by omega) (by omega)]
      exact (rulFin_good ⟨0, d, nu, q, 0, []⟩ 0 hC).trans (if_pos rfl)
  · rw [if_neg hd] at h; exact absurd h hd
end Go.Proofs.YtjjflbnopphciacGreatDoor

namespace Go.Proofs.YtjjflbnopphciacGreatDoor
open Go.RowKit

theorem nodes_in {ns : List (Int × Int)} (h : nodesOk ns) (h2 : 2 ≤ ns.length) : ∀ p ∈ ns, (0 ≤ p.1 ∧ p.1 < (10 ^ 7 : Nat)) ∧ 0 ≤ p.2 ∧ p.2 < (10 ^ 13 : Nat) := by
  intro p hp
  obtain ⟨i, hi, rfl⟩ := List.getElem_of_mem hp
  have e : ns[i] = ns.getD i (0, 0) := by rw [List.getD_eq_getElem?_getD, List.getElem?_eq_getElem hi]; rfl
  rw [e]
  have p7 : ((10 ^ 7 : Nat) : Int) = 10000000 := by decide
  have p13 : ((10 ^ 13 : Nat) : Int) = 10000000000000 := by decide
  rw [p7, p13]
  by_cases hi2 : i + 1 < ns.length
  · have := h i hi2
    omega
  · have := h (i - 1) (by omega)
    rw [show i - 1 + 1 = i by omega] at this
    omega
end Go.Proofs.YtjjflbnopphciacGreatDoor

namespace Go.Proofs.YtjjflbnopphciacGreatDoor
open Go.RowKit

theorem fNZ3 {a b c : Int} (h : firstNZ [a, b, c] = 0) : a = 0 ∧ b = 0 ∧ c = 0 := by
  by_cases ha : a = 0
  · subst ha
    have h2 : firstNZ [b, c] = 0 := by simpa [firstNZ] using h
    exact ⟨rfl, fNZ2 h2⟩
  · simp only [firstNZ] at h
    rw [if_neg ha] at h
    exact absurd h ha
/-- Rules of a map are parsed again. -/
theorem rules_again1 (d nu q s : Int) (ns : List (Int × Int)) (h : rulC 1 d nu q s ns.length ns = 0) : rulesS (rulesT 1 d nu q s ns) = (⟨1, d, nu, q, s, ns⟩, 0) := by
  have hC := h
  unfold rulC at h
  rw [if_neg (by omega)] at h
  by_cases hd : degE d = 0
  · rw [if_pos hd, if_neg (by omega)] at h
    obtain ⟨h1, h2, h3⟩ := fNZ3 h
    obtain ⟨hok, hl2, hl20⟩ := mapR_ok h1
    have hs := rngE_in h2 s (by simp)
    by_cases hz : nu ≠ 0 ∨ q ≠ 0
    · rw [if_pos hz] at h3; omega
    · obtain rfl : nu = 0 := by omega
      obtain rfl : q = 0 := by omega
      have hd2 := degE_in hd
      have hin := nodes_in hok hl2
      have hne : ns ≠ [] := by rintro rfl; simp at hl2
      have hm := mapS_T ns hne (by omega) hin h1
      have h64 : I64N ns := fun p hp => by have := hin p hp; omega
      have p13 : ((10 ^ 13 : Nat) : Int) = 10000000000000 := by decide
      have hsz : (rulesT 1 d 0 0 s ns).size ≤ 60000 := by
        have hz1 : (⟨(joinP [d, s] ++ 32 :: joinN ns).toArray⟩ : ByteArray).size = (joinP [d, s] ++ 32 :: joinN ns).length := bytes_size _
        rw [rulesT1, ByteArray.size_append, hz1, List.length_append, List.length_cons]
        have h5 := joinP_len [d, s] (fun x hx => by
          simp only [List.mem_cons, List.not_mem_nil, or_false] at hx
          rcases hx with rfl | rfl <;> omega)
        have h6 := joinN_len ns h64
        simp only [List.length_cons, List.length_nil] at h5
        show 4 + _ ≤ _
        omega
      unfold rulesS
      rw [if_neg (by omega), rulesW_map d 0 0 s ns hd2 (by omega) hne hm]
      exact (rulFin_good ⟨1, d, 0, 0, s, ns⟩ 0 hC).trans (if_pos rfl)
  · rw [if_neg hd] at h; exact absurd h hd
theorem rules_again (k d nu q s : Int) (ns : List (Int × Int)) (h : rulC k d nu q s ns.length ns = 0) : rulesS (rulesT k d nu q s ns) = (⟨k, d, nu, q, s, ns⟩, 0) := by
  by_cases h0 : k = 0
  · subst h0; exact rules_again0 d nu q s ns h
  · by_cases h1 : k = 1
    · subst h1; exact rules_again1 d nu q s ns h
    · exfalso
      unfold rulC at h
      rw [if_pos (by omega)] at h
      omega
end Go.Proofs.YtjjflbnopphciacGreatDoor

namespace Go.Proofs.YtjjflbnopphciacGreatDoor
open Go.RowKit

theorem fNZ4 {a b c d : Int} (h : firstNZ [a, b, c, d] = 0) : a = 0 ∧ b = 0 ∧ c = 0 ∧ d = 0 := by
  by_cases ha : a = 0
  · subst ha
    have h2 : firstNZ [b, c, d] = 0 := by simpa [firstNZ] using h
    exact ⟨rfl, fNZ3 h2⟩
  · simp only [firstNZ] at h
    rw [if_neg ha] at h
    exact absurd h ha
theorem fltT_list (cs : List Int) (b : Int) : (fltT cs b).data.toList = joinP (b :: cs) := rfl
/-- What a valid filter's numbers are. -/
theorem fltE_in {cs : List Int} {b : Int} (h : fltE cs b = 0) : cs.length ≤ 8 ∧ (∀ x ∈ cs, -1000 ≤ x ∧ x ≤ 1000) ∧ 1 ≤ b ∧ b ≤ 1000 := by
  unfold fltE at h
  obtain ⟨_, h2, h3, h4⟩ := fNZ4 h
  refine ⟨?_, rngE_in h3, rngE_in h4 b (by simp)⟩
  by_cases e : 8 < cs.length
  · rw [if_pos e] at h2; omega
  · omega
/-- A filter is parsed again. -/
theorem filter_again (cs : List Int) (b : Int) (h : fltE cs b = 0) : fltS (fltT cs b) = ((cs, b), 0) := by
  obtain ⟨_, h1, h2⟩ := fltE_in h
  have p4 : ((10 ^ 4 : Nat) : Int) = 10000 := by decide
  unfold fltS
  rw [fltT_list, pcs_joinG (b :: cs) (by simp), List.map_cons, fltO_some (numU_itoa 4 (by omega) b (by omega)), numsD_itoa 4 (by omega) cs fun x hx => by have := h1 x hx; omega]
  show fltR (some (cs, b)) = _
  unfold fltR
  exact if_pos h
theorem fltT_size {cs : List Int} {b : Int} (h : I64 (b :: cs)) : (fltT cs b).size ≤ 21 * (cs.length + 1) := by
  have h1 := joinP_len (b :: cs) h
  have h2 : (fltT cs b).size = (joinP (b :: cs)).length := bytes_size _
  rw [List.length_cons] at h1
  omega
theorem rulesT_size {k d nu q s : Int} {ns : List (Int × Int)} (h1 : I64 [d, nu, q]) (h2 : I64 [d, s]) (h3 : I64N ns) : (rulesT k d nu q s ns).size ≤ 200 + 42 * ns.length := by
  unfold rulesT
  have a1 := joinP_len _ h1
  have a2 := joinP_len _ h2
  have a3 := joinN_len _ h3
  have b1 : (⟨(joinP [d, nu, q]).toArray⟩ : ByteArray).size = (joinP [d, nu, q]).length := bytes_size _
  have b2 : (⟨(joinP [d, s] ++ 32 :: joinN ns).toArray⟩ : ByteArray).size = (joinP [d, s] ++ 32 :: joinN ns).length := bytes_size _
  rw [List.length_append, List.length_cons] at b2
  simp only [List.length_cons, List.length_nil] at a1 a2
  split
  · rw [ByteArray.size_append, b1]
    show 6 + _ ≤ _
    omega
  · split
    · rw [ByteArray.size_append, b2]
      show 4 + _ ≤ _
      omega
    · show 0 ≤ _
      omega
/-- The string of rules of any kind. -/
theorem formatRules_any (k d nu q s : Int) (A : Option Addr) (m c : Nat) (ns : List (Int × Int)) (w : World) (hl : LaidG w) (hr : RdN w A m ns) (hm : m ≤ 1000) (hx : I64N ns) (hd : I64 [d, nu, q]) (hd2 : I64 [d, s]) :
    Calls Tryz.prog 7 #[.agg #[.int .i64 k, .int .i64 d, .int .i64 nu, .int .i64 q, .int .i64 s, .slice A m c]] w fun e w' => e = .returned (.string (rulesT k d nu q s ns)) ∧ Below w.heap.size w w' := by
  by_cases h0 : k = 0
  · subst h0; exact formatRules0 d nu q s A m c ns w hl hr hm hx hd hd2
  · by_cases h1 : k = 1
    · subst h1; exact formatRules1 d nu q s A m c ns w hl hr hm hx hd hd2
    · exact formatRulesX k d nu q s A m c ns w h0 h1
theorem refFormatRules_any (k d nu q s : Int) (A : Option Addr) (m c : Nat) (ns : List (Int × Int)) (w : World) (hr : RdP w A m ns) (hm : m ≤ 1000) (hx : I64N ns) (hd : I64 [d, nu, q]) (hd2 : I64 [d, s]) :
    Calls Tryz.prog 15 #[.agg #[.int .i64 k, .int .i64 d, .int .i64 nu, .int .i64 q, .int .i64 s, .slice A m c]] w fun e w' => e = .returned (.string (rulesT k d nu q s ns)) ∧ Below w.heap.size w w' := by
  by_cases h0 : k = 0
  · subst h0; exact refFormatRules0 d nu q s A m c ns w hr hm hx hd hd2
  · by_cases h1 : k = 1
    · subst h1; exact refFormatRules1 d nu q s A m c ns w hr hm hx hd hd2
    · exact refFormatRulesX k d nu q s A m c ns w h0 h1
end Go.Proofs.YtjjflbnopphciacGreatDoor

namespace Go.Proofs.YtjjflbnopphciacGreatDoor.op
open Go.ChangeShapes Go.WideShapes Go.ChangeAt Go.RowKit

section
variable {H : Type} {enc : TypeId × Value → H} {w : World} {base : Nat} {spare : Nat → Bool} {held : Bool} {fuel : Nat} {cs : List Value} {x : DataW H × List MemPlace}
theorem nod_cellsb (h : DataW.trod enc Tryz.prog w base spare held fuel 99 cs = some x) : ∃ a b, cs = [.int .i64 a, .int .i64 b] ∧ (-9223372036854775808 ≤ a ∧ a ≤ 9223372036854775807) ∧ (-9223372036854775808 ≤ b ∧ b ≤ 9223372036854775807) := by
  obtain ⟨y0, y1, n, rfl, hl, h0, h1⟩ := trod_struct2 Tryz.underlying99 h
  rw [cellsNod] at hl
  dsimp only at h0 h1
  rw [cellsInt1] at h0 h1
  obtain ⟨n0, e0, _, f0⟩ := DataW.trod_int Tryz.underlying3 h0
  obtain ⟨n1, e1, _, f1⟩ := DataW.trod_int Tryz.underlying3 h1
  match cs, hl with
  | [c0, c1], _ =>
    simp at e0 e1
    have b0 := bounds_i64 f0
    have b1 := bounds_i64 f1
    exact ⟨n0, n1, by rw [e0, e1], by omega, by omega⟩
/-- Nodes of a field as they come in. -/
theorem open_nodfb {v : Value} (hf : DataW.trod enc Tryz.prog w base spare held fuel 22 [v] = some x) : ∃ A n c ps, v = .slice A n c ∧ RdP w A n ps ∧ n ≤ c ∧ c ≤ 9223372036854775807 ∧ (A = none → n = 0 ∧ c = 0) ∧ I64N ps := by
  rcases Deep.open_slice Tryz.underlying22 hf with ⟨hcs, _⟩ | ⟨a, len, cap, m, k, D, Pl, hcs, _, hl, hm, hz, _, hx⟩
  · injection hcs with hcs
    exact ⟨none, 0, 0, [], hcs, ⟨rfl, fun h => absurd h (by omega)⟩, by omega, by omega, fun _ => ⟨rfl, rfl⟩, fun p hp => by cases hp⟩
  · injection hcs with hcs
    have hlen : len ≤ m := by rw [hz]; split <;> omega
    obtain ⟨f, hf⟩ := Deep.choose_lt (α := Int × Int) (n := len) (p := fun i q => w.cell? (a.add (i * 2)) = some (.int .i64 q.1) ∧ w.cell? ((a.add (i * 2)).add 1) = some (.int .i64 q.2) ∧ (-9223372036854775808 ≤ q.1 ∧ q.1 ≤ 9223372036854775807) ∧ (-9223372036854775808 ≤ q.2 ∧ q.2 ≤ 9223372036854775807)) (fun i hi => by
      obtain ⟨cs, h1, h2⟩ := hx i (by omega)
      obtain ⟨y, z, rfl, by1, by2⟩ := nod_cellsb h2
      rw [cellsNod] at h1
      obtain ⟨_, _, h3⟩ := World.cells?_some h1
      have h4 := h3 0 (by omega)
      rw [addZ] at h4
      exact ⟨(y, z), h4, h3 1 (by omega), by1, by2⟩)
    refine ⟨some a, len, cap, (List.range len).map f, hcs, ⟨by simp, fun hn => ⟨a, rfl, ?_, fun j hj => ?_⟩⟩, hl, by unfold maxLen at hm; omega, (fun h => by cases h), fun p hp => ?_⟩
    · have := lt_of_cell (hf 0 (by omega)).1
      rwa [addBlock] at this
    · have e : ((List.range len).map f).getD j (0, 0) = f j := by simp [List.getD_eq_getElem?_getD, hj]
      rw [e]
      exact ⟨(hf j hj).1, (hf j hj).2.1⟩
    · obtain ⟨i, hi, rfl⟩ := List.mem_map.1 hp
      have hi2 := List.mem_range.1 hi
      exact ⟨(hf i hi2).2.2.1, (hf i hi2).2.2.2⟩
theorem open_mapfb {v : Value} (hf : DataW.trod enc Tryz.prog w base spare held fuel 24 [v] = some x) : ∃ A n c ps, v = .slice A n c ∧ RdP w A n ps ∧ n ≤ c ∧ c ≤ 9223372036854775807 ∧ (A = none → n = 0 ∧ c = 0) ∧ I64N ps := by
  obtain ⟨xs, n, _, _, hl, hxl, hg⟩ := DataW.trod_struct Tryz.underlying24 hf
  match xs, hxl with
  | [y0], _ =>
    have g0 := hg 0 _ rfl
    simp [cellsNods] at g0
    exact open_nodfb g0
end
set_option maxRecDepth 100000 in
/-- Rules as they come in. -/
theorem open_rulesb {H : Type} {enc : TypeId × Value → H} {w : World} {base : Nat} {spare : Nat → Bool} {held : Bool} {r : Reach} {b0 : Nat} {v : Value} {d : DataW H} {p : List MemPlace}
    (hv : Value.okWide Tryz.prog w r b0 26 v) (h : DataW.Trod enc Tryz.prog w base spare held 26 v d p) :
    ∃ (k dd n q s : Int) (A : Option Addr) (m c : Nat) (ps : List (Int × Int)), v = .agg #[.int .i64 k, .int .i64 dd, .int .i64 n, .int .i64 q, .int .i64 s, .slice A m c] ∧ RdP w A m ps ∧ m ≤ c ∧ c ≤ 9223372036854775807 ∧ (A = none → m = 0 ∧ c = 0) ∧ I64N ps ∧ I64 [dd, n, q] ∧ I64 [dd, s] := by
  obtain ⟨cs, rfl, hsz⟩ := okWide_struct Tryz.underlying26 hv
  obtain ⟨fuel, hf⟩ := h
  obtain ⟨xs, n, _, _, hl, hxl, hg⟩ := DataW.trod_struct Tryz.underlying26 hf
  have h6 : Tryz.prog.cellsOf 26 = 6 := by kernel_rfl
  obtain ⟨l⟩ := cs
  have hl6 : l.length = 6 := by rw [← h6]; simpa using hsz
  match l, hl6, xs, hxl with
  | [c0, c1, c2, c3, c4, c5], _, [y0, y1, y2, y3, y4, y5], _ =>
    have g0 := hg 0 _ rfl
    have g1 := hg 1 _ rfl
    have g2 := hg 2 _ rfl
    have g3 := hg 3 _ rfl
    have g4 := hg 4 _ rfl
    have g5 := hg 5 _ rfl
    simp [Value.cells, cellsI, cellsMap] at g0 g1 g2 g3 g4 g5
    obtain ⟨z0, e0, _, _⟩ := DataW.trod_int Tryz.underlying3 g0
    obtain ⟨z1, e1, _, f1⟩ := DataW.trod_int Tryz.underlying3 g1
    obtain ⟨z2, e2, _, f2⟩ := DataW.trod_int Tryz.underlying3 g2
    obtain ⟨z3, e3, _, f3⟩ := DataW.trod_int Tryz.underlying3 g3
    obtain ⟨z4, e4, _, f4⟩ := DataW.trod_int Tryz.underlying3 g4
    obtain ⟨A, n', c, ps, e5, hr, h3, h4, h5, h6⟩ := open_mapfb g5
    simp at e0 e1 e2 e3 e4
    have b1 := bounds_i64 f1
    have b2 := bounds_i64 f2
    have b3 := bounds_i64 f3
    have b4 := bounds_i64 f4
    exact ⟨z0, z1, z2, z3, z4, A, n', c, ps, by rw [e0, e1, e2, e3, e4, e5], hr, h3, h4, h5, h6, fun x hx => by simp at hx; omega, fun x hx => by simp at hx; omega⟩
set_option maxRecDepth 100000 in
/-- Numbers of a field, with their bounds. -/
theorem open_rdfb {H : Type} {enc : TypeId × Value → H} {w : World} {base : Nat} {spare : Nat → Bool} {held : Bool} {fuel : Nat} {v : Value} {x : DataW H × List MemPlace}
    (hf : DataW.trod enc Tryz.prog w base spare held fuel 27 [v] = some x) : ∃ A n c l, v = .slice A n c ∧ RdI w A n l ∧ n ≤ c ∧ c ≤ 9223372036854775807 ∧ (A = none → n = 0 ∧ c = 0) ∧ I64 l := by
  rcases open_ints Tryz.underlying27 Tryz.underlying3 cellsInt1 hf with ⟨hcs, _⟩ | ⟨a, len, cap, zs, hcs, _, hl, hm, hz, _, hcell, hwf⟩
  · injection hcs with hcs
    exact ⟨none, 0, 0, [], hcs, ⟨rfl, fun h => absurd h (by omega)⟩, by omega, by omega, (fun _ => ⟨rfl, rfl⟩), fun x hx => by cases hx⟩
  · injection hcs with hcs
    have hlen : len ≤ zs.length := by rw [hz]; split <;> omega
    refine ⟨some a, len, cap, zs.take len, hcs, ⟨by rw [List.length_take]; omega, fun hn => ⟨a, rfl, ?_, fun j hj => ?_⟩⟩, hl, by unfold maxLen at hm; omega, (fun h => by cases h), fun x hx => ?_⟩
    · have := lt_of_cell (hcell 0 (by omega))
      rwa [addBlock] at this
    · rw [hcell j (by omega)]
      simp [List.getD_eq_getElem?_getD, List.getElem?_take, hj]
    · have := bounds_i64 (hwf x (List.mem_of_mem_take hx))
      omega
set_option maxRecDepth 100000 in
/-- A filter as it comes in, with the bounds of its numbers. -/
theorem open_filterb {H : Type} {enc : TypeId × Value → H} {w : World} {base : Nat} {spare : Nat → Bool} {held : Bool} {r : Reach} {b0 : Nat} {v : Value} {d : DataW H} {p : List MemPlace}
    (hv : Value.okWide Tryz.prog w r b0 29 v) (h : DataW.Trod enc Tryz.prog w base spare held 29 v d p) :
    ∃ A n c b l, v = .agg #[.slice A n c, .int .i64 b] ∧ RdI w A n l ∧ n ≤ c ∧ c ≤ 9223372036854775807 ∧ (A = none → n = 0 ∧ c = 0) ∧ I64 l ∧ (-9223372036854775808 ≤ b ∧ b ≤ 9223372036854775807) := by
  obtain ⟨cs, rfl, hsz⟩ := okWide_struct Tryz.underlying29 hv
  obtain ⟨fuel, hf⟩ := h
  obtain ⟨xs, n, _, _, hl, hxl, hg⟩ := DataW.trod_struct Tryz.underlying29 hf
  have h2 : Tryz.prog.cellsOf 29 = 2 := by kernel_rfl
  obtain ⟨l⟩ := cs
  have hl2 : l.length = 2 := by rw [← h2]; simpa using hsz
  match l, hl2, xs, hxl with
  | [c0, c1], _, [y0, y1], _ =>
    have g0 := hg 0 _ rfl
    have g1 := hg 1 _ rfl
    simp [Value.cells, cellsI, cellsInts] at g0 g1
    obtain ⟨A, n', c, l, rfl, hr, h3, h4, h5, h6⟩ := open_rdfb g0
    obtain ⟨z1, e1, _, f1⟩ := DataW.trod_int Tryz.underlying3 g1
    simp at e1
    have b1 := bounds_i64 f1
    exact ⟨A, n', c, z1, l, by rw [e1], hr, h3, h4, h5, h6, by omega⟩
end Go.Proofs.YtjjflbnopphciacGreatDoor.op


namespace Go.Proofs.YtjjflbnopphciacGreatDoor
open Go.RowKit

theorem RdP.drewN {w : World} {A : Option Addr} {n : Nat} {xs : List (Int × Int)} (h : RdP w A n xs) (k : Nat) : RdP (w.drewN k) A n xs := h
theorem RdP.drew {w : World} {A : Option Addr} {n : Nat} {xs : List (Int × Int)} (h : RdP w A n xs) : RdP w.drew A n xs := h
theorem RdN.drewN {w : World} {A : Option Addr} {n : Nat} {xs : List (Int × Int)} (h : RdN w A n xs) (k : Nat) : RdN (w.drewN k) A n xs := h
theorem RdN.drew {w : World} {A : Option Addr} {n : Nat} {xs : List (Int × Int)} (h : RdN w A n xs) : RdN w.drew A n xs := h
theorem stopAt_le (opv : Nat → Int × Int) (last : Int) : ∀ (k f : Nat), stopAt opv last k f ≤ k + f
  | k, 0 => Nat.le_refl _
  | k, f + 1 => by
    unfold stopAt
    split
    · have := stopAt_le opv last (k + 1) f; omega
    · omega
theorem firstNZ_zero3 {a b c : Int} (h : firstNZ [a, b, c] = 0) : a = 0 ∧ b = 0 ∧ c = 0 := by
  simp only [firstNZ] at h
  by_cases ha : a = 0
  · by_cases hb : b = 0
    · by_cases hc : c = 0
      · exact ⟨ha, hb, hc⟩
      · simp [ha, hb, hc] at h
    · simp [ha, hb] at h
  · simp [ha] at h
theorem firstNZ_zero2 {a b : Int} (h : firstNZ [a, b] = 0) : a = 0 ∧ b = 0 := by
  simp only [firstNZ] at h
  by_cases ha : a = 0
  · by_cases hb : b = 0
    · exact ⟨ha, hb⟩
    · simp [ha, hb] at h
  · simp [ha] at h
theorem rulC_zero {k d n q s : Int} {m : Nat} {ns : List (Int × Int)} (h : rulC k d n q s m ns = 0) : (d = 1 ∨ d = 3) ∧ ((k = 0 ∧ (1 ≤ n ∧ n ≤ 1000) ∧ (1 ≤ q ∧ q ≤ 1000) ∧ s = 0 ∧ m = 0) ∨ (k = 1 ∧ (mapR ns).2 = 0 ∧ (1 ≤ s ∧ s ≤ 1000000000000) ∧ n = 0 ∧ q = 0)) := by
  unfold rulC at h
  by_cases hk : k < 0 ∨ 2 ≤ k
  · rw [if_pos hk] at h; cases h
  rw [if_neg hk] at h
  by_cases hd : degE d = 0
  rotate_left
  · rw [if_neg hd] at h; exact absurd h hd
  rw [if_pos hd] at h
  have hd13 : d = 1 ∨ d = 3 := by
    unfold degE at hd
    by_cases h : d = 1 ∨ d = 3
    · exact h
    · rw [if_neg h] at hd; cases hd
  refine ⟨hd13, ?_⟩
  by_cases hk0 : k = 0
  · rw [if_pos hk0] at h
    obtain ⟨h1, h2⟩ := firstNZ_zero2 h
    rw [rngE_two] at h1
    by_cases h3 : 1 ≤ n ∧ n ≤ 1000 ∧ 1 ≤ q ∧ q ≤ 1000
    · by_cases h4 : s ≠ 0 ∨ 0 < m
      · rw [if_pos h4] at h2; cases h2
      · exact .inl ⟨hk0, by omega, by omega, by omega, by omega⟩
    · rw [if_neg h3] at h1; cases h1
  · rw [if_neg hk0] at h
    obtain ⟨h1, h2, h3⟩ := firstNZ_zero3 h
    rw [rngE_one] at h2
    by_cases h4 : 1 ≤ s ∧ s ≤ 1000000000000
    · by_cases h5 : n ≠ 0 ∨ q ≠ 0
      · rw [if_pos h5] at h3; cases h3
      · exact .inr ⟨by omega, h1, h4, by omega, by omega⟩
    · rw [if_neg h4] at h2; cases h2
theorem PositionsOf_01 (k d n q s : Int) (A : Option Addr) (m c : Nat) (ns : List (Int × Int)) (cnt : Nat) (w : World) (hr : RdN w A m ns) (hm : m ≤ 1000000) (hcnt : cnt ≤ 400) (hE : rulC k d n q s m ns = 0) :
    Calls Tryz.prog 52 #[.agg #[.int .i64 k, .int .i64 d, .int .i64 n, .int .i64 q, .int .i64 s, .slice A m c], .int .i64 cnt] w (OwnRes w (posOut (if k = 0 then opR0 n q else opR1 s ns) (64 * ((cnt : Int) - 1))).2 (posOut (if k = 0 then opR0 n q else opR1 s ns) (64 * ((cnt : Int) - 1))).1) := by
  obtain ⟨hk, hp⟩ := rulC_zero hE
  have hcr := fun W (hb : Below w.heap.size w W) => CheckRules_all k d n q s A m c ns W (hr.below hb) hm
  rw [hE] at hcr
  rcases hp with ⟨rfl, hn, hq, rfl, rfl⟩ | ⟨rfl, hM, hs, rfl, rfl⟩
  · rw [if_pos rfl]
    exact PositionsOf_ok 0 d n q 0 A 0 c cnt (opR0 n q) w hcnt hcr (fun k W hk _ _ => outPos0_any d n q A c k W (by omega) hn hq)
  · rw [if_neg (by decide)]
    obtain ⟨hok, hl2, hl20⟩ := mapR_ok hM
    have hl := hr.1
    have h0 := hok 0 (by omega)
    exact PositionsOf_ok 1 d 0 0 s A m c cnt (opR1 s ns) w hcnt hcr (fun k W hk h1 h2 => outPos1_any d s A m c ns k W (hr.heap h1 h2) (by omega) (by omega) (by omega) (by omega))
theorem posOut_two (opv : Nat → Int × Int) (last : Int) : (posOut opv last).2 = 0 ∧ (posOut opv last).1.length ≤ 2000 ∨ posOut opv last = ([], 8) := by
  unfold posOut
  by_cases h : stopAt opv last 0 2001 = 2001
  · rw [if_pos h]; exact .inr rfl
  · rw [if_neg h]
    have := stopAt_le opv last 0 2001
    exact .inl ⟨rfl, by simp; omega⟩
end Go.Proofs.YtjjflbnopphciacGreatDoor

namespace Go.Proofs.YtjjflbnopphciacGreatDoor
open Go.RowKit

theorem LaidG.drewG {w : World} (h : LaidG w) : LaidG w.drew := h.later (Below.refl _ _).drew
/-- What ParseRules answers, with letters. -/
def PRul (w : World) (k d nu q s : Int) (l : Nat) (ns : List (Int × Int)) (E : Int) (e : Ending) (w' : World) : Prop :=
  (∃ A c, e = .returned (.tuple #[.agg #[.int .i64 k, .int .i64 d, .int .i64 nu, .int .i64 q, .int .i64 s, .slice A l c], .int .i64 E]) ∧ RdP w' A l ns) ∧ Below w.heap.size w w'
theorem RulRes.letters {w w' : World} {e : Ending} {r : Rul × Int} {k d nu q s E : Int} {ns : List (Int × Int)} (h : RulRes w r e w') (hr : r = (⟨k, d, nu, q, s, ns⟩, E)) : PRul w k d nu q s ns.length ns E e w' := by
  subst hr
  obtain ⟨⟨A, c, h1, h2, _⟩, hb⟩ := h
  exact ⟨⟨A, c, h1, h2.toP⟩, hb⟩
def PFlt (w : World) (l : Nat) (cs : List Int) (b E : Int) (e : Ending) (w' : World) : Prop :=
  (∃ A c, e = .returned (.tuple #[.agg #[.slice A l c, .int .i64 b], .int .i64 E]) ∧ RdI w' A l cs) ∧ Below w.heap.size w w'
theorem FltRes.letters {w w' : World} {e : Ending} {r : (List Int × Int) × Int} {b E : Int} {cs : List Int} (h : FltRes w r e w') (hr : r = ((cs, b), E)) : PFlt w cs.length cs b E e w' := by
  subst hr
  obtain ⟨⟨A, c, h1, h2, _⟩, hb⟩ := h
  exact ⟨⟨A, c, h1, h2⟩, hb⟩
set_option maxRecDepth 100000 in
set_option maxHeartbeats 8000000 in
theorem rs_far (k d nu q s : Int) (A : Option Addr) (m c : Nat) (ns : List (Int × Int)) (B : Option Addr) (n c2 : Nat) (cs : List Int) (b : Int) (S : ByteArray) (w : World) (hm : ¬ m ≤ 22) :
    Calls Tryz.prog 3 #[.agg #[.int .i64 k, .int .i64 d, .int .i64 nu, .int .i64 q, .int .i64 s, .slice A m c], .agg #[.slice B n c2, .int .i64 b], .string S] w fun e w' => e = .returned (.bool true) ∧ Below w.heap.size w w' := by
  have CFw := Lib.hid (fun W => few_any A m c W)
  rw [decide_eq_false hm] at CFw
  have B0 : Hid (Below w.heap.size w ((w.alloc (.cells #[.int .i64 k, .int .i64 d, .int .i64 nu, .int .i64 q, .int .i64 s, .slice A m c] 26)).alloc (.cells #[.slice B n c2, .int .i64 b] 29))) := Lib.hid (below2 _ _ _)
  have K0 : Hid (Bk ((w.alloc (.cells #[.int .i64 k, .int .i64 d, .int .i64 nu, .int .i64 q, .int .i64 s, .slice A m c] 26)).alloc (.cells #[.slice B n c2, .int .i64 b] 29)) w.heap.size 26 #[.int .i64 k, .int .i64 d, .int .i64 nu, .int .i64 q, .int .i64 s, .slice A m c]) := Lib.hid ((Bk.new _ _ _).alloc _)
  have F0 : Hid (Bk ((w.alloc (.cells #[.int .i64 k, .int .i64 d, .int .i64 nu, .int .i64 q, .int .i64 s, .slice A m c] 26)).alloc (.cells #[.slice B n c2, .int .i64 b] 29)) (w.heap.size + 1) 29 #[.slice B n c2, .int .i64 b]) := Lib.hid (by simpa using Bk.new (w.alloc (.cells #[.int .i64 k, .int .i64 d, .int .i64 nu, .int .i64 q, .int .i64 s, .slice A m c] 26)) 29 #[.slice B n c2, .int .i64 b])
  go_enter Tryz.func3, Tryz.ntmps3
  go_wp2_with fail
  refine (awake_any _).mono ?_
  rintro e w1 ⟨rfl, hb⟩
  have B1 := Lib.hid (B0.out.trans (hb.mono B0.out.size))
  have K1 := Lib.hid (K0.out.later hb)
  have F1 := Lib.hid (F0.out.later hb)
  clear B0 K0 F0 hb
  obtain ⟨cc0, cc1, cc2, cc3, cc4, cc5⟩ := bk6 K1.out
  obtain ⟨f0, f1⟩ := bkf2 F1.out
  go_wp2_with fail
  refine (CFw.out _).mono ?_
  rintro e w2 ⟨rfl, hb⟩
  have B2 := Lib.hid (B1.out.trans (hb.mono B1.out.size))
  have K2 := Lib.hid (K1.out.later hb)
  have F2 := Lib.hid (F1.out.later hb)
  clear B1 K1 F1 hb
  clear cc0 cc1 cc2 cc3 cc4 cc5 f0 f1
  obtain ⟨cc0, cc1, cc2, cc3, cc4, cc5⟩ := bk6 K2.out
  obtain ⟨f0, f1⟩ := bkf2 F2.out
  go_wp2
  go_ret
  exact ⟨rfl, B2.out⟩
set_option maxRecDepth 100000 in
set_option maxHeartbeats 8000000 in
theorem rs_taps (k d nu q s : Int) (A : Option Addr) (m c : Nat) (ns : List (Int × Int)) (B : Option Addr) (n c2 : Nat) (cs : List Int) (b : Int) (S : ByteArray) (w : World) (hm : m ≤ 22) (hn : ¬ n ≤ 10) :
    Calls Tryz.prog 3 #[.agg #[.int .i64 k, .int .i64 d, .int .i64 nu, .int .i64 q, .int .i64 s, .slice A m c], .agg #[.slice B n c2, .int .i64 b], .string S] w fun e w' => e = .returned (.bool true) ∧ Below w.heap.size w w' := by
  have CFw := Lib.hid (fun W => few_any A m c W)
  rw [decide_eq_true hm] at CFw
  have CTp := Lib.hid (fun W => taps_any B n c2 b W)
  rw [decide_eq_false hn] at CTp
  have B0 : Hid (Below w.heap.size w ((w.alloc (.cells #[.int .i64 k, .int .i64 d, .int .i64 nu, .int .i64 q, .int .i64 s, .slice A m c] 26)).alloc (.cells #[.slice B n c2, .int .i64 b] 29))) := Lib.hid (below2 _ _ _)
  have K0 : Hid (Bk ((w.alloc (.cells #[.int .i64 k, .int .i64 d, .int .i64 nu, .int .i64 q, .int .i64 s, .slice A m c] 26)).alloc (.cells #[.slice B n c2, .int .i64 b] 29)) w.heap.size 26 #[.int .i64 k, .int .i64 d, .int .i64 nu, .int .i64 q, .int .i64 s, .slice A m c]) := Lib.hid ((Bk.new _ _ _).alloc _)
  have F0 : Hid (Bk ((w.alloc (.cells #[.int .i64 k, .int .i64 d, .int .i64 nu, .int .i64 q, .int .i64 s, .slice A m c] 26)).alloc (.cells #[.slice B n c2, .int .i64 b] 29)) (w.heap.size + 1) 29 #[.slice B n c2, .int .i64 b]) := Lib.hid (by simpa using Bk.new (w.alloc (.cells #[.int .i64 k, .int .i64 d, .int .i64 nu, .int .i64 q, .int .i64 s, .slice A m c] 26)) 29 #[.slice B n c2, .int .i64 b])
  go_enter Tryz.func3, Tryz.ntmps3
  go_wp2_with fail
  refine (awake_any _).mono ?_
  rintro e w1 ⟨rfl, hb⟩
  have B1 := Lib.hid (B0.out.trans (hb.mono B0.out.size))
  have K1 := Lib.hid (K0.out.later hb)
  have F1 := Lib.hid (F0.out.later hb)
  clear B0 K0 F0 hb
  obtain ⟨cc0, cc1, cc2, cc3, cc4, cc5⟩ := bk6 K1.out
  obtain ⟨f0, f1⟩ := bkf2 F1.out
  go_wp2_with fail
  refine (CFw.out _).mono ?_
  rintro e w2 ⟨rfl, hb⟩
  have B2 := Lib.hid (B1.out.trans (hb.mono B1.out.size))
  have K2 := Lib.hid (K1.out.later hb)
  have F2 := Lib.hid (F1.out.later hb)
  clear B1 K1 F1 hb
  clear cc0 cc1 cc2 cc3 cc4 cc5 f0 f1
  obtain ⟨cc0, cc1, cc2, cc3, cc4, cc5⟩ := bk6 K2.out
  obtain ⟨f0, f1⟩ := bkf2 F2.out
  go_wp2_with fail
  refine (CTp.out _).mono ?_
  rintro e w3 ⟨rfl, hb⟩
  have B3 := Lib.hid (B2.out.trans (hb.mono B2.out.size))
  have K3 := Lib.hid (K2.out.later hb)
  have F3 := Lib.hid (F2.out.later hb)
  clear B2 K2 F2 hb
  clear cc0 cc1 cc2 cc3 cc4 cc5 f0 f1
  obtain ⟨cc0, cc1, cc2, cc3, cc4, cc5⟩ := bk6 K3.out
  obtain ⟨f0, f1⟩ := bkf2 F3.out
  go_wp2
  go_ret
  exact ⟨rfl, B3.out⟩
set_option maxRecDepth 100000 in
set_option maxHeartbeats 8000000 in
theorem rs_long (k d nu q s : Int) (A : Option Addr) (m c : Nat) (ns : List (Int × Int)) (B : Option Addr) (n c2 : Nat) (cs : List Int) (b : Int) (S : ByteArray) (w : World) (hm : m ≤ 22) (hn : n ≤ 10) (hs : 600 < S.size) :
    Calls Tryz.prog 3 #[.agg #[.int .i64 k, .int .i64 d, .int .i64 nu, .int .i64 q, .int .i64 s, .slice A m c], .agg #[.slice B n c2, .int .i64 b], .string S] w fun e w' => e = .returned (.bool true) ∧ Below w.heap.size w w' := by
  have CFw := Lib.hid (fun W => few_any A m c W)
  rw [decide_eq_true hm] at CFw
  have CTp := Lib.hid (fun W => taps_any B n c2 b W)
  rw [decide_eq_true hn] at CTp
  have g1 : (600 : Int) < (S.size : Int) := by omega
  have B0 : Hid (Below w.heap.size w ((w.alloc (.cells #[.int .i64 k, .int .i64 d, .int .i64 nu, .int .i64 q, .int .i64 s, .slice A m c] 26)).alloc (.cells #[.slice B n c2, .int .i64 b] 29))) := Lib.hid (below2 _ _ _)
  have K0 : Hid (Bk ((w.alloc (.cells #[.int .i64 k, .int .i64 d, .int .i64 nu, .int .i64 q, .int .i64 s, .slice A m c] 26)).alloc (.cells #[.slice B n c2, .int .i64 b] 29)) w.heap.size 26 #[.int .i64 k, .int .i64 d, .int .i64 nu, .int .i64 q, .int .i64 s, .slice A m c]) := Lib.hid ((Bk.new _ _ _).alloc _)
  have F0 : Hid (Bk ((w.alloc (.cells #[.int .i64 k, .int .i64 d, .int .i64 nu, .int .i64 q, .int .i64 s, .slice A m c] 26)).alloc (.cells #[.slice B n c2, .int .i64 b] 29)) (w.heap.size + 1) 29 #[.slice B n c2, .int .i64 b]) := Lib.hid (by simpa using Bk.new (w.alloc (.cells #[.int .i64 k, .int .i64 d, .int .i64 nu, .int .i64 q, .int .i64 s, .slice A m c] 26)) 29 #[.slice B n c2, .int .i64 b])
  go_enter Tryz.func3, Tryz.ntmps3
  go_wp2_with fail
  refine (awake_any _).mono ?_
  rintro e w1 ⟨rfl, hb⟩
  have B1 := Lib.hid (B0.out.trans (hb.mono B0.out.size))
  have K1 := Lib.hid (K0.out.later hb)
  have F1 := Lib.hid (F0.out.later hb)
  clear B0 K0 F0 hb
  obtain ⟨cc0, cc1, cc2, cc3, cc4, cc5⟩ := bk6 K1.out
  obtain ⟨f0, f1⟩ := bkf2 F1.out
  go_wp2_with fail
  refine (CFw.out _).mono ?_
  rintro e w2 ⟨rfl, hb⟩
  have B2 := Lib.hid (B1.out.trans (hb.mono B1.out.size))
  have K2 := Lib.hid (K1.out.later hb)
  have F2 := Lib.hid (F1.out.later hb)
  clear B1 K1 F1 hb
  clear cc0 cc1 cc2 cc3 cc4 cc5 f0 f1
  obtain ⟨cc0, cc1, cc2, cc3, cc4, cc5⟩ := bk6 K2.out
  obtain ⟨f0, f1⟩ := bkf2 F2.out
  go_wp2_with fail
  refine (CTp.out _).mono ?_
  rintro e w3 ⟨rfl, hb⟩
  have B3 := Lib.hid (B2.out.trans (hb.mono B2.out.size))
  have K3 := Lib.hid (K2.out.later hb)
  have F3 := Lib.hid (F2.out.later hb)
  clear B2 K2 F2 hb
  clear cc0 cc1 cc2 cc3 cc4 cc5 f0 f1
  obtain ⟨cc0, cc1, cc2, cc3, cc4, cc5⟩ := bk6 K3.out
  obtain ⟨f0, f1⟩ := bkf2 F3.out
  go_wp2
  go_ret
  exact ⟨rfl, B3.out⟩
theorem rulesS_len (S : ByteArray) : (rulesS S).1.ns.length ≤ 60001 := by
  unfold rulesS
  split
  · simp [rul0]
  · unfold rulFin
    split
    · exact rulesP_len (pcs 32 S.data.toList)
    · simp [rul0]
theorem fltS_len (S : ByteArray) : (fltS S).1.1.length ≤ S.size + 1 := by
  unfold fltS
  cases h : fltO (pcs 32 S.data.toList) with
  | none => simp [fltR]
  | some p =>
    obtain ⟨cs, b⟩ := p
    have h1 : cs.length ≤ S.size + 1 := by
      cases hp : pcs 32 S.data.toList with
      | nil => rw [hp] at h; simp [fltO] at h
      | cons p0 rest =>
        rw [hp] at h
        cases hu : numU p0 4 with
        | none => rw [fltO_none hu] at h; cases h
        | some d =>
          rw [fltO_some hu] at h
          cases hn : numsD 4 rest with
          | none => rw [hn] at h; cases h
          | some l =>
            rw [hn] at h
            have h2 : (l, d) = (cs, b) := Option.some.inj h
            have h3 : l = cs := (Prod.mk.inj h2).1
            have h4 := (numsD_bd 4 rest l hn).1
            have h5 := pcs_len_le 32 S.data.toList
            have h6 : S.data.toList.length = S.size := by simp
            rw [hp, List.length_cons] at h5
            rw [← h3, h4]; omega
    unfold fltR
    dsimp only
    split <;> simp <;> omega
set_option maxRecDepth 100000 in
set_option maxHeartbeats 8000000 in
theorem rs_main (k d nu q s : Int) (A : Option Addr) (m c : Nat) (ns : List (Int × Int)) (B : Option Addr) (n c2 : Nat) (cs : List Int) (b : Int) (S : ByteArray) (w : World) (hl : LaidG w) (hr : RdP w A m ns) (hf : RdI w B n cs) (hA : A = none → m = 0 ∧ c = 0) (hB : B = none → n = 0 ∧ c2 = 0) (hm : m ≤ 22) (hn : n ≤ 10) (hs : S.size ≤ 600) (hx64 : I64N ns) (hd64 : I64 [d, nu, q]) (hd2 : I64 [d, s]) (hc64 : I64 cs) (hb64 : -9223372036854775808 ≤ b ∧ b ≤ 9223372036854775807) :
    Calls Tryz.prog 3 #[.agg #[.int .i64 k, .int .i64 d, .int .i64 nu, .int .i64 q, .int .i64 s, .slice A m c], .agg #[.slice B n c2, .int .i64 b], .string S] w fun e w' => e = .returned (.bool true) ∧ Below w.heap.size w w' := by
  have CFw := Lib.hid (fun W => few_any A m c W)
  rw [decide_eq_true hm] at CFw
  have CTp := Lib.hid (fun W => taps_any B n c2 b W)
  rw [decide_eq_true hn] at CTp
  have g1 : ¬ (600 : Int) < (S.size : Int) := by omega
  have hlen : ns.length = m := hr.1
  have hlen2 : cs.length = n := hf.1
  have hcsb : I64 (b :: cs) := fun x hx => by
    rcases List.mem_cons.1 hx with rfl | hx
    · exact hb64
    · exact hc64 x hx
  obtain ⟨TA, hTA⟩ : ∃ T, rulesT k d nu q s ns = T := ⟨_, rfl⟩
  obtain ⟨TB, hTB⟩ : ∃ T, fltT cs b = T := ⟨_, rfl⟩
  have hTAz : TA.size ≤ 1200 := by rw [← hTA]; have := rulesT_size (k := k) hd64 hd2 hx64; omega
  have hTBz : TB.size ≤ 1200 := by rw [← hTB]; have := fltT_size hcsb; omega
  have CCR : Hid (∀ W, RdP W A m ns → Calls Tryz.prog 8 #[.agg #[.int .i64 k, .int .i64 d, .int .i64 nu, .int .i64 q, .int .i64 s, .slice A m c]] W (CpRul W k d nu q s m ns)) := fun W h => copyRules_any k d nu q s A m c ns W hA h (by omega)
  have CCF : Hid (∀ W, RdI W B n cs → Calls Tryz.prog 10 #[.agg #[.slice B n c2, .int .i64 b]] W (CpF W n b cs)) := fun W h => copyFilter_any B n c2 b cs W hB h (by omega)
  have CFR : Hid (∀ W A' c', LaidG W → RdN W A' m ns → Calls Tryz.prog 7 #[.agg #[.int .i64 k, .int .i64 d, .int .i64 nu, .int .i64 q, .int .i64 s, .slice A' m c']] W fun e w' => e = .returned (.string TA) ∧ Below W.heap.size W w') := fun W A' c' h1 h2 => by rw [← hTA]; exact formatRules_any k d nu q s A' m c' ns W h1 h2 (by omega) hx64 hd64 hd2
  have CFF : Hid (∀ W A' c', LaidG W → RdI W A' n cs → Calls Tryz.prog 9 #[.agg #[.slice A' n c', .int .i64 b]] W fun e w' => e = .returned (.string TB) ∧ Below W.heap.size W w') := fun W A' c' h1 h2 => by rw [← hTB]; exact formatFilter_any A' n c' cs b W h1 h2 (by omega) hc64 hb64
  have CGR : Hid (∀ W, RdP W A m ns → Calls Tryz.prog 15 #[.agg #[.int .i64 k, .int .i64 d, .int .i64 nu, .int .i64 q, .int .i64 s, .slice A m c]] W fun e w' => e = .returned (.string TA) ∧ Below W.heap.size W w') := fun W h2 => by rw [← hTA]; exact refFormatRules_any k d nu q s A m c ns W h2 (by omega) hx64 hd64 hd2
  have CGF : Hid (∀ W, RdI W B n cs → Calls Tryz.prog 16 #[.agg #[.slice B n c2, .int .i64 b]] W fun e w' => e = .returned (.string TB) ∧ Below W.heap.size W w') := fun W h2 => by rw [← hTB]; exact refFormatFilter_any B n c2 cs b W hB h2 (by omega) hc64 hb64
  obtain ⟨RS, hRS⟩ : ∃ r, rulesS S = r := ⟨_, rfl⟩
  obtain ⟨⟨rk, rd, rn, rq, rs, rns⟩, rE⟩ := RS
  obtain ⟨rl, hrl⟩ : ∃ l, rns.length = l := ⟨_, rfl⟩
  have CPR : Hid (∀ W, LaidG W → Calls Tryz.prog 11 #[.string S] W (PRul W rk rd rn rq rs rl rns rE)) := fun W h => (parseRules_any S W h (by omega)).mono fun e w' h => by rw [← hrl]; exact h.letters hRS
  have CQR : Hid (∀ W, Calls Tryz.prog 13 #[.string S] W (PRul W rk rd rn rq rs rl rns rE)) := fun W => (refParseRules_any S W).mono fun e w' h => by rw [← hrl]; exact h.letters hRS
  obtain ⟨FS, hFS⟩ : ∃ r, fltS S = r := ⟨_, rfl⟩
  obtain ⟨⟨fcs, fb⟩, fE⟩ := FS
  obtain ⟨fl, hfl⟩ : ∃ l, fcs.length = l := ⟨_, rfl⟩
  have CPF : Hid (∀ W, LaidG W → Calls Tryz.prog 12 #[.string S] W (PFlt W fl fcs fb fE)) := fun W h => (parseFilter_any S W h (by omega)).mono fun e w' h => by rw [← hfl]; exact h.letters hFS
  have CQF : Hid (∀ W, Calls Tryz.prog 14 #[.string S] W (PFlt W fl fcs fb fE)) := fun W => (refParseFilter_any S W (by omega)).mono fun e w' h => by rw [← hfl]; exact h.letters hFS
  have hrlb : rl ≤ 1000000 := by have h1 := rulesS_len S; rw [hRS] at h1; dsimp only at h1; omega
  have hflb : fl ≤ 1000000 := by have h1 := fltS_len S; rw [hFS] at h1; dsimp only at h1; omega
  have CSR : Hid (∀ W A' c' B' c2', RdP W A' rl rns → RdP W B' rl rns → Calls Tryz.prog 17 #[.agg #[.int .i64 rk, .int .i64 rd, .int .i64 rn, .int .i64 rq, .int .i64 rs, .slice A' rl c'], .agg #[.int .i64 rk, .int .i64 rd, .int .i64 rn, .int .i64 rq, .int .i64 rs, .slice B' rl c2']] W fun e w' => e = .returned (.bool true) ∧ Below W.heap.size W w') := fun W A' c' B' c2' h1 h2 => sameRules_any rk rd rn rq rs A' B' rl c' c2' rns W h1 h2 hrlb
  have CSF : Hid (∀ W A' c' B' c2', RdI W A' fl fcs → RdI W B' fl fcs → Calls Tryz.prog 18 #[.agg #[.slice A' fl c', .int .i64 fb], .agg #[.slice B' fl c2', .int .i64 fb]] W fun e w' => e = .returned (.bool true) ∧ Below W.heap.size W w') := fun W A' c' B' c2' h1 h2 => sameFilter_any A' B' fl c' c2' fb fcs W h1 h2 hflb
  obtain ⟨D, hD⟩ : ∃ D, rulC k d nu q s m ns = D := ⟨_, rfl⟩
  have CDE : Hid (∀ W, RdP W A m ns → Calls Tryz.prog 19 #[.agg #[.int .i64 k, .int .i64 d, .int .i64 nu, .int .i64 q, .int .i64 s, .slice A m c]] W fun e w' => e = .returned (.int .i64 D) ∧ Below W.heap.size W w') := fun W h => by rw [← hD]; exact refRulesErr_any k d nu q s A m c ns W h (by omega)
  obtain ⟨E, hE⟩ : ∃ E, fltE cs b = E := ⟨_, rfl⟩
  have CEE : Hid (∀ W, RdI W B n cs → Calls Tryz.prog 20 #[.agg #[.slice B n c2, .int .i64 b]] W fun e w' => e = .returned (.int .i64 E) ∧ Below W.heap.size W w') := fun W h => by rw [← hE]; exact refFilterErr_any B n c2 b cs W h (by omega)
  have CBR : Hid (D = 0 → ∀ W, LaidG W → Calls Tryz.prog 11 #[.string TA] W (PRul W k d nu q s m ns 0)) := fun h0 W h => (parseRules_any TA W h (by omega)).mono fun e w' h => by
    rw [← hlen]; refine h.letters ?_; rw [← hTA]; exact rules_again k d nu q s ns (by rw [hlen, hD]; exact h0)
  have CBF : Hid (E = 0 → ∀ W, LaidG W → Calls Tryz.prog 12 #[.string TB] W (PFlt W n cs b 0)) := fun h0 W h => (parseFilter_any TB W h (by omega)).mono fun e w' h => by
    rw [← hlen2]; refine h.letters ?_; rw [← hTB]; exact filter_again cs b (hE.trans h0)
  have CTR : Hid (∀ W A' c', RdP W A' m ns → RdP W A m ns → Calls Tryz.prog 17 #[.agg #[.int .i64 k, .int .i64 d, .int .i64 nu, .int .i64 q, .int .i64 s, .slice A' m c'], .agg #[.int .i64 k, .int .i64 d, .int .i64 nu, .int .i64 q, .int .i64 s, .slice A m c]] W fun e w' => e = .returned (.bool true) ∧ Below W.heap.size W w') := fun W A' c' h1 h2 => sameRules_any k d nu q s A' A m c' c ns W h1 h2 (by omega)
  have CTF : Hid (∀ W A' c', RdI W A' n cs → RdI W B n cs → Calls Tryz.prog 18 #[.agg #[.slice A' n c', .int .i64 b], .agg #[.slice B n c2, .int .i64 b]] W fun e w' => e = .returned (.bool true) ∧ Below W.heap.size W w') := fun W A' c' h1 h2 => sameFilter_any A' B n c' c2 b cs W h1 h2 (by omega)
  have eTA : (TA.toList == TA.toList) = true := by simp
  have eTB : (TB.toList == TB.toList) = true := by simp
  have eE1 : (rE != rE) = false := by simp
  have eE2 : (fE != fE) = false := by simp
  clear hlen hlen2 hcsb hTA hTB hTAz hTBz hRS hrl hFS hfl hrlb hflb hD hE hA hB hs hm hn hd64 hd2 hx64 hc64 hb64
  have B0 : Hid (Below w.heap.size w ((w.alloc (.cells #[.int .i64 k, .int .i64 d, .int .i64 nu, .int .i64 q, .int .i64 s, .slice A m c] 26)).alloc (.cells #[.slice B n c2, .int .i64 b] 29))) := Lib.hid (below2 _ _ _)
  have K0 : Hid (Bk ((w.alloc (.cells #[.int .i64 k, .int .i64 d, .int .i64 nu, .int .i64 q, .int .i64 s, .slice A m c] 26)).alloc (.cells #[.slice B n c2, .int .i64 b] 29)) w.heap.size 26 #[.int .i64 k, .int .i64 d, .int .i64 nu, .int .i64 q, .int .i64 s, .slice A m c]) := Lib.hid ((Bk.new _ _ _).alloc _)
  have F0 : Hid (Bk ((w.alloc (.cells #[.int .i64 k, .int .i64 d, .int .i64 nu, .int .i64 q, .int .i64 s, .slice A m c] 26)).alloc (.cells #[.slice B n c2, .int .i64 b] 29)) (w.heap.size + 1) 29 #[.slice B n c2, .int .i64 b]) := Lib.hid (by simpa using Bk.new (w.alloc (.cells #[.int .i64 k, .int .i64 d, .int .i64 nu, .int .i64 q, .int .i64 s, .slice A m c] 26)) 29 #[.slice B n c2, .int .i64 b])
  have L0 := Lib.hid (hl.later B0.out)
  have X0 := Lib.hid (hr.below B0.out)
  have Y0 := Lib.hid (hf.below B0.out)
  clear hl hr hf
  go_enter Tryz.func3, Tryz.ntmps3
  go_wp2_with fail
  refine (awake_any _).mono ?_
  rintro e w1 ⟨rfl, hb⟩
  have B1 := Lib.hid (B0.out.trans (hb.mono B0.out.size))
  have K1 := Lib.hid (K0.out.later hb)
  have F1 := Lib.hid (F0.out.later hb)
  have L1 := Lib.hid (L0.out.later hb)
  have X1 := Lib.hid (X0.out.below hb)
  have Y1 := Lib.hid (Y0.out.below hb)
  clear B0 K0 F0 L0 X0 Y0 hb
  obtain ⟨cc0, cc1, cc2, cc3, cc4, cc5⟩ := bk6 K1.out
  obtain ⟨f0, f1⟩ := bkf2 F1.out
  go_wp2_with fail
  refine (CFw.out _).mono ?_
  rintro e w2 ⟨rfl, hb⟩
  have B2 := Lib.hid (B1.out.trans (hb.mono B1.out.size))
  have K2 := Lib.hid (K1.out.later hb)
  have F2 := Lib.hid (F1.out.later hb)
  have L2 := Lib.hid (L1.out.later hb)
  have X2 := Lib.hid (X1.out.below hb)
  have Y2 := Lib.hid (Y1.out.below hb)
  clear B1 K1 F1 L1 X1 Y1 hb
  clear cc0 cc1 cc2 cc3 cc4 cc5 f0 f1
  obtain ⟨cc0, cc1, cc2, cc3, cc4, cc5⟩ := bk6 K2.out
  obtain ⟨f0, f1⟩ := bkf2 F2.out
  go_wp2_with fail
  refine (CTp.out _).mono ?_
  rintro e w3 ⟨rfl, hb⟩
  have B3 := Lib.hid (B2.out.trans (hb.mono B2.out.size))
  have K3 := Lib.hid (K2.out.later hb)
  have F3 := Lib.hid (F2.out.later hb)
  have L3 := Lib.hid (L2.out.later hb)
  have X3 := Lib.hid (X2.out.below hb)
  have Y3 := Lib.hid (Y2.out.below hb)
  clear B2 K2 F2 L2 X2 Y2 hb
  clear cc0 cc1 cc2 cc3 cc4 cc5 f0 f1
  go_upto_region 5 with fail
  refine wp_region_held_drew (S := (fun w' : World => w'.cell? ⟨w.heap.size, 0, none⟩ = some (.int .i64 k) ∧ w'.cell? ⟨w.heap.size, 1, none⟩ = some (.int .i64 d) ∧ w'.cell? ⟨w.heap.size, 2, none⟩ = some (.int .i64 nu) ∧ w'.cell? ⟨w.heap.size, 3, none⟩ = some (.int .i64 q) ∧ w'.cell? ⟨w.heap.size, 4, none⟩ = some (.int .i64 s) ∧ w'.cell? ⟨w.heap.size, 5, none⟩ = some (.slice A m c) ∧ w'.cell? ⟨w.heap.size + 1, 0, none⟩ = some (.slice B n c2) ∧ w'.cell? ⟨w.heap.size + 1, 1, none⟩ = some (.int .i64 b))) (by kernel_rfl) (by obtain ⟨c0, c1, c2, c3, c4, c5⟩ := bk6 K3.out; obtain ⟨f0, f1⟩ := bkf2 F3.out; exact ⟨c0, c1, c2, c3, c4, c5, f0, f1⟩) ?_
  intro hHeld
  obtain ⟨w4, hw⟩ : ∃ W, w3.drew = W := ⟨_, rfl⟩
  have hb : Below w3.heap.size w3 w4 := by rw [← hw]; exact (Below.refl _ _).drew
  rw [hw] at hHeld ⊢
  clear hw
  have B4 := Lib.hid (B3.out.trans (hb.mono B3.out.size))
  have K4 := Lib.hid (K3.out.later hb)
  have F4 := Lib.hid (F3.out.later hb)
  have L4 := Lib.hid (L3.out.later hb)
  have X4 := Lib.hid (X3.out.below hb)
  have Y4 := Lib.hid (Y3.out.below hb)
  clear B3 K3 F3 L3 X3 Y3 hb
  refine wpAnyH_take (i := 0) (v := ?_) rfl (by kernel_rfl) (by kernel_rfl) (by kernel_rfl) (fun _ _ _ h => h) (Or.inl ⟨by rfl, ?_⟩) (by assumption) ?_
  rotate_left
  · intro w hSw; (try dsimp only at hSw); go_simp; (try (with_reducible rfl))
  try simp only [List.getElem_toArray, List.getElem_cons_succ, List.getElem_cons_zero, Act.put, List.setIfInBounds_toArray, List.set_cons_zero, List.set_cons_succ]
  refine wpAnyH_take (i := 3) (v := ?_) rfl (by kernel_rfl) (by kernel_rfl) (by kernel_rfl) (fun _ _ _ h => h) (Or.inl ⟨by rfl, ?_⟩) (by assumption) ?_
  rotate_left
  · intro w hSw; (try dsimp only at hSw); go_simp; (try (with_reducible rfl))
  try simp only [List.getElem_toArray, List.getElem_cons_succ, List.getElem_cons_zero, Act.put, List.setIfInBounds_toArray, List.set_cons_zero, List.set_cons_succ]
  refine wpAnyH_ready (rs := [1]) (by kernel_rfl) (by simp) ?_
  refine AllReadyH.cons rfl (fun K hK => ?_) AllReadyH.nil
  go_simp
  go_at_call 8
  refine (CCR.out _ X4.out).mono ?_
  rintro e w5 ⟨⟨gR, cR, rfl, hR, _⟩, hb⟩
  have B5 := Lib.hid (B4.out.trans (hb.mono B4.out.size))
  have K5 := Lib.hid (K4.out.later hb)
  have F5 := Lib.hid (F4.out.later hb)
  have L5 := Lib.hid (L4.out.later hb)
  have X5 := Lib.hid (X4.out.below hb)
  have Y5 := Lib.hid (Y4.out.below hb)
  clear B4 K4 F4 L4 X4 Y4 hb
  have U := Lib.hid hR
  clear hR
  go_wp2_with fail
  refine hK.out _ _ (by obtain ⟨c0, c1, c2, c3, c4, c5⟩ := bk6 K5.out; obtain ⟨f0, f1⟩ := bkf2 F5.out; exact ⟨c0, c1, c2, c3, c4, c5, f0, f1⟩) (fun hHeld => ?_)
  clear hK K
  try simp only [List.getElem_toArray, List.getElem_cons_succ, List.getElem_cons_zero, Act.put, List.setIfInBounds_toArray, List.set_cons_zero, List.set_cons_succ]
  refine wpAnyH_ready (rs := [2]) (by kernel_rfl) (by simp) ?_
  refine AllReadyH.cons rfl (fun K hK => ?_) AllReadyH.nil
  go_simp
  go_at_call 7
  refine (CFR.out _ _ _ L5.out U.out).mono ?_
  rintro e w6 ⟨rfl, hb⟩
  have B6 := Lib.hid (B5.out.trans (hb.mono B5.out.size))
  have K6 := Lib.hid (K5.out.later hb)
  have F6 := Lib.hid (F5.out.later hb)
  have L6 := Lib.hid (L5.out.later hb)
  have X6 := Lib.hid (X5.out.below hb)
  have Y6 := Lib.hid (Y5.out.below hb)
  clear B5 K5 F5 L5 X5 Y5 hb
  clear U
  go_wp2_with fail
  refine hK.out _ _ (by obtain ⟨c0, c1, c2, c3, c4, c5⟩ := bk6 K6.out; obtain ⟨f0, f1⟩ := bkf2 F6.out; exact ⟨c0, c1, c2, c3, c4, c5, f0, f1⟩) (fun hHeld => ?_)
  clear hK K
  try simp only [List.getElem_toArray, List.getElem_cons_succ, List.getElem_cons_zero, Act.put, List.setIfInBounds_toArray, List.set_cons_zero, List.set_cons_succ]
  refine wpAnyH_ready (rs := [4]) (by kernel_rfl) (by simp) ?_
  refine AllReadyH.cons rfl (fun K hK => ?_) AllReadyH.nil
  go_simp
  go_at_call 10
  refine (CCF.out _ Y6.out).mono ?_
  rintro e w7 ⟨⟨AF, cF, rfl, hF, _, _⟩, hb⟩
  have B7 := Lib.hid (B6.out.trans (hb.mono B6.out.size))
  have K7 := Lib.hid (K6.out.later hb)
  have F7 := Lib.hid (F6.out.later hb)
  have L7 := Lib.hid (L6.out.later hb)
  have X7 := Lib.hid (X6.out.below hb)
  have Y7 := Lib.hid (Y6.out.below hb)
  clear B6 K6 F6 L6 X6 Y6 hb
  have V := Lib.hid hF
  clear hF
  go_wp2_with fail
  refine hK.out _ _ (by obtain ⟨c0, c1, c2, c3, c4, c5⟩ := bk6 K7.out; obtain ⟨f0, f1⟩ := bkf2 F7.out; exact ⟨c0, c1, c2, c3, c4, c5, f0, f1⟩) (fun hHeld => ?_)
  clear hK K
  try simp only [List.getElem_toArray, List.getElem_cons_succ, List.getElem_cons_zero, Act.put, List.setIfInBounds_toArray, List.set_cons_zero, List.set_cons_succ]
  refine wpAnyH_ready (rs := [5]) (by kernel_rfl) (by simp) ?_
  refine AllReadyH.cons rfl (fun K hK => ?_) AllReadyH.nil
  go_simp
  go_at_call 9
  refine (CFF.out _ _ _ L7.out V.out).mono ?_
  rintro e w8 ⟨rfl, hb⟩
  have B8 := Lib.hid (B7.out.trans (hb.mono B7.out.size))
  have K8 := Lib.hid (K7.out.later hb)
  have F8 := Lib.hid (F7.out.later hb)
  have L8 := Lib.hid (L7.out.later hb)
  have X8 := Lib.hid (X7.out.below hb)
  have Y8 := Lib.hid (Y7.out.below hb)
  clear B7 K7 F7 L7 X7 Y7 hb
  clear V
  go_wp2_with fail
  refine hK.out _ _ (by obtain ⟨c0, c1, c2, c3, c4, c5⟩ := bk6 K8.out; obtain ⟨f0, f1⟩ := bkf2 F8.out; exact ⟨c0, c1, c2, c3, c4, c5, f0, f1⟩) (fun hHeld => ?_)
  clear hK K
  try simp only [List.getElem_toArray, List.getElem_cons_succ, List.getElem_cons_zero, Act.put, List.setIfInBounds_toArray, List.set_cons_zero, List.set_cons_succ]
  refine wpAnyH_take (i := 6) (v := ?_) rfl (by kernel_rfl) (by kernel_rfl) (by kernel_rfl) (fun _ _ _ h => h) (Or.inl ⟨by rfl, ?_⟩) (by assumption) ?_
  rotate_left
  · intro w hSw; (try dsimp only at hSw); go_simp; (try (with_reducible rfl))
  try simp only [List.getElem_toArray, List.getElem_cons_succ, List.getElem_cons_zero, Act.put, List.setIfInBounds_toArray, List.set_cons_zero, List.set_cons_succ]
  refine wpAnyH_take (i := 7) (v := ?_) rfl (by kernel_rfl) (by kernel_rfl) (by kernel_rfl) (fun _ _ _ h => h) (Or.inl ⟨by rfl, ?_⟩) (by assumption) ?_
  rotate_left
  · intro w hSw; (try dsimp only at hSw); go_simp; (try (with_reducible rfl))
  try simp only [List.getElem_toArray, List.getElem_cons_succ, List.getElem_cons_zero, Act.put, List.setIfInBounds_toArray, List.set_cons_zero, List.set_cons_succ]
  refine wpAnyH_done (by kernel_rfl) ?_ _
  clear hHeld
  go_wp2_with fail
  refine (CPR.out _ L8.out).mono ?_
  rintro e w9 ⟨⟨A9, e9, rfl, h9⟩, hb⟩
  have B9 := Lib.hid (B8.out.trans (hb.mono B8.out.size))
  have K9 := Lib.hid (K8.out.later hb)
  have F9 := Lib.hid (F8.out.later hb)
  have L9 := Lib.hid (L8.out.later hb)
  have X9 := Lib.hid (X8.out.below hb)
  have Y9 := Lib.hid (Y8.out.below hb)
  clear B8 K8 F8 L8 X8 Y8 hb
  have Q9 := Lib.hid h9
  clear h9
  obtain ⟨w10, hw⟩ : ∃ W, w9.alloc (.cells #[.int .i64 rk, .int .i64 rd, .int .i64 rn, .int .i64 rq, .int .i64 rs, .slice A9 rl e9] 26) = W := ⟨_, rfl⟩
  have hb : Below w9.heap.size w9 w10 := by rw [← hw]; exact below1 _ _
  have P : Hid (Bk w10 w9.heap.size 26 #[.int .i64 rk, .int .i64 rd, .int .i64 rn, .int .i64 rq, .int .i64 rs, .slice A9 rl e9]) := by show Bk _ _ _ _; rw [← hw]; exact Bk.new _ _ _
  have HW10 := Lib.hid hw
  obtain ⟨g9, hg⟩ : ∃ g, w9.heap.size = g := ⟨_, rfl⟩
  rw [hg] at P
  have HG10 := Lib.hid hg
  clear hw hg
  have B10 := Lib.hid (B9.out.trans (hb.mono B9.out.size))
  have K10 := Lib.hid (K9.out.later hb)
  have F10 := Lib.hid (F9.out.later hb)
  have L10 := Lib.hid (L9.out.later hb)
  have X10 := Lib.hid (X9.out.below hb)
  have Y10 := Lib.hid (Y9.out.below hb)
  have Q10 := Lib.hid (Q9.out.below hb)
  clear B9 K9 F9 L9 X9 Y9 Q9 hb
  have M10 := P
  clear P
  go_wp2_with fail
  rw [show w9.alloc (.cells #[.int .i64 rk, .int .i64 rd, .int .i64 rn, .int .i64 rq, .int .i64 rs, .slice A9 rl e9] 26) = w10 from HW10.out, HG10.out]
  clear HW10 HG10
  refine (CPF.out _ L10.out).mono ?_
  rintro e w11 ⟨⟨A11, e11, rfl, h11⟩, hb⟩
  have B11 := Lib.hid (B10.out.trans (hb.mono B10.out.size))
  have K11 := Lib.hid (K10.out.later hb)
  have F11 := Lib.hid (F10.out.later hb)
  have L11 := Lib.hid (L10.out.later hb)
  have X11 := Lib.hid (X10.out.below hb)
  have Y11 := Lib.hid (Y10.out.below hb)
  have Q11 := Lib.hid (Q10.out.below hb)
  have M11 := Lib.hid (M10.out.later hb)
  clear B10 K10 F10 L10 X10 Y10 Q10 M10 hb
  have R11 := Lib.hid h11
  clear h11
  obtain ⟨w12, hw⟩ : ∃ W, w11.alloc (.cells #[.slice A11 fl e11, .int .i64 fb] 29) = W := ⟨_, rfl⟩
  have hb : Below w11.heap.size w11 w12 := by rw [← hw]; exact below1 _ _
  have P : Hid (Bk w12 w11.heap.size 29 #[.slice A11 fl e11, .int .i64 fb]) := by show Bk _ _ _ _; rw [← hw]; exact Bk.new _ _ _
  have HW12 := Lib.hid hw
  obtain ⟨g11, hg⟩ : ∃ g, w11.heap.size = g := ⟨_, rfl⟩
  rw [hg] at P
  have HG12 := Lib.hid hg
  clear hw hg
  have B12 := Lib.hid (B11.out.trans (hb.mono B11.out.size))
  have K12 := Lib.hid (K11.out.later hb)
  have F12 := Lib.hid (F11.out.later hb)
  have L12 := Lib.hid (L11.out.later hb)
  have X12 := Lib.hid (X11.out.below hb)
  have Y12 := Lib.hid (Y11.out.below hb)
  have Q12 := Lib.hid (Q11.out.below hb)
  have M12 := Lib.hid (M11.out.later hb)
  have R12 := Lib.hid (R11.out.below hb)
  clear B11 K11 F11 L11 X11 Y11 Q11 M11 R11 hb
  have O12 := P
  clear P
  go_wp2_with fail
  rw [show w11.alloc (.cells #[.slice A11 fl e11, .int .i64 fb] 29) = w12 from HW12.out, HG12.out]
  clear HW12 HG12
  refine (CQR.out _).mono ?_
  rintro e w13 ⟨⟨A13, e13, rfl, h13⟩, hb⟩
  have B13 := Lib.hid (B12.out.trans (hb.mono B12.out.size))
  have K13 := Lib.hid (K12.out.later hb)
  have F13 := Lib.hid (F12.out.later hb)
  have L13 := Lib.hid (L12.out.later hb)
  have X13 := Lib.hid (X12.out.below hb)
  have Y13 := Lib.hid (Y12.out.below hb)
  have Q13 := Lib.hid (Q12.out.below hb)
  have M13 := Lib.hid (M12.out.later hb)
  have R13 := Lib.hid (R12.out.below hb)
  have O13 := Lib.hid (O12.out.later hb)
  clear B12 K12 F12 L12 X12 Y12 Q12 M12 R12 O12 hb
  have T13 := Lib.hid h13
  clear h13
  obtain ⟨w14, hw⟩ : ∃ W, w13.alloc (.cells #[.int .i64 rk, .int .i64 rd, .int .i64 rn, .int .i64 rq, .int .i64 rs, .slice A13 rl e13] 26) = W := ⟨_, rfl⟩
  have hb : Below w13.heap.size w13 w14 := by rw [← hw]; exact below1 _ _
  have P : Hid (Bk w14 w13.heap.size 26 #[.int .i64 rk, .int .i64 rd, .int .i64 rn, .int .i64 rq, .int .i64 rs, .slice A13 rl e13]) := by show Bk _ _ _ _; rw [← hw]; exact Bk.new _ _ _
  have HW14 := Lib.hid hw
  obtain ⟨g13, hg⟩ : ∃ g, w13.heap.size = g := ⟨_, rfl⟩
  rw [hg] at P
  have HG14 := Lib.hid hg
  clear hw hg
  have B14 := Lib.hid (B13.out.trans (hb.mono B13.out.size))
  have K14 := Lib.hid (K13.out.later hb)
  have F14 := Lib.hid (F13.out.later hb)
  have L14 := Lib.hid (L13.out.later hb)
  have X14 := Lib.hid (X13.out.below hb)
  have Y14 := Lib.hid (Y13.out.below hb)
  have Q14 := Lib.hid (Q13.out.below hb)
  have M14 := Lib.hid (M13.out.later hb)
  have R14 := Lib.hid (R13.out.below hb)
  have O14 := Lib.hid (O13.out.later hb)
  have T14 := Lib.hid (T13.out.below hb)
  clear B13 K13 F13 L13 X13 Y13 Q13 M13 R13 O13 T13 hb
  have J14 := P
  clear P
  go_wp2_with fail
  rw [show w13.alloc (.cells #[.int .i64 rk, .int .i64 rd, .int .i64 rn, .int .i64 rq, .int .i64 rs, .slice A13 rl e13] 26) = w14 from HW14.out, HG14.out]
  clear HW14 HG14
  refine (CQF.out _).mono ?_
  rintro e w15 ⟨⟨A15, e15, rfl, h15⟩, hb⟩
  have B15 := Lib.hid (B14.out.trans (hb.mono B14.out.size))
  have K15 := Lib.hid (K14.out.later hb)
  have F15 := Lib.hid (F14.out.later hb)
  have L15 := Lib.hid (L14.out.later hb)
  have X15 := Lib.hid (X14.out.below hb)
  have Y15 := Lib.hid (Y14.out.below hb)
  have Q15 := Lib.hid (Q14.out.below hb)
  have M15 := Lib.hid (M14.out.later hb)
  have R15 := Lib.hid (R14.out.below hb)
  have O15 := Lib.hid (O14.out.later hb)
  have T15 := Lib.hid (T14.out.below hb)
  have J15 := Lib.hid (J14.out.later hb)
  clear B14 K14 F14 L14 X14 Y14 Q14 M14 R14 O14 T14 J14 hb
  have V15 := Lib.hid h15
  clear h15
  obtain ⟨w16, hw⟩ : ∃ W, w15.alloc (.cells #[.slice A15 fl e15, .int .i64 fb] 29) = W := ⟨_, rfl⟩
  have hb : Below w15.heap.size w15 w16 := by rw [← hw]; exact below1 _ _
  have P : Hid (Bk w16 w15.heap.size 29 #[.slice A15 fl e15, .int .i64 fb]) := by show Bk _ _ _ _; rw [← hw]; exact Bk.new _ _ _
  have HW16 := Lib.hid hw
  obtain ⟨g15, hg⟩ : ∃ g, w15.heap.size = g := ⟨_, rfl⟩
  rw [hg] at P
  have HG16 := Lib.hid hg
  clear hw hg
  have B16 := Lib.hid (B15.out.trans (hb.mono B15.out.size))
  have K16 := Lib.hid (K15.out.later hb)
  have F16 := Lib.hid (F15.out.later hb)
  have L16 := Lib.hid (L15.out.later hb)
  have X16 := Lib.hid (X15.out.below hb)
  have Y16 := Lib.hid (Y15.out.below hb)
  have Q16 := Lib.hid (Q15.out.below hb)
  have M16 := Lib.hid (M15.out.later hb)
  have R16 := Lib.hid (R15.out.below hb)
  have O16 := Lib.hid (O15.out.later hb)
  have T16 := Lib.hid (T15.out.below hb)
  have J16 := Lib.hid (J15.out.later hb)
  have V16 := Lib.hid (V15.out.below hb)
  clear B15 K15 F15 L15 X15 Y15 Q15 M15 R15 O15 T15 J15 V15 hb
  have I16 := P
  clear P
  obtain ⟨cc0, cc1, cc2, cc3, cc4, cc5⟩ := bk6 K16.out
  obtain ⟨f0, f1⟩ := bkf2 F16.out
  go_upto_region 10 with fail
  rw [show w15.alloc (.cells #[.slice A15 fl e15, .int .i64 fb] 29) = w16 from HW16.out, HG16.out]
  clear HW16 HG16
  go_wp2_with fail
  refine (CGR.out _ X16.out).mono ?_
  rintro e w17 ⟨rfl, hb⟩
  have B17 := Lib.hid (B16.out.trans (hb.mono B16.out.size))
  have K17 := Lib.hid (K16.out.later hb)
  have F17 := Lib.hid (F16.out.later hb)
  have L17 := Lib.hid (L16.out.later hb)
  have X17 := Lib.hid (X16.out.below hb)
  have Y17 := Lib.hid (Y16.out.below hb)
  have Q17 := Lib.hid (Q16.out.below hb)
  have M17 := Lib.hid (M16.out.later hb)
  have R17 := Lib.hid (R16.out.below hb)
  have O17 := Lib.hid (O16.out.later hb)
  have T17 := Lib.hid (T16.out.below hb)
  have J17 := Lib.hid (J16.out.later hb)
  have V17 := Lib.hid (V16.out.below hb)
  have I17 := Lib.hid (I16.out.later hb)
  clear B16 K16 F16 L16 X16 Y16 Q16 M16 R16 O16 T16 J16 V16 I16 hb
  clear cc0 cc1 cc2 cc3 cc4 cc5 f0 f1
  obtain ⟨cc0, cc1, cc2, cc3, cc4, cc5⟩ := bk6 K17.out
  obtain ⟨f0, f1⟩ := bkf2 F17.out
  go_wp2_with fail
  refine (CGF.out _ Y17.out).mono ?_
  rintro e w18 ⟨rfl, hb⟩
  have B18 := Lib.hid (B17.out.trans (hb.mono B17.out.size))
  have K18 := Lib.hid (K17.out.later hb)
  have F18 := Lib.hid (F17.out.later hb)
  have L18 := Lib.hid (L17.out.later hb)
  have X18 := Lib.hid (X17.out.below hb)
  have Y18 := Lib.hid (Y17.out.below hb)
  have Q18 := Lib.hid (Q17.out.below hb)
  have M18 := Lib.hid (M17.out.later hb)
  have R18 := Lib.hid (R17.out.below hb)
  have O18 := Lib.hid (O17.out.later hb)
  have T18 := Lib.hid (T17.out.below hb)
  have J18 := Lib.hid (J17.out.later hb)
  have V18 := Lib.hid (V17.out.below hb)
  have I18 := Lib.hid (I17.out.later hb)
  clear B17 K17 F17 L17 X17 Y17 Q17 M17 R17 O17 T17 J17 V17 I17 hb
  clear cc0 cc1 cc2 cc3 cc4 cc5 f0 f1
  obtain ⟨cc0, cc1, cc2, cc3, cc4, cc5⟩ := bk6 M18.out
  obtain ⟨j0, j1, j2, j3, j4, j5⟩ := bk6 J18.out
  go_wp2_with fail
  refine (CSR.out _ _ _ _ _ Q18.out T18.out).mono ?_
  rintro e w19 ⟨rfl, hb⟩
  have B19 := Lib.hid (B18.out.trans (hb.mono B18.out.size))
  have K19 := Lib.hid (K18.out.later hb)
  have F19 := Lib.hid (F18.out.later hb)
  have L19 := Lib.hid (L18.out.later hb)
  have X19 := Lib.hid (X18.out.below hb)
  have Y19 := Lib.hid (Y18.out.below hb)
  have Q19 := Lib.hid (Q18.out.below hb)
  have M19 := Lib.hid (M18.out.later hb)
  have R19 := Lib.hid (R18.out.below hb)
  have O19 := Lib.hid (O18.out.later hb)
  have T19 := Lib.hid (T18.out.below hb)
  have J19 := Lib.hid (J18.out.later hb)
  have V19 := Lib.hid (V18.out.below hb)
  have I19 := Lib.hid (I18.out.later hb)
  clear B18 K18 F18 L18 X18 Y18 Q18 M18 R18 O18 T18 J18 V18 I18 hb
  clear cc0 cc1 cc2 cc3 cc4 cc5
  clear j0 j1 j2 j3 j4 j5
  obtain ⟨cc0, cc1⟩ := bkf2 O19.out
  obtain ⟨j0, j1⟩ := bkf2 I19.out
  go_wp2_with fail
  refine (CSF.out _ _ _ _ _ R19.out V19.out).mono ?_
  rintro e w20 ⟨rfl, hb⟩
  have B20 := Lib.hid (B19.out.trans (hb.mono B19.out.size))
  have K20 := Lib.hid (K19.out.later hb)
  have F20 := Lib.hid (F19.out.later hb)
  have L20 := Lib.hid (L19.out.later hb)
  have X20 := Lib.hid (X19.out.below hb)
  have Y20 := Lib.hid (Y19.out.below hb)
  have Q20 := Lib.hid (Q19.out.below hb)
  have M20 := Lib.hid (M19.out.later hb)
  have R20 := Lib.hid (R19.out.below hb)
  have O20 := Lib.hid (O19.out.later hb)
  have T20 := Lib.hid (T19.out.below hb)
  have J20 := Lib.hid (J19.out.later hb)
  have V20 := Lib.hid (V19.out.below hb)
  have I20 := Lib.hid (I19.out.later hb)
  clear B19 K19 F19 L19 X19 Y19 Q19 M19 R19 O19 T19 J19 V19 I19 hb
  clear cc0 cc1
  clear j0 j1
  clear Q20 M20 R20 O20 T20 J20 V20 I20
  obtain ⟨cc0, cc1, cc2, cc3, cc4, cc5⟩ := bk6 K20.out
  obtain ⟨f0, f1⟩ := bkf2 F20.out
  go_wp2_with fail
  refine (CDE.out _ X20.out).mono ?_
  rintro e w21 ⟨rfl, hb⟩
  have B21 := Lib.hid (B20.out.trans (hb.mono B20.out.size))
  have K21 := Lib.hid (K20.out.later hb)
  have F21 := Lib.hid (F20.out.later hb)
  have L21 := Lib.hid (L20.out.later hb)
  have X21 := Lib.hid (X20.out.below hb)
  have Y21 := Lib.hid (Y20.out.below hb)
  clear B20 K20 F20 L20 X20 Y20 hb
  clear cc0 cc1 cc2 cc3 cc4 cc5 f0 f1
  by_cases hD0 : D = 0
  · have eD : (D == 0) = true := by simpa using hD0
    have CA := Lib.hid (CBR.out hD0)
    clear CBR hD0
    go_wp2_with fail
    refine (CA.out _ L21.out).mono ?_
    rintro e w22 ⟨⟨A17, e17, rfl, h17⟩, hb⟩
    have B22 := Lib.hid (B21.out.trans (hb.mono B21.out.size))
    have K22 := Lib.hid (K21.out.later hb)
    have F22 := Lib.hid (F21.out.later hb)
    have L22 := Lib.hid (L21.out.later hb)
    have X22 := Lib.hid (X21.out.below hb)
    have Y22 := Lib.hid (Y21.out.below hb)
    clear B21 K21 F21 L21 X21 Y21 hb
    have Q22 := Lib.hid h17
    clear h17
    obtain ⟨w23, hw⟩ : ∃ W, w22.alloc (.cells #[.int .i64 k, .int .i64 d, .int .i64 nu, .int .i64 q, .int .i64 s, .slice A17 m e17] 26) = W := ⟨_, rfl⟩
    have hb : Below w22.heap.size w22 w23 := by rw [← hw]; exact below1 _ _
    have P : Hid (Bk w23 w22.heap.size 26 #[.int .i64 k, .int .i64 d, .int .i64 nu, .int .i64 q, .int .i64 s, .slice A17 m e17]) := by show Bk _ _ _ _; rw [← hw]; exact Bk.new _ _ _
    have HW23 := Lib.hid hw
    obtain ⟨g17, hg⟩ : ∃ g, w22.heap.size = g := ⟨_, rfl⟩
    rw [hg] at P
    have HG23 := Lib.hid hg
    clear hw hg
    have B23 := Lib.hid (B22.out.trans (hb.mono B22.out.size))
    have K23 := Lib.hid (K22.out.later hb)
    have F23 := Lib.hid (F22.out.later hb)
    have L23 := Lib.hid (L22.out.later hb)
    have X23 := Lib.hid (X22.out.below hb)
    have Y23 := Lib.hid (Y22.out.below hb)
    have Q23 := Lib.hid (Q22.out.below hb)
    clear B22 K22 F22 L22 X22 Y22 Q22 hb
    have M23 := P
    clear P
    obtain ⟨cc0, cc1, cc2, cc3, cc4, cc5⟩ := bk6 K23.out
    obtain ⟨j0, j1, j2, j3, j4, j5⟩ := bk6 M23.out
    go_upto_region 14 with fail
    rw [show w22.alloc (.cells #[.int .i64 k, .int .i64 d, .int .i64 nu, .int .i64 q, .int .i64 s, .slice A17 m e17] 26) = w23 from HW23.out, HG23.out]
    clear HW23 HG23
    go_wp2_with fail
    refine (CTR.out _ _ _ Q23.out X23.out).mono ?_
    rintro e w24 ⟨rfl, hb⟩
    have B24 := Lib.hid (B23.out.trans (hb.mono B23.out.size))
    have K24 := Lib.hid (K23.out.later hb)
    have F24 := Lib.hid (F23.out.later hb)
    have L24 := Lib.hid (L23.out.later hb)
    have X24 := Lib.hid (X23.out.below hb)
    have Y24 := Lib.hid (Y23.out.below hb)
    have Q24 := Lib.hid (Q23.out.below hb)
    have M24 := Lib.hid (M23.out.later hb)
    clear B23 K23 F23 L23 X23 Y23 Q23 M23 hb
    clear cc0 cc1 cc2 cc3 cc4 cc5
    clear j0 j1 j2 j3 j4 j5
    clear Q24 M24
    obtain ⟨f0, f1⟩ := bkf2 F24.out
    go_wp2_with fail
    refine (CEE.out _ Y24.out).mono ?_
    rintro e w25 ⟨rfl, hb⟩
    have B25 := Lib.hid (B24.out.trans (hb.mono B24.out.size))
    have K25 := Lib.hid (K24.out.later hb)
    have F25 := Lib.hid (F24.out.later hb)
    have L25 := Lib.hid (L24.out.later hb)
    have X25 := Lib.hid (X24.out.below hb)
    have Y25 := Lib.hid (Y24.out.below hb)
    clear B24 K24 F24 L24 X24 Y24 hb
    clear f0 f1
    by_cases hE0 : E = 0
    · have eE : (E != 0) = false := by simpa using hE0
      have CB := Lib.hid (CBF.out hE0)
      clear CBF hE0
      go_wp2_with fail
      refine (CB.out _ L25.out).mono ?_
      rintro e w26 ⟨⟨A19, e19, rfl, h19⟩, hb⟩
      have B26 := Lib.hid (B25.out.trans (hb.mono B25.out.size))
      have K26 := Lib.hid (K25.out.later hb)
      have F26 := Lib.hid (F25.out.later hb)
      have L26 := Lib.hid (L25.out.later hb)
      have X26 := Lib.hid (X25.out.below hb)
      have Y26 := Lib.hid (Y25.out.below hb)
      clear B25 K25 F25 L25 X25 Y25 hb
      have Z26 := Lib.hid h19
      clear h19
      obtain ⟨w27, hw⟩ : ∃ W, w26.alloc (.cells #[.slice A19 n e19, .int .i64 b] 29) = W := ⟨_, rfl⟩
      have hb : Below w26.heap.size w26 w27 := by rw [← hw]; exact below1 _ _
      have P : Hid (Bk w27 w26.heap.size 29 #[.slice A19 n e19, .int .i64 b]) := by show Bk _ _ _ _; rw [← hw]; exact Bk.new _ _ _
      have HW27 := Lib.hid hw
      obtain ⟨g19, hg⟩ : ∃ g, w26.heap.size = g := ⟨_, rfl⟩
      rw [hg] at P
      have HG27 := Lib.hid hg
      clear hw hg
      have B27 := Lib.hid (B26.out.trans (hb.mono B26.out.size))
      have K27 := Lib.hid (K26.out.later hb)
      have F27 := Lib.hid (F26.out.later hb)
      have L27 := Lib.hid (L26.out.later hb)
      have X27 := Lib.hid (X26.out.below hb)
      have Y27 := Lib.hid (Y26.out.below hb)
      have Z27 := Lib.hid (Z26.out.below hb)
      clear B26 K26 F26 L26 X26 Y26 Z26 hb
      have G27 := P
      clear P
      obtain ⟨f0, f1⟩ := bkf2 F27.out
      obtain ⟨cc0, cc1⟩ := bkf2 G27.out
      go_upto_region 19 with fail
      rw [show w26.alloc (.cells #[.slice A19 n e19, .int .i64 b] 29) = w27 from HW27.out, HG27.out]
      clear HW27 HG27
      go_wp2_with fail
      refine (CTF.out _ _ _ Z27.out Y27.out).mono ?_
      rintro e w28 ⟨rfl, hb⟩
      have B28 := Lib.hid (B27.out.trans (hb.mono B27.out.size))
      have K28 := Lib.hid (K27.out.later hb)
      have F28 := Lib.hid (F27.out.later hb)
      have L28 := Lib.hid (L27.out.later hb)
      have X28 := Lib.hid (X27.out.below hb)
      have Y28 := Lib.hid (Y27.out.below hb)
      have Z28 := Lib.hid (Z27.out.below hb)
      have G28 := Lib.hid (G27.out.later hb)
      clear B27 K27 F27 L27 X27 Y27 Z27 G27 hb
      go_wp2
      go_ret
      exact ⟨rfl, B28.out⟩
    · have eE : (E != 0) = true := by simpa using hE0
      clear CBF hE0
      go_wp2
      go_ret
      exact ⟨rfl, B25.out⟩
  · have eD : (D == 0) = false := by simpa using hD0
    clear CBR hD0
    obtain ⟨f0, f1⟩ := bkf2 F21.out
    go_wp2_with fail
    refine (CEE.out _ Y21.out).mono ?_
    rintro e w22 ⟨rfl, hb⟩
    have B22 := Lib.hid (B21.out.trans (hb.mono B21.out.size))
    have K22 := Lib.hid (K21.out.later hb)
    have F22 := Lib.hid (F21.out.later hb)
    have L22 := Lib.hid (L21.out.later hb)
    have X22 := Lib.hid (X21.out.below hb)
    have Y22 := Lib.hid (Y21.out.below hb)
    clear B21 K21 F21 L21 X21 Y21 hb
    clear f0 f1
    by_cases hE0 : E = 0
    · have eE : (E != 0) = false := by simpa using hE0
      have CB := Lib.hid (CBF.out hE0)
      clear CBF hE0
      go_wp2_with fail
      refine (CB.out _ L22.out).mono ?_
      rintro e w23 ⟨⟨A19, e19, rfl, h19⟩, hb⟩
      have B23 := Lib.hid (B22.out.trans (hb.mono B22.out.size))
      have K23 := Lib.hid (K22.out.later hb)
      have F23 := Lib.hid (F22.out.later hb)
      have L23 := Lib.hid (L22.out.later hb)
      have X23 := Lib.hid (X22.out.below hb)
      have Y23 := Lib.hid (Y22.out.below hb)
      clear B22 K22 F22 L22 X22 Y22 hb
      have Z23 := Lib.hid h19
      clear h19
      obtain ⟨w24, hw⟩ : ∃ W, w23.alloc (.cells #[.slice A19 n e19, .int .i64 b] 29) = W := ⟨_, rfl⟩
      have hb : Below w23.heap.size w23 w24 := by rw [← hw]; exact below1 _ _
      have P : Hid (Bk w24 w23.heap.size 29 #[.slice A19 n e19, .int .i64 b]) := by show Bk _ _ _ _; rw [← hw]; exact Bk.new _ _ _
      have HW24 := Lib.hid hw
      obtain ⟨g19, hg⟩ : ∃ g, w23.heap.size = g := ⟨_, rfl⟩
      rw [hg] at P
      have HG24 := Lib.hid hg
      clear hw hg
      have B24 := Lib.hid (B23.out.trans (hb.mono B23.out.size))
      have K24 := Lib.hid (K23.out.later hb)
      have F24 := Lib.hid (F23.out.later hb)
      have L24 := Lib.hid (L23.out.later hb)
      have X24 := Lib.hid (X23.out.below hb)
      have Y24 := Lib.hid (Y23.out.below hb)
      have Z24 := Lib.hid (Z23.out.below hb)
      clear B23 K23 F23 L23 X23 Y23 Z23 hb
      have G24 := P
      clear P
      obtain ⟨f0, f1⟩ := bkf2 F24.out
      obtain ⟨cc0, cc1⟩ := bkf2 G24.out
      go_upto_region 19 with fail
      rw [show w23.alloc (.cells #[.slice A19 n e19, .int .i64 b] 29) = w24 from HW24.out, HG24.out]
      clear HW24 HG24
      go_wp2_with fail
      refine (CTF.out _ _ _ Z24.out Y24.out).mono ?_
      rintro e w25 ⟨rfl, hb⟩
      have B25 := Lib.hid (B24.out.trans (hb.mono B24.out.size))
      have K25 := Lib.hid (K24.out.later hb)
      have F25 := Lib.hid (F24.out.later hb)
      have L25 := Lib.hid (L24.out.later hb)
      have X25 := Lib.hid (X24.out.below hb)
      have Y25 := Lib.hid (Y24.out.below hb)
      have Z25 := Lib.hid (Z24.out.below hb)
      have G25 := Lib.hid (G24.out.later hb)
      clear B24 K24 F24 L24 X24 Y24 Z24 G24 hb
      go_wp2
      go_ret
      exact ⟨rfl, B25.out⟩
    · have eE : (E != 0) = true := by simpa using hE0
      clear CBF hE0
      go_wp2
      go_ret
      exact ⟨rfl, B22.out⟩
theorem rs_any (k d nu q s : Int) (A : Option Addr) (m c : Nat) (ns : List (Int × Int)) (B : Option Addr) (n c2 : Nat) (cs : List Int) (b : Int) (S : ByteArray) (w : World) (hl : LaidG w) (hr : RdP w A m ns) (hf : RdI w B n cs) (hA : A = none → m = 0 ∧ c = 0) (hB : B = none → n = 0 ∧ c2 = 0) (hx64 : I64N ns) (hd64 : I64 [d, nu, q]) (hd2 : I64 [d, s]) (hc64 : I64 cs) (hb64 : -9223372036854775808 ≤ b ∧ b ≤ 9223372036854775807) :
    Calls Tryz.prog 3 #[.agg #[.int .i64 k, .int .i64 d, .int .i64 nu, .int .i64 q, .int .i64 s, .slice A m c], .agg #[.slice B n c2, .int .i64 b], .string S] w fun e w' => e = .returned (.bool true) ∧ Below w.heap.size w w' := by
  by_cases hm : m ≤ 22
  · by_cases hn : n ≤ 10
    · by_cases hs : S.size ≤ 600
      · exact rs_main k d nu q s A m c ns B n c2 cs b S w hl hr hf hA hB hm hn hs hx64 hd64 hd2 hc64 hb64
      · exact rs_long k d nu q s A m c ns B n c2 cs b S w hm hn (by omega)
    · exact rs_taps k d nu q s A m c ns B n c2 cs b S w hm hn
  · exact rs_far k d nu q s A m c ns B n c2 cs b S w hm
end Go.Proofs.YtjjflbnopphciacGreatDoor

