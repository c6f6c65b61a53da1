import Derived.Test.YtepcciodhppbnaaE22
import Derived.Test.YtepcciodhppbnaaS7
import Derived.Test.YtepcciodhppbnaaE3

namespace Go.Proofs.Ytepcciodhppbnaa
open Go.RowKit

def sg : List Int := [0, 10, 20, 40]
def cv : List (Int × Int) := [(0, 0), (2, 20), (3, 40)]
def wn : List Int := [0, 5, 10, 15, 20, 25, 30, 35, 40]
theorem v_val : valN 3 sg 96 = 22609920 ∧ valD 3 sg 96 = 1572864 ∧ valE 3 sg 96 = 0 := by decide +kernel
theorem v_sig : sigE sg = 0 := by decide +kernel
theorem v_rm : rmE 5 cv = 0 := by decide +kernel
theorem v_res : resOut (outF 1 sg) (posOut (opR1 5 cv) (64 * (((4 : Nat) : Int) - 1))) = (wn, 0) := by decide +kernel
theorem v_max : frN (mxR 3 64) 402653184 = 3 ∧ frD (mxR 3 64) 402653184 = 128 := by decide +kernel
theorem v_stb : stbN 1 0 2 100 = 200 ∧ stbE 1 0 2 100 = 0 := by decide +kernel
theorem v_pos0 (k : Nat) : 0 ≤ (opR1 5 cv k).1 := by
  by_cases hk : k ≤ 8
  · rcases (by omega : k = 0 ∨ k = 1 ∨ k = 2 ∨ k = 3 ∨ k = 4 ∨ k = 5 ∨ k = 6 ∨ k = 7 ∨ k = 8) with rfl | rfl | rfl | rfl | rfl | rfl | rfl | rfl | rfl <;> decide +kernel
  · have h : findP ((cv.getD 0 (0, 0)).2 + (k : Int) * 5) cv 0 (cv.length - 1) = none := by
      refine findP_none fun x _ hx => ?_
      simp [cv] at hx
      rcases (by omega : x = 0 ∨ x = 1) with rfl | rfl
      · simp [holdsT, cv]; omega
      · simp [holdsT, cv]; omega
    unfold opR1 posR
    rw [h]
    split <;> simp
theorem RdN.heap {w W : World} {A : Option Addr} {n : Nat} {ns : List (Int × Int)} (h : RdN w A n ns) (h1 : ∀ g, g < w.heap.size → W.heap[g]? = w.heap[g]?) (h2 : w.heap.size ≤ W.heap.size) : RdN W A n ns := by
  refine ⟨h.1, fun h0 => ?_⟩
  obtain ⟨g, e, hlt, hc⟩ := h.2 h0
  have hb : Below w.heap.size w { w with heap := W.heap } := ⟨rfl, rfl, rfl, h2, h1⟩
  exact ⟨g, e, Nat.lt_of_lt_of_le hlt h2, fun j hj => ⟨(hb.cell (p := ⟨g, j * 2, none⟩) hlt).trans (hc j hj).1, (hb.cell (p := ⟨g, j * 2 + 1, none⟩) hlt).trans (hc j hj).2⟩⟩
set_option maxRecDepth 100000 in
theorem Signal_any (w : World) : Calls Try.prog 58 #[] w fun e w' => (∃ B, e = .returned (.slice (some ⟨B, 0, none⟩) 4 4) ∧ RdI w' (some ⟨B, 0, none⟩) 4 sg) ∧ Below w.heap.size w w' := by
  go_enter Try.func58, Try.ntmps58
  go_wp2
  go_ret
  exact ⟨⟨w.heap.size, rfl, lit4 _ _ _ _ _ _ (by simp [go_sem]) (by simp [go_sem]) (by simp [go_sem]) (by simp [go_sem])⟩, below1 _ _⟩
set_option maxRecDepth 100000 in
theorem Curve_any (w : World) : Calls Try.prog 59 #[] w fun e w' => (∃ B, e = .returned (.agg #[.slice (some ⟨B, 0, none⟩) 3 3]) ∧ RdN w' (some ⟨B, 0, none⟩) 3 cv) ∧ Below w.heap.size w w' := by
  go_enter Try.func59, Try.ntmps59
  go_wp2
  refine bodyPost_ret (v := .agg #[.slice (some ⟨w.heap.size + 1, 0, none⟩) 3 3]) (by simp [results, Try.results59, go_sem]) rfl ⟨⟨_, rfl, rfl, fun _ => ⟨_, rfl, by simp, fun j hj => ?_⟩⟩, by go_grown⟩
  rcases (by omega : j = 0 ∨ j = 1 ∨ j = 2) with rfl | rfl | rfl <;> exact ⟨by simp [go_sem, cv], by simp [go_sem, cv]⟩
theorem ex_value (B : Nat) (w : World) (h : RdI w (some ⟨B, 0, none⟩) 4 sg) : Calls Try.prog 57 #[.int .i64 3, .slice (some ⟨B, 0, none⟩) 4 4, .int .i64 96] w fun e w' => e = .returned (.tuple #[.int .i64 22609920, .int .i64 1572864, .int .i64 0]) ∧ Below w.heap.size w w' := by
  have := ValueAt_any 3 _ 4 4 sg 96 w h (by omega)
  rwa [v_val.1, v_val.2.1, v_val.2.2] at this
theorem ex_map (B C : Nat) (w : World) (h : RdI w (some ⟨B, 0, none⟩) 4 sg) (hc : RdN w (some ⟨C, 0, none⟩) 3 cv) :
    Calls Try.prog 22 #[.agg #[.int .i64 1, .int .i64 1, .int .i64 0, .int .i64 0, .int .i64 5, .slice (some ⟨C, 0, none⟩) 3 3], .slice (some ⟨B, 0, none⟩) 4 4] w fun e w' => (∃ A c, e = .returned (.tuple #[.slice A 9 c, .int .i64 0]) ∧ RdI w' A 9 wn) ∧ Below w.heap.size w w' := by
  refine (Resampled1_ok 1 0 0 5 (some ⟨C, 0, none⟩) 3 3 (some ⟨B, 0, none⟩) 4 4 sg (opR1 5 cv) w h v_sig v_pos0 ?_ ?_).mono ?_
  · intro W hb
    have := CheckRules11_any 5 (some ⟨C, 0, none⟩) 3 3 cv W (hc.below hb) (by omega)
    rwa [v_rm] at this
  · intro k W hk h1 h2
    exact outPos1_any 1 5 (some ⟨C, 0, none⟩) 3 3 cv k W (hc.heap h1 h2) (by omega) (by omega) (by omega) (by decide)
  · rintro e w' ⟨⟨v, rfl, ho⟩, hb⟩
    rw [v_res]
    rw [v_res] at ho
    obtain ⟨A, c, rfl, _, hr⟩ := rd_of_own ho
    exact ⟨⟨A, c, rfl, hr⟩, hb⟩
theorem ex_max (w : World) : Calls Try.prog 60 #[.int .i64 3] w fun e w' => e = .returned (.tuple #[.agg #[.int .i64 3, .int .i64 128], .int .i64 0]) ∧ Below w.heap.size w w' := by
  have := MaximumRemainder3_any w
  rwa [v_max.1, v_max.2] at this
theorem ex_stb (w : World) : Calls Try.prog 61 #[.agg #[.int .i64 1, .int .i64 0, .int .i64 2], .int .i64 100] w fun e w' => e = .returned (.tuple #[.int .i64 200, .int .i64 0]) ∧ Below w.heap.size w w' := by
  have := StableBound_any 1 0 2 100 w
  rwa [v_stb.1, v_stb.2] at this
set_option maxRecDepth 100000 in
set_option maxHeartbeats 2000000 in
theorem awake_any (w : World) : Calls Try.prog 12 #[] w fun e w' => e = .returned (.bool true) ∧ Below w.heap.size w w' := by
  go_enter Try.func12, Try.ntmps12
  go_wp2_with fail
  refine (Signal_any _).mono ?_
  rintro e w1 ⟨⟨B1, rfl, h1⟩, hb1⟩
  have l1 := Lib.hid hb1
  have C1 := Lib.hid (ex_value B1 w1 h1)
  clear hb1 h1
  go_wp2_with fail
  refine C1.out.mono ?_
  rintro e w2 ⟨rfl, hb2⟩
  have l2 := Lib.hid (l1.out.trans (hb2.mono l1.out.size))
  clear hb2 l1 C1
  go_wp2_with fail
  refine (Curve_any _).mono ?_
  rintro e w3 ⟨⟨C3, rfl, h3⟩, hb3⟩
  have l3 := Lib.hid (l2.out.trans (hb3.mono l2.out.size))
  have R3 := Lib.hid h3
  clear hb3 h3 l2
  go_wp2_with fail
  refine (Signal_any _).mono ?_
  rintro e w4 ⟨⟨B4, rfl, h4⟩, hb4⟩
  have l4 := Lib.hid (l3.out.trans (hb4.mono l3.out.size))
  have C4 := Lib.hid (ex_map B4 C3 w4 h4 (R3.out.below hb4))
  clear hb4 h4 R3 l3
  go_wp2_with fail
  refine C4.out.mono ?_
  rintro e w5 ⟨⟨A5, c5, rfl, h5⟩, hb5⟩
  have l5 := Lib.hid (l4.out.trans (hb5.mono l4.out.size))
  have R5 := Lib.hid h5
  clear hb5 h5 C4 l4
  go_wp2_with fail
  refine (ex_max _).mono ?_
  rintro e w6 ⟨rfl, hb6⟩
  have l6 := Lib.hid ((l5.out.trans (hb6.mono l5.out.size)).alloc (l5.out.trans (hb6.mono l5.out.size)).size (.cells #[.int .i64 3, .int .i64 128] 57))
  have R6 := Lib.hid ((R5.out.below hb6).below (below1 w6 (.cells #[.int .i64 3, .int .i64 128] 57)))
  have K6 := Lib.hid (Bk.new w6 57 #[.int .i64 3, .int .i64 128])
  clear hb6 l5 R5
  go_wp2_with fail
  refine (ex_stb _).mono ?_
  rintro e w7 ⟨rfl, hb7⟩
  have l7 := Lib.hid (l6.out.trans (hb7.mono l6.out.size))
  have R7 := Lib.hid (R6.out.below hb7)
  have K7 := Lib.hid (K6.out.later hb7)
  clear hb7 l6 R6 K6
  obtain ⟨g6, hg6⟩ : ∃ g, w6.heap.size = g := ⟨_, rfl⟩
  rw [hg6] at K7 ⊢
  clear hg6
  have lb9 : Below w7.heap.size w7 (w7.alloc (.cells #[.int .i64 0, .int .i64 5, .int .i64 10, .int .i64 15, .int .i64 20, .int .i64 25, .int .i64 30, .int .i64 35, .int .i64 40] 3)) := below1 _ _
  have lit9 : RdI (w7.alloc (.cells #[.int .i64 0, .int .i64 5, .int .i64 10, .int .i64 15, .int .i64 20, .int .i64 25, .int .i64 30, .int .i64 35, .int .i64 40] 3)) (some ⟨w7.heap.size, 0, none⟩) 9 wn := rd_of_bk (xs := wn) (show Bk (w7.alloc (.cells #[.int .i64 0, .int .i64 5, .int .i64 10, .int .i64 15, .int .i64 20, .int .i64 25, .int .i64 30, .int .i64 35, .int .i64 40] 3)) w7.heap.size 3 (iArr wn) from Bk.new _ _ _) rfl
  have CI9 := Lib.hid (ints_any _ _ 9 9 c5 9 wn wn (w7.alloc (.cells #[.int .i64 0, .int .i64 5, .int .i64 10, .int .i64 15, .int .i64 20, .int .i64 25, .int .i64 30, .int .i64 35, .int .i64 40] 3)) (R7.out.below lb9) lit9 (by omega) (by omega))
  have K9 := Lib.hid (K7.out.later lb9)
  have l9 := Lib.hid (l7.out.trans (lb9.mono l7.out.size))
  clear lb9 lit9 R7 K7 l7
  go_wp2_with fail
  refine CI9.out.mono ?_
  rintro e w' ⟨rfl, kk, rfl⟩
  have l10 := Lib.hid (belowDrewN l9.out kk)
  have K10 := Lib.hid (K9.out.drewN kk)
  obtain ⟨w10, hw10⟩ : ∃ W, (w7.alloc (.cells #[.int .i64 0, .int .i64 5, .int .i64 10, .int .i64 15, .int .i64 20, .int .i64 25, .int .i64 30, .int .i64 35, .int .i64 40] 3)).drewN kk = W := ⟨_, rfl⟩
  rw [hw10] at l10 K10 ⊢
  clear hw10 CI9 K9 l9
  obtain ⟨c0, c1, _, _⟩ := bk2 K10.out
  go_wp2
  go_ret
  exact ⟨rfl, l10.out⟩

end Go.Proofs.Ytepcciodhppbnaa
