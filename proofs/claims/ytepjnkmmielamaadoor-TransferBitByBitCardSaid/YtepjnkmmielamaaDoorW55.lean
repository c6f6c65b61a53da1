import Derived.Test.YtepjnkmmielamaaDoorW54
import Derived.Test.YtepjnkmmielamaaDoorW42
import Derived.Test.YtepjnkmmielamaaDoorW22
namespace Go.Proofs.YtepjnkmmielamaaDoor
open Go.RowKit

theorem rd_of_own' {w : World} {base : Nat} {e : TypeId} {v : Value} {n : Nat} {xs : List Int} (h : w.ownsRow base e 1 v n (xs.map (Value.int .i64))) (h0 : 0 < n) :
    ∃ ad c, v = .slice (some ad) n c ∧ n ≤ c ∧ c ≤ 9223372036854775807 ∧ ad.block < w.heap.size ∧ RdI w (some ad) n xs := by
  obtain ⟨A, c, hv, hnc, hr⟩ := rd_of_own h
  obtain ⟨ad, rfl, hlt, _⟩ := hr.2 h0
  refine ⟨ad, c, hv, hnc, ?_, hlt, hr⟩
  rcases h.2 with ⟨h1, _⟩ | ⟨g, cap, cur, h1, _, _, _, hm, _⟩
  · rw [hv] at h1; cases h1
  · rw [hv] at h1; cases h1; unfold maxLen at hm; omega
theorem cutA_zero (A : Option Addr) (c : Nat) : cutA A 0 c = A := by
  unfold cutA
  split
  · rfl
  · cases A
    · rfl
    · simp [Addr.add]
theorem is8_eq (x0 x1 x2 x3 x4 x5 x6 x7 : Int) (ys : Array Value) (h : Is8 ys [x0, x1, x2, x3, x4, x5, x6, x7]) : ys = #[.int .i64 x0, .int .i64 x1, .int .i64 x2, .int .i64 x3, .int .i64 x4, .int .i64 x5, .int .i64 x6, .int .i64 x7] := h.lit

theorem bbb_true (x0 x1 x2 x3 x4 x5 x6 x7 p k : Int) (w : World) (hw : Laid w) (he : rangesE [x0, x1, x2, x3, x4, x5, x6, x7] (-32767) 32767 ≠ 0 ∨ parE p k ≠ 0) :
    Calls Tryd.prog 11 #[.agg #[.int .i64 x0, .int .i64 x1, .int .i64 x2, .int .i64 x3, .int .i64 x4, .int .i64 x5, .int .i64 x6, .int .i64 x7], .int .i64 p, .int .i64 k] w fun e w' => e = .returned (.bool true) ∧ Below w.heap.size w w' := by
  have HW := Lib.hid hw
  have HI := Lib.hid (arrInfoL x0 x1 x2 x3 x4 x5 x6 x7)
  have X0 : Hid (Bk (w.alloc (.cells #[.int .i64 x0, .int .i64 x1, .int .i64 x2, .int .i64 x3, .int .i64 x4, .int .i64 x5, .int .i64 x6, .int .i64 x7] 35)) w.heap.size 35 #[.int .i64 x0, .int .i64 x1, .int .i64 x2, .int .i64 x3, .int .i64 x4, .int .i64 x5, .int .i64 x6, .int .i64 x7]) := Bk.new _ _ _
  have l0 : Hid (Below w.heap.size w (w.alloc (.cells #[.int .i64 x0, .int .i64 x1, .int .i64 x2, .int .i64 x3, .int .i64 x4, .int .i64 x5, .int .i64 x6, .int .i64 x7] 35))) := (Below.refl _ _).alloc (Nat.le_refl _) _
  by_cases h1 : rangesE [x0, x1, x2, x3, x4, x5, x6, x7] (-32767) 32767 = 0
  · have hp := he.resolve_left (fun h => h h1)
    have h2 : parE p k = 2 := by unfold parE at hp ⊢; split at hp <;> simp_all
    have CS : Hid (∀ W, Calls Tryd.prog 48 #[.agg #[.int .i64 x0, .int .i64 x1, .int .i64 x2, .int .i64 x3, .int .i64 x4, .int .i64 x5, .int .i64 x6, .int .i64 x7]] W fun e w' => e = .returned (.int .i64 0) ∧ Below W.heap.size W w') := fun W => by have := samplesErr_any _ _ W (is8_lit x0 x1 x2 x3 x4 x5 x6 x7); rw [h1] at this; exact this
    have CE : Hid (∀ W, Calls Tryd.prog 50 #[.int .i64 p, .int .i64 k] W fun e w' => e = .returned (.int .i64 2) ∧ W = w') := fun W => by have := parametersErr_any p k W; rw [h2] at this; exact this
    clear he hp h2 h1 hw
    go_enter Tryd.func11, Tryd.ntmps11
    go_wp2_with fail
    refine (awake_any _ (HW.out.later l0.out)).mono ?_
    rintro e w2 ⟨rfl, hb2⟩
    have X2 : Hid (Bk w2 w.heap.size 35 #[.int .i64 x0, .int .i64 x1, .int .i64 x2, .int .i64 x3, .int .i64 x4, .int .i64 x5, .int .i64 x6, .int .i64 x7]) := X0.out.below hb2 (by simp)
    have l2 : Hid (Below w.heap.size w w2) := l0.out.trans (hb2.mono (by simp))
    clear hb2 X0 l0
    go_wp2_with (with_reducible refine wpList_load_row rfl 35 (.tmp 3) rfl w.heap.size rfl 35 #[.int .i64 x0, .int .i64 x1, .int .i64 x2, .int .i64 x3, .int .i64 x4, .int .i64 x5, .int .i64 x6, .int .i64 x7] (0, 0) _ X2.out.heap arrUnder rfl HI.out ?_)
    refine (CS.out _).mono ?_
    rintro e w3 ⟨rfl, hb3⟩
    have X3 : Hid (Bk w3 w.heap.size 35 #[.int .i64 x0, .int .i64 x1, .int .i64 x2, .int .i64 x3, .int .i64 x4, .int .i64 x5, .int .i64 x6, .int .i64 x7]) := X2.out.below hb3 X2.out.lt
    have l3 : Hid (Below w.heap.size w w3) := l2.out.trans (hb3.mono l2.out.size)
    clear hb3 X2 l2
    go_wp2_with fail
    refine (CE.out _).mono ?_
    rintro e w' ⟨rfl, rfl⟩
    go_wp2
    go_ret
    exact ⟨rfl, l3.out⟩
  · have h2 := (rangesE_cases [x0, x1, x2, x3, x4, x5, x6, x7] (-32767) 32767).resolve_left h1
    have CS : Hid (∀ W, Calls Tryd.prog 48 #[.agg #[.int .i64 x0, .int .i64 x1, .int .i64 x2, .int .i64 x3, .int .i64 x4, .int .i64 x5, .int .i64 x6, .int .i64 x7]] W fun e w' => e = .returned (.int .i64 2) ∧ Below W.heap.size W w') := fun W => by have := samplesErr_any _ _ W (is8_lit x0 x1 x2 x3 x4 x5 x6 x7); rw [h2] at this; exact this
    clear he h2 h1 hw
    go_enter Tryd.func11, Tryd.ntmps11
    go_wp2_with fail
    refine (awake_any _ (HW.out.later l0.out)).mono ?_
    rintro e w2 ⟨rfl, hb2⟩
    have X2 : Hid (Bk w2 w.heap.size 35 #[.int .i64 x0, .int .i64 x1, .int .i64 x2, .int .i64 x3, .int .i64 x4, .int .i64 x5, .int .i64 x6, .int .i64 x7]) := X0.out.below hb2 (by simp)
    have l2 : Hid (Below w.heap.size w w2) := l0.out.trans (hb2.mono (by simp))
    clear hb2 X0 l0
    go_wp2_with (with_reducible refine wpList_load_row rfl 35 (.tmp 3) rfl w.heap.size rfl 35 #[.int .i64 x0, .int .i64 x1, .int .i64 x2, .int .i64 x3, .int .i64 x4, .int .i64 x5, .int .i64 x6, .int .i64 x7] (0, 0) _ X2.out.heap arrUnder rfl HI.out ?_)
    refine (CS.out _).mono ?_
    rintro e w3 ⟨rfl, hb3⟩
    have X3 : Hid (Bk w3 w.heap.size 35 #[.int .i64 x0, .int .i64 x1, .int .i64 x2, .int .i64 x3, .int .i64 x4, .int .i64 x5, .int .i64 x6, .int .i64 x7]) := X2.out.below hb3 X2.out.lt
    have l3 : Hid (Below w.heap.size w w3) := l2.out.trans (hb3.mono l2.out.size)
    clear hb3 X2 l2
    go_wp2
    go_ret
    exact ⟨rfl, l3.out⟩

set_option maxRecDepth 100000 in
set_option maxHeartbeats 8000000 in
theorem bbb_core (x0 x1 x2 x3 x4 x5 x6 x7 : Int) (p k : Nat) (w : World) (hw : Laid w) (he : rangesE [x0, x1, x2, x3, x4, x5, x6, x7] (-32767) 32767 = 0) (hp3 : p < 3) (hk18 : k < 18) :
    Calls Tryd.prog 11 #[.agg #[.int .i64 x0, .int .i64 x1, .int .i64 x2, .int .i64 x3, .int .i64 x4, .int .i64 x5, .int .i64 x6, .int .i64 x7], .int .i64 p, .int .i64 k] w fun e w' => e = .returned (.bool true) ∧ Below w.heap.size w w' := by
  have HW := Lib.hid hw
  have HBd := bnd_of_rangesE _ he
  have CS : Hid (∀ W, Calls Tryd.prog 48 #[.agg #[.int .i64 x0, .int .i64 x1, .int .i64 x2, .int .i64 x3, .int .i64 x4, .int .i64 x5, .int .i64 x6, .int .i64 x7]] W fun e w' => e = .returned (.int .i64 0) ∧ Below W.heap.size W w') := fun W => by have := samplesErr_any _ _ W (is8_lit x0 x1 x2 x3 x4 x5 x6 x7); rw [he] at this; exact this
  have hE0 : parE (p : Int) k = 0 := by unfold parE inB; simp; omega
  have CE : Hid (∀ W, Calls Tryd.prog 50 #[.int .i64 p, .int .i64 k] W fun e w' => e = .returned (.int .i64 0) ∧ W = w') := fun W => by have := parametersErr_any (p : Int) k W; rw [hE0] at this; exact this
  have CB1 : Hid (∀ W, Laid W → Calls Tryd.prog 46 #[.agg #[.int .i64 x0, .int .i64 x1, .int .i64 x2, .int .i64 x3, .int .i64 x4, .int .i64 x5, .int .i64 x6, .int .i64 x7], .int .i64 p, .int .i64 k] W fun e w' => e = .returned (.tuple #[.int .i64 (bitsF (foldeds [x0, x1, x2, x3, x4, x5, x6, x7] p) k), .int .i64 0]) ∧ Below W.heap.size W w') := fun W h => bitsTail x0 x1 x2 x3 x4 x5 x6 x7 p k W h hp3 hk18 he
  have hgood := shortS_good [x0, x1, x2, x3, x4, x5, x6, x7]
  obtain ⟨P, hP⟩ : ∃ P, (shortS [x0, x1, x2, x3, x4, x5, x6, x7]).1 = P := ⟨_, rfl⟩
  obtain ⟨K, hK⟩ : ∃ K, (shortS [x0, x1, x2, x3, x4, x5, x6, x7]).2.1 = K := ⟨_, rfl⟩
  have hP3 : P < 3 := by rw [← hP]; exact hgood.1
  have hK18 : K < 18 := by rw [← hK]; exact hgood.2.1
  have hpl := packT_length [x0, x1, x2, x3, x4, x5, x6, x7] HBd
  rw [hP, hK] at hpl
  have CB2 : Hid (∀ W, Laid W → Calls Tryd.prog 46 #[.agg #[.int .i64 x0, .int .i64 x1, .int .i64 x2, .int .i64 x3, .int .i64 x4, .int .i64 x5, .int .i64 x6, .int .i64 x7], .int .i64 P, .int .i64 K] W fun e w' => e = .returned (.tuple #[.int .i64 ((packT [x0, x1, x2, x3, x4, x5, x6, x7]).length : Int), .int .i64 0]) ∧ Below W.heap.size W w') := fun W h => by rw [hpl]; exact bitsTail x0 x1 x2 x3 x4 x5 x6 x7 P K W h hP3 hK18 he
  have hleast := packT_least [x0, x1, x2, x3, x4, x5, x6, x7] HBd p k hp3 hk18
  have hbd := packT_bd [x0, x1, x2, x3, x4, x5, x6, x7] HBd
  have h01 := packT_01 [x0, x1, x2, x3, x4, x5, x6, x7]
  have CP0 : ∀ W, Laid W → Calls Tryd.prog 47 #[.agg #[.int .i64 x0, .int .i64 x1, .int .i64 x2, .int .i64 x3, .int .i64 x4, .int .i64 x5, .int .i64 x6, .int .i64 x7]] W fun e w' => ∃ v, e = .returned (.tuple #[v, .int .i64 0]) ∧ w'.ownsRow W.heap.size 3 1 v (packT [x0, x1, x2, x3, x4, x5, x6, x7]).length ((packT [x0, x1, x2, x3, x4, x5, x6, x7]).map (Value.int .i64)) ∧ Below W.heap.size W w' := fun W h => packed_ok _ _ W h (is8_lit x0 x1 x2 x3 x4 x5 x6 x7) he
  have hform : packT [x0, x1, x2, x3, x4, x5, x6, x7] = headB P K ++ codesTo (foldeds [x0, x1, x2, x3, x4, x5, x6, x7] P) K 8 := by rw [packT, packW, hP, hK]
  have hsm := foldeds_small [x0, x1, x2, x3, x4, x5, x6, x7] P HBd
  have hrc := read_codes (foldeds [x0, x1, x2, x3, x4, x5, x6, x7] P) K 8 [] hsm (by rw [foldeds_length]; omega)
  have hcut := read_cut (foldeds [x0, x1, x2, x3, x4, x5, x6, x7] P) K hsm (foldeds_length _ _)
  have hunf := unfT_fold [x0, x1, x2, x3, x4, x5, x6, x7] P 8 rfl (by omega)
  have hx0 : rdXs ((packT [x0, x1, x2, x3, x4, x5, x6, x7]).drop 7) K = foldeds [x0, x1, x2, x3, x4, x5, x6, x7] P := by
    rw [hform, headB_rest]
    simp only [List.append_nil] at hrc
    unfold rdXs
    rw [hrc.2.2, if_pos rfl, hrc.2.1, List.take_of_length_le (by rw [foldeds_length]; omega)]
  have hok0 : rdOk ((packT [x0, x1, x2, x3, x4, x5, x6, x7]).drop 7) K = true := by
    rw [hform, headB_rest]
    simp only [List.append_nil] at hrc
    unfold rdOk
    rw [hrc.2.2, hrc.1]; rfl
  have hdl : (packT [x0, x1, x2, x3, x4, x5, x6, x7]).dropLast = headB P K ++ (codesTo (foldeds [x0, x1, x2, x3, x4, x5, x6, x7] P) K 8).dropLast := by
    rw [hform]
    apply List.dropLast_append_of_ne_nil
    intro hnil
    have := codesTo_length (foldeds [x0, x1, x2, x3, x4, x5, x6, x7] P) K 8 hsm (by rw [foldeds_length]; omega)
    rw [hnil] at this
    have := bitsTo_ge (foldeds [x0, x1, x2, x3, x4, x5, x6, x7] P) K 8 (by rw [foldeds_length]; omega) hsm
    simp at *
    omega
  have hok1 : rdOk ((packT [x0, x1, x2, x3, x4, x5, x6, x7]).dropLast.drop 7) K = false := by
    rw [hdl, headB_rest]
    unfold rdOk
    rw [hcut]; rfl
  have hp2 : numT ((packT [x0, x1, x2, x3, x4, x5, x6, x7]).take 2) = (P : Int) := by rw [hform, headB_two, numT_bitsOf]; omega
  have hk5 : numT (((packT [x0, x1, x2, x3, x4, x5, x6, x7]).drop 2).take 5) = (K : Int) := by rw [hform, headB_five, numT_bitsOf]; omega
  have hp2' : numT ((packT [x0, x1, x2, x3, x4, x5, x6, x7]).dropLast.take 2) = (P : Int) := by rw [hdl, headB_two, numT_bitsOf]; omega
  have hk5' : numT (((packT [x0, x1, x2, x3, x4, x5, x6, x7]).dropLast.drop 2).take 5) = (K : Int) := by rw [hdl, headB_five, numT_bitsOf]; omega
  have hun : unfT (rdXs ((packT [x0, x1, x2, x3, x4, x5, x6, x7]).drop 7) K) P 8 = [x0, x1, x2, x3, x4, x5, x6, x7] := by rw [hx0, hunf]; rfl
  have CU1 : Hid (∀ W A n c, UnpIn W A n c (packT [x0, x1, x2, x3, x4, x5, x6, x7]) P K → Calls Tryd.prog 52 #[.slice A n c] W fun e w' => e = .returned (.tuple #[.agg #[.int .i64 x0, .int .i64 x1, .int .i64 x2, .int .i64 x3, .int .i64 x4, .int .i64 x5, .int .i64 x6, .int .i64 x7], .int .i64 0]) ∧ Below W.heap.size W w') := fun W A n c h => by
    refine (unp_core A n c _ P K W h true hok0 0 (fun _ => by rw [hun]; exact he)).mono ?_
    rintro e w' ⟨ys, rfl, hys, hb⟩
    rw [if_pos ⟨rfl, rfl⟩, hun] at hys
    obtain rfl := is8_eq x0 x1 x2 x3 x4 x5 x6 x7 ys hys
    exact ⟨rfl, hb⟩
  have CU2 : Hid (∀ W A n c, UnpIn W A n c (packT [x0, x1, x2, x3, x4, x5, x6, x7]).dropLast P K → Calls Tryd.prog 52 #[.slice A n c] W fun e w' => ∃ ys, e = .returned (.tuple #[.agg ys, .int .i64 10]) ∧ Is8 ys [0, 0, 0, 0, 0, 0, 0, 0] ∧ Below W.heap.size W w') := fun W A n c h => by
    refine (unp_core A n c _ P K W h false hok1 0 (fun h => by cases h)).mono ?_
    rintro e w' ⟨ys, rfl, hys, hb⟩
    exact ⟨ys, rfl, hys, hb⟩
  clear hform hrc hcut hunf hx0 hok0 hdl hok1 hun hsm hgood hpl hP hK HBd he hw
  obtain ⟨ps, hps⟩ : ∃ ps, packT [x0, x1, x2, x3, x4, x5, x6, x7] = ps := ⟨_, rfl⟩
  rw [hps] at CP0 hbd hleast h01 hp2 hk5 hp2' hk5' CU1 CU2 CB2
  obtain ⟨nb, hnb⟩ : ∃ nb, bitsF (foldeds [x0, x1, x2, x3, x4, x5, x6, x7] p) k = nb := ⟨_, rfl⟩
  rw [hnb] at CB1 hleast
  obtain ⟨m, hm⟩ : ∃ m, ps.length = m := ⟨_, rfl⟩
  rw [hm] at CP0 hbd hleast CB2
  have CP := Lib.hid CP0
  have H01 := Lib.hid h01
  have HM := Lib.hid hm
  have HP2 := Lib.hid hp2
  have HK5 := Lib.hid hk5
  have HP2' := Lib.hid hp2'
  have HK5' := Lib.hid hk5'
  have CW : Hid (∀ W, Calls Tryd.prog 26 #[.int .i64 m, .int .i64 15, .int .i64 159] W fun e w' => e = .returned (.bool true) ∧ W = w') := fun W => by
    have e : inB (m : Int) 15 159 = true := by unfold inB; simp; omega
    rw [← e]; exact within_any _ _ _ W
  have EQ := eq8_lit x0 x1 x2 x3 x4 x5 x6 x7
  clear hps hnb hm CP0 h01 hp2 hk5 hp2' hk5'
  have HI := Lib.hid (arrInfoL x0 x1 x2 x3 x4 x5 x6 x7)
  have X0 : Hid (Bk (w.alloc (.cells #[.int .i64 x0, .int .i64 x1, .int .i64 x2, .int .i64 x3, .int .i64 x4, .int .i64 x5, .int .i64 x6, .int .i64 x7] 35)) w.heap.size 35 #[.int .i64 x0, .int .i64 x1, .int .i64 x2, .int .i64 x3, .int .i64 x4, .int .i64 x5, .int .i64 x6, .int .i64 x7]) := Bk.new _ _ _
  have l0 : Hid (Below w.heap.size w (w.alloc (.cells #[.int .i64 x0, .int .i64 x1, .int .i64 x2, .int .i64 x3, .int .i64 x4, .int .i64 x5, .int .i64 x6, .int .i64 x7] 35))) := (Below.refl _ _).alloc (Nat.le_refl _) _
  go_enter Tryd.func11, Tryd.ntmps11
  go_wp2_with fail
  refine (awake_any _ (HW.out.later l0.out)).mono ?_
  rintro e w2 ⟨rfl, hb2⟩
  have X2 : Hid (Bk w2 w.heap.size 35 #[.int .i64 x0, .int .i64 x1, .int .i64 x2, .int .i64 x3, .int .i64 x4, .int .i64 x5, .int .i64 x6, .int .i64 x7]) := X0.out.below hb2 (by simp)
  have l2 : Hid (Below w.heap.size w w2) := l0.out.trans (hb2.mono (by simp))
  clear hb2 X0 l0
  go_wp2_with (with_reducible refine wpList_load_row rfl 35 (.tmp 3) rfl w.heap.size rfl 35 #[.int .i64 x0, .int .i64 x1, .int .i64 x2, .int .i64 x3, .int .i64 x4, .int .i64 x5, .int .i64 x6, .int .i64 x7] (0, 0) _ X2.out.heap arrUnder rfl HI.out ?_)
  refine (CS.out _).mono ?_
  rintro e w3 ⟨rfl, hb3⟩
  have X3 : Hid (Bk w3 w.heap.size 35 #[.int .i64 x0, .int .i64 x1, .int .i64 x2, .int .i64 x3, .int .i64 x4, .int .i64 x5, .int .i64 x6, .int .i64 x7]) := X2.out.below hb3 X2.out.lt
  have l3 : Hid (Below w.heap.size w w3) := l2.out.trans (hb3.mono l2.out.size)
  clear hb3 X2 l2
  go_wp2_with fail
  refine (CE.out _).mono ?_
  rintro e w' ⟨rfl, rfl⟩
  go_wp2_with (with_reducible refine wpList_load_row rfl 35 (.tmp 3) rfl w.heap.size rfl 35 #[.int .i64 x0, .int .i64 x1, .int .i64 x2, .int .i64 x3, .int .i64 x4, .int .i64 x5, .int .i64 x6, .int .i64 x7] (0, 0) _ X3.out.heap arrUnder rfl HI.out ?_)
  refine (CP.out _ (HW.out.later l3.out)).mono ?_
  rintro e w4 ⟨v4, rfl, ho4, hb4⟩
  obtain ⟨ad, c, rfl, hmc, hc63, hadl, hr4⟩ := rd_of_own' ho4 (by omega)
  have X4 : Hid (Bk w4 w.heap.size 35 #[.int .i64 x0, .int .i64 x1, .int .i64 x2, .int .i64 x3, .int .i64 x4, .int .i64 x5, .int .i64 x6, .int .i64 x7]) := X3.out.below hb4 X3.out.lt
  have l4 : Hid (Below w.heap.size w w4) := l3.out.trans (hb4.mono l3.out.size)
  have R4 := Lib.hid hr4
  clear hb4 X3 l3 ho4 hr4 CS CE CP
  go_wp2_with fail
  refine (CW.out _).mono ?_
  rintro e w' ⟨rfl, rfl⟩
  go_wp2_with fail
  refine (areBits_yes _ m c ps w4 R4.out H01.out (by omega)).mono ?_
  rintro e w' ⟨rfl, rfl⟩
  go_wp2_with fail
  refine (copyInts_some ad m c ps w4 R4.out hadl (by omega)).mono ?_
  rintro e w5 ⟨v5, rfl, ho5, hb5⟩
  obtain ⟨ad5, c5, rfl, hmc5, hc5, hadl5, hr5⟩ := rd_of_own' ho5 (by omega)
  have X5 : Hid (Bk w5 w.heap.size 35 #[.int .i64 x0, .int .i64 x1, .int .i64 x2, .int .i64 x3, .int .i64 x4, .int .i64 x5, .int .i64 x6, .int .i64 x7]) := X4.out.below hb5 X4.out.lt
  have l5 : Hid (Below w.heap.size w w5) := l4.out.trans (hb5.mono l4.out.size)
  have R5 := Lib.hid (R4.out.below hb5)
  have U5 : Hid (UnpIn w5 (some ad5) m c5 ps P K) := ⟨HW.out.later l5.out, hr5, H01.out, by omega, by omega, hmc5, hc5, hP3, hK18, HP2.out, HK5.out⟩
  clear hb5 X4 l4 R4 ho5 hr5 hadl5 hmc5 hc5
  go_wp2_with fail
  refine (CU1.out _ _ _ _ U5.out).mono ?_
  rintro e w6 ⟨rfl, hb6⟩
  have X6 : Hid (Bk w6 w.heap.size 35 #[.int .i64 x0, .int .i64 x1, .int .i64 x2, .int .i64 x3, .int .i64 x4, .int .i64 x5, .int .i64 x6, .int .i64 x7]) := X5.out.below hb6 X5.out.lt
  have l6 : Hid (Below w.heap.size w w6) := l5.out.trans (hb6.mono l5.out.size)
  have R6 := Lib.hid (R5.out.below hb6)
  clear hb6 X5 l5 R5 U5
  have H8 := Lib.hid (is8_lit x0 x1 x2 x3 x4 x5 x6 x7)
  obtain ⟨w7, hw7⟩ : ∃ w7, World.setRow (w6.alloc (.cells zero8 35)) w6.heap.size #[.int .i64 x0, .int .i64 x1, .int .i64 x2, .int .i64 x3, .int .i64 x4, .int .i64 x5, .int .i64 x6, .int .i64 x7] = w7 := ⟨_, rfl⟩
  have Y7 : Hid (Bk w7 w6.heap.size 35 #[.int .i64 x0, .int .i64 x1, .int .i64 x2, .int .i64 x3, .int .i64 x4, .int .i64 x5, .int .i64 x6, .int .i64 x7]) := by show Bk _ _ _ _; rw [← hw7]; exact setRow_heap _ _ _ _ _ _ (heap_alloc_new w6 _)
  have b7 : Below w6.heap.size w6 w7 := by rw [← hw7]; exact below_setRow ((Below.refl _ _).alloc (Nat.le_refl _) _) (Nat.le_refl _) _
  have X7 : Hid (Bk w7 w.heap.size 35 #[.int .i64 x0, .int .i64 x1, .int .i64 x2, .int .i64 x3, .int .i64 x4, .int .i64 x5, .int .i64 x6, .int .i64 x7]) := X6.out.below b7 X6.out.lt
  have l7 : Hid (Below w.heap.size w w7) := l6.out.trans (b7.mono l6.out.size)
  have R7 := Lib.hid (R6.out.below b7)
  have HW7 := Lib.hid hw7
  clear hw7 b7 X6 l6 R6
  go_wp2_with (first
    | (with_reducible refine wpList_store_row rfl 35 (.tmp 9) (.tmp 50) rfl w6.heap.size #[.int .i64 x0, .int .i64 x1, .int .i64 x2, .int .i64 x3, .int .i64 x4, .int .i64 x5, .int .i64 x6, .int .i64 x7] rfl rfl 35 zero8 (heap_alloc_new w6 _) H8.out.info H8.out.zsize H8.out.one ?_; rw [HW7.out])
    | (with_reducible refine wpList_load_row rfl 35 (.tmp 3) rfl w.heap.size rfl 35 #[.int .i64 x0, .int .i64 x1, .int .i64 x2, .int .i64 x3, .int .i64 x4, .int .i64 x5, .int .i64 x6, .int .i64 x7] (0, 0) _ X7.out.heap arrUnder rfl HI.out ?_))
  refine (CB1.out _ (HW.out.later l7.out)).mono ?_
  rintro e w8 ⟨rfl, hb8⟩
  have X8 : Hid (Bk w8 w.heap.size 35 #[.int .i64 x0, .int .i64 x1, .int .i64 x2, .int .i64 x3, .int .i64 x4, .int .i64 x5, .int .i64 x6, .int .i64 x7]) := X7.out.below hb8 X7.out.lt
  have Y8 : Hid (Bk w8 w6.heap.size 35 #[.int .i64 x0, .int .i64 x1, .int .i64 x2, .int .i64 x3, .int .i64 x4, .int .i64 x5, .int .i64 x6, .int .i64 x7]) := Y7.out.below hb8 Y7.out.lt
  have l8 : Hid (Below w.heap.size w w8) := l7.out.trans (hb8.mono l7.out.size)
  have R8 := Lib.hid (R7.out.below hb8)
  clear hb8 X7 Y7 l7 R7 HW7 CB1
  have z8 : w.heap.size < w8.heap.size := X8.out.lt
  have y8 : w6.heap.size < w8.heap.size := Y8.out.lt
  have c0 : w8.cell? ⟨w.heap.size, 0, none⟩ = some (.int .i64 x0) := by rw [X8.out.cell]; rfl
  have c1 : w8.cell? ⟨w.heap.size, 1, none⟩ = some (.int .i64 x1) := by rw [X8.out.cell]; rfl
  have c2 : w8.cell? ⟨w.heap.size, 2, none⟩ = some (.int .i64 x2) := by rw [X8.out.cell]; rfl
  have c3 : w8.cell? ⟨w.heap.size, 3, none⟩ = some (.int .i64 x3) := by rw [X8.out.cell]; rfl
  have c4 : w8.cell? ⟨w.heap.size, 4, none⟩ = some (.int .i64 x4) := by rw [X8.out.cell]; rfl
  have c5 : w8.cell? ⟨w.heap.size, 5, none⟩ = some (.int .i64 x5) := by rw [X8.out.cell]; rfl
  have c6 : w8.cell? ⟨w.heap.size, 6, none⟩ = some (.int .i64 x6) := by rw [X8.out.cell]; rfl
  have c7 : w8.cell? ⟨w.heap.size, 7, none⟩ = some (.int .i64 x7) := by rw [X8.out.cell]; rfl
  have rd1 : Hid (RdI w8.drew (cutA (some ad) 0 c) 2 (ps.take 2)) := by
    have := R8.out.cut 0 c 2 (by omega) hmc
    rw [List.drop_zero] at this
    exact this
  have rd2 : Hid (RdI w8.drew (cutA (some ad) 2 c) 5 ((ps.drop 2).take 5)) := R8.out.cut 2 c 5 (by omega) hmc
  have hs1 : ∀ W, (Instr.slice 48 (.slice (some ad) m c) none (some (.int .i64 2)) none).run Tryd.prog W = .ok (.slice (cutA (some ad) 0 c) 2 c) W := fun W => cutTo_run (some ad) m c 2 2 rfl (by omega) W
  have hs2 : ∀ W, (Instr.slice 48 (.slice (some ad) m c) (some (.int .i64 2)) (some (.int .i64 7)) none).run Tryd.prog W = .ok (.slice (cutA (some ad) 2 c) 5 (c - 2)) W := fun W => cut_run (some ad) m c 2 7 5 _ 2 7 rfl rfl (by omega) (by omega) (by omega) rfl W
  have CN1 : Hid (∀ d, Calls Tryd.prog 55 #[.slice (cutA (some ad) 0 c) 2 d] w8.drew fun e w' => e = .returned (.int .i64 P) ∧ w8.drew = w') := fun d => by rw [← HP2.out]; exact numberOf_any _ 2 d _ _ rd1.out (H01.out.take _) (by omega)
  have CN2 : Hid (∀ d, Calls Tryd.prog 55 #[.slice (cutA (some ad) 2 c) 5 d] w8.drew fun e w' => e = .returned (.int .i64 K) ∧ w8.drew = w') := fun d => by rw [← HK5.out]; exact numberOf_any _ 5 d _ _ rd2.out ((H01.out.drop _).take _) (by omega)
  obtain ⟨A1, hA1⟩ : ∃ A1, cutA (some ad) 0 c = A1 := ⟨_, rfl⟩
  obtain ⟨A2, hA2⟩ : ∃ A2, cutA (some ad) 2 c = A2 := ⟨_, rfl⟩
  rw [hA1] at hs1 CN1
  rw [hA2] at hs2 CN2
  clear hA1 hA2 rd1 rd2
  go_wp2_with fail
  go_region_held3 (fun w' => w'.cell? ⟨w.heap.size, 0, none⟩ = some (.int .i64 x0) ∧ w'.cell? ⟨w.heap.size, 1, none⟩ = some (.int .i64 x1) ∧ w'.cell? ⟨w.heap.size, 2, none⟩ = some (.int .i64 x2) ∧ w'.cell? ⟨w.heap.size, 3, none⟩ = some (.int .i64 x3) ∧ w'.cell? ⟨w.heap.size, 4, none⟩ = some (.int .i64 x4) ∧ w'.cell? ⟨w.heap.size, 5, none⟩ = some (.int .i64 x5) ∧ w'.cell? ⟨w.heap.size, 6, none⟩ = some (.int .i64 x6) ∧ w'.cell? ⟨w.heap.size, 7, none⟩ = some (.int .i64 x7))
    (first | go_keep | (go_split_ands; refine ⟨?_, ?_, ?_, ?_, ?_, ?_, ?_, ?_⟩ <;> (rw [hb.cell (by simpa using z8)]; assumption)))
    (first
      | (go_at_call 55; (with_reducible refine (CN1.out _).mono ?_); rintro e w' ⟨rfl, rfl⟩)
      | (go_at_call 55; (with_reducible refine (CN2.out _).mono ?_); rintro e w' ⟨rfl, rfl⟩)
      | (go_at_call 46; refine (CB2.out _ (HW.out.later l8.out).drew).mono ?_; rintro e w' ⟨rfl, hb⟩))
  have X9 : Hid (Bk w' w.heap.size 35 #[.int .i64 x0, .int .i64 x1, .int .i64 x2, .int .i64 x3, .int .i64 x4, .int .i64 x5, .int .i64 x6, .int .i64 x7]) := (X8.out.drew).below hb (by simpa using z8)
  have Y9 : Hid (Bk w' w6.heap.size 35 #[.int .i64 x0, .int .i64 x1, .int .i64 x2, .int .i64 x3, .int .i64 x4, .int .i64 x5, .int .i64 x6, .int .i64 x7]) := (Y8.out.drew).below hb (by simpa using y8)
  have l9 : Hid (Below w.heap.size w w') := (l8.out.drew).trans (hb.mono (by simp; omega))
  have R9 : Hid (RdI w' (some ad) m ps) := RdI.below (w := w8.drew) R8.out hb
  clear hb hs1 hs2 CN1 CN2 X8 Y8 l8 R8 CB2 c0 c1 c2 c3 c4 c5 c6 c7
  obtain ⟨ad', hade, hadl9, _⟩ := R9.out.2 (by omega)
  obtain rfl := Option.some.inj hade
  clear hade
  have R9' : Hid (RdI w' (some ad) (m - 1) ps.dropLast) := by
    have := R9.out.cut 0 c (m - 1) (by omega) hmc
    rw [List.drop_zero, cutA_zero] at this
    rw [List.dropLast_eq_take, HM.out]
    exact this
  have hs3 : ∀ W, (Instr.slice 48 (.slice (some ad) m c) none (some (.int .i64 ((m : Int) - 1))) none).run Tryd.prog W = .ok (.slice (some ad) (m - 1) c) W := fun W => by
    have := cutTo_run (some ad) m c (m - 1) ((m : Int) - 1) (by omega) (by omega) W
    rw [cutA_zero] at this
    exact this
  go_wp2_with fail
  refine (copyInts_some ad (m - 1) c ps.dropLast w' R9'.out hadl9 (by omega)).mono ?_
  rintro e w10 ⟨v10, rfl, ho10, hb10⟩
  obtain ⟨ad10, c10, rfl, hmc10, hc10, hadl10, hr10⟩ := rd_of_own' ho10 (by omega)
  have X10 : Hid (Bk w10 w.heap.size 35 #[.int .i64 x0, .int .i64 x1, .int .i64 x2, .int .i64 x3, .int .i64 x4, .int .i64 x5, .int .i64 x6, .int .i64 x7]) := X9.out.below hb10 X9.out.lt
  have Y10 : Hid (Bk w10 w6.heap.size 35 #[.int .i64 x0, .int .i64 x1, .int .i64 x2, .int .i64 x3, .int .i64 x4, .int .i64 x5, .int .i64 x6, .int .i64 x7]) := Y9.out.below hb10 Y9.out.lt
  have l10 : Hid (Below w.heap.size w w10) := l9.out.trans (hb10.mono l9.out.size)
  have H01' : Hid (Bits01 ps.dropLast) := by
    show Bits01 _
    rw [List.dropLast_eq_take]; exact H01.out.take _
  have U10 : Hid (UnpIn w10 (some ad10) (m - 1) c10 ps.dropLast P K) := ⟨HW.out.later l10.out, hr10, H01'.out, by omega, by omega, hmc10, hc10, hP3, hK18, HP2'.out, HK5'.out⟩
  clear hb10 X9 Y9 l9 R9 R9' ho10 hr10 hs3
  go_wp2_with fail
  refine (CU2.out _ _ _ _ U10.out).mono ?_
  rintro e w11 ⟨ys, rfl, hys, hb11⟩
  have HY := Lib.hid hys
  have X11 : Hid (Bk w11 w.heap.size 35 #[.int .i64 x0, .int .i64 x1, .int .i64 x2, .int .i64 x3, .int .i64 x4, .int .i64 x5, .int .i64 x6, .int .i64 x7]) := X10.out.below hb11 X10.out.lt
  have Y11 : Hid (Bk w11 w6.heap.size 35 #[.int .i64 x0, .int .i64 x1, .int .i64 x2, .int .i64 x3, .int .i64 x4, .int .i64 x5, .int .i64 x6, .int .i64 x7]) := Y10.out.below hb11 Y10.out.lt
  have l11 : Hid (Below w.heap.size w w11) := l10.out.trans (hb11.mono l10.out.size)
  clear hb11 X10 Y10 l10 U10 hys
  obtain ⟨w12, hw12⟩ : ∃ w12, World.setRow (w11.alloc (.cells zero8 35)) w11.heap.size ys = w12 := ⟨_, rfl⟩
  have b12 : Below w11.heap.size w11 w12 := by rw [← hw12]; exact below_setRow ((Below.refl _ _).alloc (Nat.le_refl _) _) (Nat.le_refl _) _
  have X12 : Hid (Bk w12 w.heap.size 35 #[.int .i64 x0, .int .i64 x1, .int .i64 x2, .int .i64 x3, .int .i64 x4, .int .i64 x5, .int .i64 x6, .int .i64 x7]) := X11.out.below b12 X11.out.lt
  have Y12 : Hid (Bk w12 w6.heap.size 35 #[.int .i64 x0, .int .i64 x1, .int .i64 x2, .int .i64 x3, .int .i64 x4, .int .i64 x5, .int .i64 x6, .int .i64 x7]) := Y11.out.below b12 Y11.out.lt
  have l12 : Hid (Below w.heap.size w w12) := l11.out.trans (b12.mono l11.out.size)
  have HW12 := Lib.hid hw12
  clear hw12 b12 X11 Y11 l11
  have c0 : w12.cell? ⟨w.heap.size, 0, none⟩ = some (.int .i64 x0) := by rw [X12.out.cell]; rfl
  have c1 : w12.cell? ⟨w.heap.size, 1, none⟩ = some (.int .i64 x1) := by rw [X12.out.cell]; rfl
  have c2 : w12.cell? ⟨w.heap.size, 2, none⟩ = some (.int .i64 x2) := by rw [X12.out.cell]; rfl
  have c3 : w12.cell? ⟨w.heap.size, 3, none⟩ = some (.int .i64 x3) := by rw [X12.out.cell]; rfl
  have c4 : w12.cell? ⟨w.heap.size, 4, none⟩ = some (.int .i64 x4) := by rw [X12.out.cell]; rfl
  have c5 : w12.cell? ⟨w.heap.size, 5, none⟩ = some (.int .i64 x5) := by rw [X12.out.cell]; rfl
  have c6 : w12.cell? ⟨w.heap.size, 6, none⟩ = some (.int .i64 x6) := by rw [X12.out.cell]; rfl
  have c7 : w12.cell? ⟨w.heap.size, 7, none⟩ = some (.int .i64 x7) := by rw [X12.out.cell]; rfl
  have d0 : w12.cell? ⟨w6.heap.size, 0, none⟩ = some (.int .i64 x0) := by rw [Y12.out.cell]; rfl
  have d1 : w12.cell? ⟨w6.heap.size, 1, none⟩ = some (.int .i64 x1) := by rw [Y12.out.cell]; rfl
  have d2 : w12.cell? ⟨w6.heap.size, 2, none⟩ = some (.int .i64 x2) := by rw [Y12.out.cell]; rfl
  have d3 : w12.cell? ⟨w6.heap.size, 3, none⟩ = some (.int .i64 x3) := by rw [Y12.out.cell]; rfl
  have d4 : w12.cell? ⟨w6.heap.size, 4, none⟩ = some (.int .i64 x4) := by rw [Y12.out.cell]; rfl
  have d5 : w12.cell? ⟨w6.heap.size, 5, none⟩ = some (.int .i64 x5) := by rw [Y12.out.cell]; rfl
  have d6 : w12.cell? ⟨w6.heap.size, 6, none⟩ = some (.int .i64 x6) := by rw [Y12.out.cell]; rfl
  have d7 : w12.cell? ⟨w6.heap.size, 7, none⟩ = some (.int .i64 x7) := by rw [Y12.out.cell]; rfl
  go_wp2_with (first
    | (with_reducible refine wpList_store_row rfl 35 (.tmp 15) (.tmp 78) rfl w11.heap.size ys rfl rfl 35 zero8 (heap_alloc_new w11 _) HY.out.info HY.out.zsize HY.out.one ?_; rw [HW12.out]))
  go_ret
  exact ⟨rfl, l12.out⟩

theorem bbb_walk (x0 x1 x2 x3 x4 x5 x6 x7 p k : Int) (w : World) (hw : Laid w) :
    Calls Tryd.prog 11 #[.agg #[.int .i64 x0, .int .i64 x1, .int .i64 x2, .int .i64 x3, .int .i64 x4, .int .i64 x5, .int .i64 x6, .int .i64 x7], .int .i64 p, .int .i64 k] w fun e w' => e = .returned (.bool true) ∧ Below w.heap.size w w' := by
  by_cases he : rangesE [x0, x1, x2, x3, x4, x5, x6, x7] (-32767) 32767 = 0
  · by_cases hp : parE p k = 0
    · have hb : (0 ≤ p ∧ p ≤ 2) ∧ (0 ≤ k ∧ k ≤ 17) := by
        unfold parE inB at hp
        simp at hp
        omega
      obtain ⟨q, rfl⟩ : ∃ q : Nat, p = q := Int.eq_ofNat_of_zero_le hb.1.1
      obtain ⟨j, rfl⟩ : ∃ j : Nat, k = j := Int.eq_ofNat_of_zero_le hb.2.1
      exact bbb_core x0 x1 x2 x3 x4 x5 x6 x7 q j w hw he (by omega) (by omega)
    · exact bbb_true x0 x1 x2 x3 x4 x5 x6 x7 p k w hw (.inr hp)
  · exact bbb_true x0 x1 x2 x3 x4 x5 x6 x7 p k w hw (.inl he)

end Go.Proofs.YtepjnkmmielamaaDoor
