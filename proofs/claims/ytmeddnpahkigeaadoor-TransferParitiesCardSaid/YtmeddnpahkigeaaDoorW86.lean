import Derived.Test.YtmeddnpahkigeaaDoorW85
namespace Go.Proofs.YtmeddnpahkigeaaDoor
open Go.RowKit
open Go.Shelf
attribute [local go_sem] Oper.semAt_some

/-- What the loop over the weighted blocks keeps: the result's cells, the parity, what lay before. -/
structure ParI (w wL : World) (Bp : Nat) (ds : List (List Int)) (j : Int) (q : List Nat) (W : World) : Prop where
  par : Bk W Bp 65 (iArr (parP ds j q))
  res : Bk W w.heap.size 65 zero8
  bel : Below w.heap.size w W
  size : wL.heap.size ≤ W.heap.size
theorem ParI.own (w wL : World) (Bp : Nat) (ds : List (List Int)) (j : Int) (hB : w.heap.size ≤ wL.heap.size) : OwnFrom wL.heap.size (fun q W => ParI w wL Bp ds j q W) := by
  rintro s X Y row ⟨h1, h2, h3, h4⟩ hg hr
  exact ⟨bk_grown h1 hg (fun r e => (hr r e).2), bk_grown h2 hg (fun r e => (hr r e).2), h3.grown hg (by omega) (fun k e => by have := (hr k e).1; omega), Nat.le_trans h4 hg.size⟩

set_option maxRecDepth 100000 in
set_option maxHeartbeats 4000000 in
theorem parityOf_any (A : Option Addr) (n cp : Nat) (ds : List (List Int)) (j : Int) (w : World) (hr : RdD w A n ds) (hX : BndD ds) (hj : 0 ≤ j ∧ j ≤ 3) (hn : n ≤ 1000) :
    Calls Tryd.prog 56 #[.slice A n cp, .int .i64 j] w fun e w' => e = .returned (.agg (iArr (parP ds j (List.range n)))) ∧ Below w.heap.size w w' := by
  have HR := Lib.hid hr
  have HX := Lib.hid hX
  have HJ := Lib.hid hj
  have HXA : Hid (0 < n → ∀ ad, A = some ad → ad.block ≠ w.heap.size + 1) := fun h0 ad e => by
    obtain ⟨ad', e', hb, _⟩ := hr.2.2 h0
    rw [e] at e'
    cases e'
    omega
  clear hr hX hj
  refine (callsIn_wide (n := 6)).1 ?_
  refine callsIn_of_wp_marks Tryd.func56 rfl trivial ?_ rfl
  simp only [Tryd.ntmps56, List.size_toArray, List.length_cons, List.length_nil, Nat.reduceAdd, Nat.reduceSub, Array.replicate_succ, Array.replicate_zero, List.push_toArray, List.append_toArray, List.nil_append, List.cons_append]
  gi_wp2_with fail
  refine ⟨trivial, ?_⟩
  refine (callsIn_wide.2 (weighted_any A n cp j _)).mono ?_
  rintro e w3 ⟨rfl, hw3⟩
  have hb1 : Bk w3 w.heap.size 65 zero8 := by rw [← hw3]; exact (((Bk.new w 65 zero8).alloc _).alloc _).alloc _
  have hb2 : Bk w3 (w.heap.size + 1) 65 (iArr (parP ds j [])) := by
    rw [← hw3]
    have h := Bk.new (w.alloc (.cells zero8 65)) 65 zero8
    rw [World.size_alloc] at h
    exact (h.alloc _).alloc _
  have hbD : w3.cell? ⟨w.heap.size + 1 + 1, 0, none⟩ = some (.slice A n cp) := by rw [← hw3]; simp [go_sem]
  have hbJ : w3.cell? ⟨w.heap.size + 1 + 1 + 1, 0, none⟩ = some (.int .i64 j) := by rw [← hw3]; simp [go_sem]
  have hs3 : w3.heap.size = w.heap.size + 4 := by rw [← hw3]; simp
  have HB3 : Hid (Below w.heap.size w w3) := by
    show Below _ _ _
    rw [← hw3]
    exact ((((Below.refl _ _).alloc (Nat.le_refl _) _).alloc (by simp) _).alloc (by simp; omega) _).alloc (by simp; omega) _
  have HR3 := Lib.hid (HR.out.below HB3.out)
  clear hw3
  gi_wp2_with fail
  refine wpIn_rangeFunc_box2 (α := Part n) rfl (by omega) (gf := 94) rfl trivial (enters_of Tryd.func94 (by kernel_rfl) rfl)
    (fun x => .int .i64 (invT (4 + ((x.1 : Nat) : Int) - j))) (fun x => .agg (iArr (numL ds x.1))) (weighted_stops _ (by omega) (w.heap.size + 1 + 1) (w.heap.size + 1 + 1 + 1) (w.heap.size + 1) A n cp ds j HJ.out (by omega) w3 (by omega) (by omega) HR3.out hbD hbJ HX.out (by omega) (by omega) HXA.out)
    KX.trans (fun W l o o' hl h1 h2 h3 => KX.of_below (belowK_b (Nat.le_refl _) W l o o' hl h1 h2 h3) (Nat.le_refl _)) (Below.refl _ _) 6 7 65 (fun x => iArr (numL ds x.1))
    (fun pre W => ParI w w3 (w.heap.size + 1) ds j (pre.map (·.1)) W)
    (fun _ _ _ => False)
    (fun s X Y row hs hg hr => ParI.own w w3 (w.heap.size + 1) ds j (by omega) (s.map (·.1)) X Y row hs hg hr)
    (fun _ _ _ _ _ hs _ _ => hs)
    ⟨hb2, hb1, HB3.out, Nat.le_refl _⟩ ?assign ?body ?done ?stop
  case assign =>
    rintro l pre x W K hi hK
    have hl8 := iArr8 (numL ds x.1) (by unfold numL; exact numTo_length _ _)
    have HK := Lib.hid hK
    clear hK
    simp only [hl8, List.setIfInBounds_toArray, List.set_cons_zero, List.set_cons_succ]
    have HI := Lib.hid hi
    have HL8 := Lib.hid hl8
    clear hi hl8
    gi_wp2
    refine HK.out _ _ ((KeepsOthers.alloc _ _).from _) (KX.of_below ((Below.refl _ W).alloc HI.out.size _) (Nat.le_refl _)) ⟨HI.out.par.alloc _, HI.out.res.alloc _, HI.out.bel.alloc HI.out.bel.size _, Nat.le_trans HI.out.size (by simp)⟩ ⟨W.heap.size, HI.out.size, ?_, ?_⟩
    · show Bk _ _ _ (iArr (numL ds x.1))
      rw [HL8.out]
      exact Bk.new _ _ _
    · first | (simp only [HL8.out]; rfl) | simp only [HL8.out]
  case stop =>
    rintro D cc pre W _ _ hf _
    exact hf.elim
  case done =>
    rintro D ys W hD hys hI hK
    rw [hys] at hI
    have HI := Lib.hid hI
    have hp8 := iArr8 (parP ds j (List.range n)) (parP_length _ _ _)
    have HP := Lib.hid hI.par
    have HRs := Lib.hid hI.res
    rw [hp8] at HP
    have hpl : w.heap.size < w3.heap.size := by omega
    have HPA := Lib.hid hp8
    clear hI hp8 hys
    generalize (parP ds j (List.range n)).getD 0 0 = p0 at *
    generalize (parP ds j (List.range n)).getD 1 0 = p1 at *
    generalize (parP ds j (List.range n)).getD 2 0 = p2 at *
    generalize (parP ds j (List.range n)).getD 3 0 = p3 at *
    generalize (parP ds j (List.range n)).getD 4 0 = p4 at *
    generalize (parP ds j (List.range n)).getD 5 0 = p5 at *
    generalize (parP ds j (List.range n)).getD 6 0 = p6 at *
    generalize (parP ds j (List.range n)).getD 7 0 = p7 at *
    have e0 : W.cell? ⟨w.heap.size + 1, 0, none⟩ = some (.int .i64 p0) := by rw [HP.out.cell]; rfl
    have z0 : W.cell? ⟨w.heap.size, 0, none⟩ = some (.int .i64 0) := by rw [HRs.out.cell]; rfl
    have f0 : W.frozen? ⟨w.heap.size, 0, none⟩ = false := HRs.out.frozen _
    have e1 : W.cell? ⟨w.heap.size + 1, 1, none⟩ = some (.int .i64 p1) := by rw [HP.out.cell]; rfl
    have z1 : W.cell? ⟨w.heap.size, 1, none⟩ = some (.int .i64 0) := by rw [HRs.out.cell]; rfl
    have f1 : W.frozen? ⟨w.heap.size, 1, none⟩ = false := HRs.out.frozen _
    have e2 : W.cell? ⟨w.heap.size + 1, 2, none⟩ = some (.int .i64 p2) := by rw [HP.out.cell]; rfl
    have z2 : W.cell? ⟨w.heap.size, 2, none⟩ = some (.int .i64 0) := by rw [HRs.out.cell]; rfl
    have f2 : W.frozen? ⟨w.heap.size, 2, none⟩ = false := HRs.out.frozen _
    have e3 : W.cell? ⟨w.heap.size + 1, 3, none⟩ = some (.int .i64 p3) := by rw [HP.out.cell]; rfl
    have z3 : W.cell? ⟨w.heap.size, 3, none⟩ = some (.int .i64 0) := by rw [HRs.out.cell]; rfl
    have f3 : W.frozen? ⟨w.heap.size, 3, none⟩ = false := HRs.out.frozen _
    have e4 : W.cell? ⟨w.heap.size + 1, 4, none⟩ = some (.int .i64 p4) := by rw [HP.out.cell]; rfl
    have z4 : W.cell? ⟨w.heap.size, 4, none⟩ = some (.int .i64 0) := by rw [HRs.out.cell]; rfl
    have f4 : W.frozen? ⟨w.heap.size, 4, none⟩ = false := HRs.out.frozen _
    have e5 : W.cell? ⟨w.heap.size + 1, 5, none⟩ = some (.int .i64 p5) := by rw [HP.out.cell]; rfl
    have z5 : W.cell? ⟨w.heap.size, 5, none⟩ = some (.int .i64 0) := by rw [HRs.out.cell]; rfl
    have f5 : W.frozen? ⟨w.heap.size, 5, none⟩ = false := HRs.out.frozen _
    have e6 : W.cell? ⟨w.heap.size + 1, 6, none⟩ = some (.int .i64 p6) := by rw [HP.out.cell]; rfl
    have z6 : W.cell? ⟨w.heap.size, 6, none⟩ = some (.int .i64 0) := by rw [HRs.out.cell]; rfl
    have f6 : W.frozen? ⟨w.heap.size, 6, none⟩ = false := HRs.out.frozen _
    have e7 : W.cell? ⟨w.heap.size + 1, 7, none⟩ = some (.int .i64 p7) := by rw [HP.out.cell]; rfl
    have z7 : W.cell? ⟨w.heap.size, 7, none⟩ = some (.int .i64 0) := by rw [HRs.out.cell]; rfl
    have f7 : W.frozen? ⟨w.heap.size, 7, none⟩ = false := HRs.out.frozen _
    have hres : W.heap[w.heap.size]? = some (.cells zero8 65 (0, 0)) := HRs.out
    have hK8 : ((((((((W.setCell ⟨w.heap.size, 0, none⟩ (.int .i64 p0)).setCell ⟨w.heap.size, 1, none⟩ (.int .i64 p1)).setCell ⟨w.heap.size, 2, none⟩ (.int .i64 p2)).setCell ⟨w.heap.size, 3, none⟩ (.int .i64 p3)).setCell ⟨w.heap.size, 4, none⟩ (.int .i64 p4)).setCell ⟨w.heap.size, 5, none⟩ (.int .i64 p5)).setCell ⟨w.heap.size, 6, none⟩ (.int .i64 p6)).setCell ⟨w.heap.size, 7, none⟩ (.int .i64 p7)).heap[D]? = some (.deferred (some [])) := ((((((((KeepsOthers.setCell W ⟨w.heap.size, 0, none⟩ (.int .i64 p0)).trans (KeepsOthers.setCell _ ⟨w.heap.size, 1, none⟩ (.int .i64 p1))).trans (KeepsOthers.setCell _ ⟨w.heap.size, 2, none⟩ (.int .i64 p2))).trans (KeepsOthers.setCell _ ⟨w.heap.size, 3, none⟩ (.int .i64 p3))).trans (KeepsOthers.setCell _ ⟨w.heap.size, 4, none⟩ (.int .i64 p4))).trans (KeepsOthers.setCell _ ⟨w.heap.size, 5, none⟩ (.int .i64 p5))).trans (KeepsOthers.setCell _ ⟨w.heap.size, 6, none⟩ (.int .i64 p6))).trans (KeepsOthers.setCell _ ⟨w.heap.size, 7, none⟩ (.int .i64 p7))).same D _ hK rfl
    have HB8 : Hid (Below w.heap.size w (World.putObj ((((((((W.setCell ⟨w.heap.size, 0, none⟩ (.int .i64 p0)).setCell ⟨w.heap.size, 1, none⟩ (.int .i64 p1)).setCell ⟨w.heap.size, 2, none⟩ (.int .i64 p2)).setCell ⟨w.heap.size, 3, none⟩ (.int .i64 p3)).setCell ⟨w.heap.size, 4, none⟩ (.int .i64 p4)).setCell ⟨w.heap.size, 5, none⟩ (.int .i64 p5)).setCell ⟨w.heap.size, 6, none⟩ (.int .i64 p6)).setCell ⟨w.heap.size, 7, none⟩ (.int .i64 p7)) D (.deferred none))) := ((((((((HI.out.bel.setCell (p := ⟨w.heap.size, 0, none⟩) (Nat.le_refl _) (.int .i64 p0)).setCell (p := ⟨w.heap.size, 1, none⟩) (Nat.le_refl _) (.int .i64 p1)).setCell (p := ⟨w.heap.size, 2, none⟩) (Nat.le_refl _) (.int .i64 p2)).setCell (p := ⟨w.heap.size, 3, none⟩) (Nat.le_refl _) (.int .i64 p3)).setCell (p := ⟨w.heap.size, 4, none⟩) (Nat.le_refl _) (.int .i64 p4)).setCell (p := ⟨w.heap.size, 5, none⟩) (Nat.le_refl _) (.int .i64 p5)).setCell (p := ⟨w.heap.size, 6, none⟩) (Nat.le_refl _) (.int .i64 p6)).setCell (p := ⟨w.heap.size, 7, none⟩) (Nat.le_refl _) (.int .i64 p7)).trans (belowK_b (n₀ := w.heap.size) (w := w3) (by omega) _ D _ (.deferred none) hD hK8 rfl rfl)
    have HF8 : Bk (World.putObj ((((((((W.setCell ⟨w.heap.size, 0, none⟩ (.int .i64 p0)).setCell ⟨w.heap.size, 1, none⟩ (.int .i64 p1)).setCell ⟨w.heap.size, 2, none⟩ (.int .i64 p2)).setCell ⟨w.heap.size, 3, none⟩ (.int .i64 p3)).setCell ⟨w.heap.size, 4, none⟩ (.int .i64 p4)).setCell ⟨w.heap.size, 5, none⟩ (.int .i64 p5)).setCell ⟨w.heap.size, 6, none⟩ (.int .i64 p6)).setCell ⟨w.heap.size, 7, none⟩ (.int .i64 p7)) D (.deferred none)) w.heap.size 65 #[.int .i64 p0, .int .i64 p1, .int .i64 p2, .int .i64 p3, .int .i64 p4, .int .i64 p5, .int .i64 p6, .int .i64 p7] := bk_grown ((((((((HRs.out.set_ 0 (.int .i64 p0)).set_ 1 (.int .i64 p1)).set_ 2 (.int .i64 p2)).set_ 3 (.int .i64 p3)).set_ 4 (.int .i64 p4)).set_ 5 (.int .i64 p5)).set_ 6 (.int .i64 p6)).set_ 7 (.int .i64 p7)) (grownBy_putObj' _ D (.deferred none)) (fun r e => by cases e; exact ⟨_, hK8, rfl⟩)
    have HK8 := Lib.hid hK8
    have HFF := Lib.hid HF8
    clear hK8 HF8
    have g0 : (World.putObj ((((((((W.setCell ⟨w.heap.size, 0, none⟩ (.int .i64 p0)).setCell ⟨w.heap.size, 1, none⟩ (.int .i64 p1)).setCell ⟨w.heap.size, 2, none⟩ (.int .i64 p2)).setCell ⟨w.heap.size, 3, none⟩ (.int .i64 p3)).setCell ⟨w.heap.size, 4, none⟩ (.int .i64 p4)).setCell ⟨w.heap.size, 5, none⟩ (.int .i64 p5)).setCell ⟨w.heap.size, 6, none⟩ (.int .i64 p6)).setCell ⟨w.heap.size, 7, none⟩ (.int .i64 p7)) D (.deferred none)).cell? ⟨w.heap.size, 0, none⟩ = some (.int .i64 p0) := by rw [HFF.out.cell]; rfl
    have g1 : (World.putObj ((((((((W.setCell ⟨w.heap.size, 0, none⟩ (.int .i64 p0)).setCell ⟨w.heap.size, 1, none⟩ (.int .i64 p1)).setCell ⟨w.heap.size, 2, none⟩ (.int .i64 p2)).setCell ⟨w.heap.size, 3, none⟩ (.int .i64 p3)).setCell ⟨w.heap.size, 4, none⟩ (.int .i64 p4)).setCell ⟨w.heap.size, 5, none⟩ (.int .i64 p5)).setCell ⟨w.heap.size, 6, none⟩ (.int .i64 p6)).setCell ⟨w.heap.size, 7, none⟩ (.int .i64 p7)) D (.deferred none)).cell? ⟨w.heap.size, 1, none⟩ = some (.int .i64 p1) := by rw [HFF.out.cell]; rfl
    have g2 : (World.putObj ((((((((W.setCell ⟨w.heap.size, 0, none⟩ (.int .i64 p0)).setCell ⟨w.heap.size, 1, none⟩ (.int .i64 p1)).setCell ⟨w.heap.size, 2, none⟩ (.int .i64 p2)).setCell ⟨w.heap.size, 3, none⟩ (.int .i64 p3)).setCell ⟨w.heap.size, 4, none⟩ (.int .i64 p4)).setCell ⟨w.heap.size, 5, none⟩ (.int .i64 p5)).setCell ⟨w.heap.size, 6, none⟩ (.int .i64 p6)).setCell ⟨w.heap.size, 7, none⟩ (.int .i64 p7)) D (.deferred none)).cell? ⟨w.heap.size, 2, none⟩ = some (.int .i64 p2) := by rw [HFF.out.cell]; rfl
    have g3 : (World.putObj ((((((((W.setCell ⟨w.heap.size, 0, none⟩ (.int .i64 p0)).setCell ⟨w.heap.size, 1, none⟩ (.int .i64 p1)).setCell ⟨w.heap.size, 2, none⟩ (.int .i64 p2)).setCell ⟨w.heap.size, 3, none⟩ (.int .i64 p3)).setCell ⟨w.heap.size, 4, none⟩ (.int .i64 p4)).setCell ⟨w.heap.size, 5, none⟩ (.int .i64 p5)).setCell ⟨w.heap.size, 6, none⟩ (.int .i64 p6)).setCell ⟨w.heap.size, 7, none⟩ (.int .i64 p7)) D (.deferred none)).cell? ⟨w.heap.size, 3, none⟩ = some (.int .i64 p3) := by rw [HFF.out.cell]; rfl
    have g4 : (World.putObj ((((((((W.setCell ⟨w.heap.size, 0, none⟩ (.int .i64 p0)).setCell ⟨w.heap.size, 1, none⟩ (.int .i64 p1)).setCell ⟨w.heap.size, 2, none⟩ (.int .i64 p2)).setCell ⟨w.heap.size, 3, none⟩ (.int .i64 p3)).setCell ⟨w.heap.size, 4, none⟩ (.int .i64 p4)).setCell ⟨w.heap.size, 5, none⟩ (.int .i64 p5)).setCell ⟨w.heap.size, 6, none⟩ (.int .i64 p6)).setCell ⟨w.heap.size, 7, none⟩ (.int .i64 p7)) D (.deferred none)).cell? ⟨w.heap.size, 4, none⟩ = some (.int .i64 p4) := by rw [HFF.out.cell]; rfl
    have g5 : (World.putObj ((((((((W.setCell ⟨w.heap.size, 0, none⟩ (.int .i64 p0)).setCell ⟨w.heap.size, 1, none⟩ (.int .i64 p1)).setCell ⟨w.heap.size, 2, none⟩ (.int .i64 p2)).setCell ⟨w.heap.size, 3, none⟩ (.int .i64 p3)).setCell ⟨w.heap.size, 4, none⟩ (.int .i64 p4)).setCell ⟨w.heap.size, 5, none⟩ (.int .i64 p5)).setCell ⟨w.heap.size, 6, none⟩ (.int .i64 p6)).setCell ⟨w.heap.size, 7, none⟩ (.int .i64 p7)) D (.deferred none)).cell? ⟨w.heap.size, 5, none⟩ = some (.int .i64 p5) := by rw [HFF.out.cell]; rfl
    have g6 : (World.putObj ((((((((W.setCell ⟨w.heap.size, 0, none⟩ (.int .i64 p0)).setCell ⟨w.heap.size, 1, none⟩ (.int .i64 p1)).setCell ⟨w.heap.size, 2, none⟩ (.int .i64 p2)).setCell ⟨w.heap.size, 3, none⟩ (.int .i64 p3)).setCell ⟨w.heap.size, 4, none⟩ (.int .i64 p4)).setCell ⟨w.heap.size, 5, none⟩ (.int .i64 p5)).setCell ⟨w.heap.size, 6, none⟩ (.int .i64 p6)).setCell ⟨w.heap.size, 7, none⟩ (.int .i64 p7)) D (.deferred none)).cell? ⟨w.heap.size, 6, none⟩ = some (.int .i64 p6) := by rw [HFF.out.cell]; rfl
    have g7 : (World.putObj ((((((((W.setCell ⟨w.heap.size, 0, none⟩ (.int .i64 p0)).setCell ⟨w.heap.size, 1, none⟩ (.int .i64 p1)).setCell ⟨w.heap.size, 2, none⟩ (.int .i64 p2)).setCell ⟨w.heap.size, 3, none⟩ (.int .i64 p3)).setCell ⟨w.heap.size, 4, none⟩ (.int .i64 p4)).setCell ⟨w.heap.size, 5, none⟩ (.int .i64 p5)).setCell ⟨w.heap.size, 6, none⟩ (.int .i64 p6)).setCell ⟨w.heap.size, 7, none⟩ (.int .i64 p7)) D (.deferred none)).cell? ⟨w.heap.size, 7, none⟩ = some (.int .i64 p7) := by rw [HFF.out.cell]; rfl
    have G0 := Lib.hid g0
    have G1 := Lib.hid g1
    have G2 := Lib.hid g2
    have G3 := Lib.hid g3
    have G4 := Lib.hid g4
    have G5 := Lib.hid g5
    have G6 := Lib.hid g6
    have G7 := Lib.hid g7
    clear g0 g1 g2 g3 g4 g5 g6 g7
    gi_wp2
    refine ⟨by simp, .inl ⟨_, _, rfl, run_takeDeferred HK8.out, ?_⟩⟩
    refine ⟨.agg #[.int .i64 p0, .int .i64 p1, .int .i64 p2, .int .i64 p3, .int .i64 p4, .int .i64 p5, .int .i64 p6, .int .i64 p7], ?_, ?_, HB8.out⟩
    · simp [results, Tryd.f56, go_sem, G0.out, G1.out, G2.out, G3.out, G4.out, G5.out, G6.out, G7.out]
    · rw [HPA.out]
  case body =>
    rintro l pre x Bx W hI hBx hbx hlen
    obtain ⟨q, hq⟩ : ∃ q, pre.map (·.1) = q := ⟨_, rfl⟩
    have HQ : Hid ((pre ++ [x]).map (·.1) = q ++ [x.1]) := by show _ = _; rw [List.map_append, hq]; rfl
    rw [hq] at hI
    obtain ⟨x, hx⟩ := x
    dsimp only at hbx HQ
    have HSN := Lib.hid (parP_snoc ds j q x)
    have hnb := numL_bd HX.out x
    have hpb := parP_bd ds j q
    have hpl := parP_length ds j q
    have hn8 : (numL ds x).length = 8 := by unfold numL; exact numTo_length _ _
    have hl8 := iArr8 (numL ds x) hn8
    have hwt := invT_bd (4 + (x : Int) - j)
    have hx1 : x < n := hx
    have HI := Lib.hid hI
    have HBX := Lib.hid hbx
    obtain ⟨nl, hnl⟩ : ∃ nl, numL ds x = nl := ⟨_, rfl⟩
    obtain ⟨wt, hwtt⟩ : ∃ wt, invT (4 + (x : Int) - j) = wt := ⟨_, rfl⟩
    obtain ⟨pp, hpp⟩ : ∃ pp, parP ds j q = pp := ⟨_, rfl⟩
    have hpar : Hid (Bk W (w.heap.size + 1) 65 (iArr (addP pp wt nl 0))) := by
      show Bk _ _ _ _
      rw [← hpp, addP_zero _ _ _ hpl]
      exact hI.par
    rw [hnl] at hnb hn8 hl8 HBX HSN
    rw [hwtt] at hwt HSN
    rw [hpp] at hpb hpl HSN
    simp only [hnl, hwtt, hl8, List.setIfInBounds_toArray, List.set_cons_zero, List.set_cons_succ]
    have HIX : Hid (∀ k : Nat, k < 8 → ∀ W, (Instr.index 65 (.agg (iArr nl)) (.int .i64 (k : Int))).run Tryd.prog W = .ok (.int .i64 (nl.getD k 0)) W) := fun k hk W => (is8_iArr nl hn8).ix k hk W
    rw [hl8] at HIX HBX
    have HNB := Lib.hid hnb
    have HPB := Lib.hid hpb
    have HPL := Lib.hid hpl
    have hszW := HI.out.size
    have hlp : w.heap.size + 1 < W.heap.size := HI.out.par.lt
    clear hI hbx hq hnl hwtt hpp hl8 hn8 hnb hpb hpl
    generalize nl.getD 0 0 = y0 at *
    generalize nl.getD 1 0 = y1 at *
    generalize nl.getD 2 0 = y2 at *
    generalize nl.getD 3 0 = y3 at *
    generalize nl.getD 4 0 = y4 at *
    generalize nl.getD 5 0 = y5 at *
    generalize nl.getD 6 0 = y6 at *
    generalize nl.getD 7 0 = y7 at *
    have c0 : W.cell? ⟨Bx, 0, none⟩ = some (.int .i64 y0) := by rw [HBX.out.cell]; rfl
    have c1 : W.cell? ⟨Bx, 1, none⟩ = some (.int .i64 y1) := by rw [HBX.out.cell]; rfl
    have c2 : W.cell? ⟨Bx, 2, none⟩ = some (.int .i64 y2) := by rw [HBX.out.cell]; rfl
    have c3 : W.cell? ⟨Bx, 3, none⟩ = some (.int .i64 y3) := by rw [HBX.out.cell]; rfl
    have c4 : W.cell? ⟨Bx, 4, none⟩ = some (.int .i64 y4) := by rw [HBX.out.cell]; rfl
    have c5 : W.cell? ⟨Bx, 5, none⟩ = some (.int .i64 y5) := by rw [HBX.out.cell]; rfl
    have c6 : W.cell? ⟨Bx, 6, none⟩ = some (.int .i64 y6) := by rw [HBX.out.cell]; rfl
    have c7 : W.cell? ⟨Bx, 7, none⟩ = some (.int .i64 y7) := by rw [HBX.out.cell]; rfl
    gi_wp2
    gi_loopw [16] (fun i W' => ∃ m : Nat, m ≤ 8 ∧ i = .int .i64 m ∧ Hid (Bk W' (w.heap.size + 1) 65 (iArr (addP pp wt nl m))) ∧ Hid (Below (w.heap.size + 1) W W' ∧ KeepsOthers W W' ∧ (∀ k, k ≠ w.heap.size + 1 → k < W.heap.size → W'.heap[k]? = W.heap[k]?))) (fun i _ => 8 - (intOf i).toNat)
    case atStart => exact ⟨0, Nat.zero_le _, rfl, hpar, Below.refl _ _, KeepsOthers.refl _, fun _ _ _ => rfl⟩
    case round =>
      clear hpar
      obtain ⟨m, hm8, rfl, hbk, hbe⟩ := hrel
      by_cases hm : m < 8
      · have hold : wr.cell? ⟨w.heap.size + 1, m, none⟩ = some (.int .i64 (pp.getD m 0)) := by
          rw [hbk.out.cell, iArr_at _ _ (by rw [addP_length]; exact hm), addP_at _ _ _ m m hm, if_neg (by omega)]
        have hfr : wr.frozen? ⟨w.heap.size + 1, m, none⟩ = false := hbk.out.frozen _
        have hst := addP_step pp wt nl m hm
        have hyb := HNB.out m
        have hpb := HPB.out m
        have hix := HIX.out m hm
        obtain ⟨y, hy⟩ : ∃ y, nl.getD m 0 = y := ⟨_, rfl⟩
        obtain ⟨o, ho⟩ : ∃ o, pp.getD m 0 = o := ⟨_, rfl⟩
        rw [hy] at hst hyb hix
        rw [ho] at hold hst hpb
        have hmul := mul_bd2 wt y 65536 65536 hwt.1 hyb.1 (by omega) (by omega)
        have CM : Hid (∀ W, Calls Tryd.prog 78 #[.int .i64 (o + wt * y)] W fun e w' => e = .returned (.int .i64 ((o + wt * y) % 65537)) ∧ W = w') := fun W => modPrime_any _ (by omega) (by omega) W
        obtain ⟨z, hz⟩ : ∃ z, (o + wt * y) % 65537 = z := ⟨_, rfl⟩
        rw [hz] at hst CM
        have FIN : Hid (Bk (wr.setCell ⟨w.heap.size + 1, m, none⟩ (.int .i64 z)) (w.heap.size + 1) 65 (iArr (addP pp wt nl (m + 1)))) := by
          show Bk _ _ _ _
          rw [← hst, ← iArr_set]
          exact hbk.out.set_ _ _
        have FIB : Hid (Below (w.heap.size + 1) W (wr.setCell ⟨w.heap.size + 1, m, none⟩ (.int .i64 z)) ∧ KeepsOthers W (wr.setCell ⟨w.heap.size + 1, m, none⟩ (.int .i64 z)) ∧ (∀ k, k ≠ w.heap.size + 1 → k < W.heap.size → (wr.setCell ⟨w.heap.size + 1, m, none⟩ (.int .i64 z)).heap[k]? = W.heap[k]?)) :=
          ⟨hbe.out.1.setCell (by simp) _, hbe.out.2.1.trans (KeepsOthers.setCell _ _ _), fun k h1 h2 => (Below.heap_setCell _ _ _ _ h1).trans (hbe.out.2.2 k h1 h2)⟩
        have hmI : (m : Int) < 8 := by omega
        clear hy ho hz hst hbk hbe
        gi_wp2_with (refine ⟨trivial, ?_⟩; gi_at_call 78; refine (CallsIn.inRound l (callsIn_wide.2 (CM.out _))).mono ?_; rintro e w' ⟨rfl, rfl⟩)
        go_roundw
        case rel => exact ⟨m + 1, by omega, by go_num, FIN.out, FIB.out⟩
        case measure => simp [intOf]; omega
      · obtain rfl : m = 8 := by omega
        have hmI : ¬ ((8 : Nat) : Int) < 8 := by omega
        have HBK := Lib.hid hbk.out
        have HBE := Lib.hid hbe.out
        clear hbk hbe
        gi_wp2
        refine ⟨HBE.out.2.1.from _, ⟨HBE.out.1.size, fun k hk hk2 => HBE.out.2.2 k hk2 (by omega)⟩, ⟨?_, ?_, ?_, ?_⟩⟩
        · rw [show (pre ++ [(⟨x, hx⟩ : Part n)]).unattach = q ++ [x] from HQ.out, HSN.out]; exact HBK.out
        · exact (HBE.out.2.2 w.heap.size (by omega) (by omega)).trans HI.out.res
        · exact HI.out.bel.trans (HBE.out.1.mono (by omega))
        · exact Nat.le_trans hszW HBE.out.1.size

end Go.Proofs.YtmeddnpahkigeaaDoor
