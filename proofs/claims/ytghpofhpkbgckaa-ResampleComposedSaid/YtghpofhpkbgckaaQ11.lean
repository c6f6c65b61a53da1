import Derived.Test.YtghpofhpkbgckaaP11
import Derived.Deep.DeepCutAuto

namespace Go.Proofs.Ytghpofhpkbgckaa
open Go.RowKit

/-! ### the product of two filters -/
def cvS (cs ds : List Int) (l i j : Nat) : List Int := (List.range l).map fun q => fsP cs ds q i + (if i ≤ q ∧ q - i < j then cs.getD i 0 * ds.getD (q - i) 0 else 0)
theorem cvS_len (cs ds : List Int) (l i j : Nat) : (cvS cs ds l i j).length = l := by simp [cvS]
theorem cvS_at (cs ds : List Int) (l i j q : Nat) (h : q < l) : (cvS cs ds l i j).getD q 0 = fsP cs ds q i + (if i ≤ q ∧ q - i < j then cs.getD i 0 * ds.getD (q - i) 0 else 0) := by
  simp [cvS, h]
theorem cvS_old (cs ds : List Int) (l i j : Nat) (h : i + j < l) : (cvS cs ds l i j).getD (i + j) 0 = fsP cs ds (i + j) i := by
  rw [cvS_at _ _ _ _ _ _ h, if_neg (by omega), Int.add_zero]
theorem cvS_set (cs ds : List Int) (l i j : Nat) (h : i + j < l) : (cvS cs ds l i j).set (i + j) (fsP cs ds (i + j) i + cs.getD i 0 * ds.getD j 0) = cvS cs ds l i (j + 1) := by
  apply List.ext_getElem
  · simp [cvS]
  intro q h1 h2
  have hq : q < l := by simpa [cvS] using h2
  rw [List.getElem_set]
  by_cases e : i + j = q
  · subst e
    rw [if_pos rfl]
    simp [cvS]
  · rw [if_neg e]
    simp only [cvS, List.getElem_map, List.getElem_range]
    have : (i ≤ q ∧ q - i < j) ↔ (i ≤ q ∧ q - i < j + 1) := by omega
    simp only [this]
theorem cvS_next (cs ds : List Int) (l i m : Nat) (hm : ds.length = m) : cvS cs ds l i m = cvS cs ds l (i + 1) 0 := by
  apply List.ext_getElem
  · simp [cvS]
  intro q h1 h2
  simp only [cvS, List.getElem_map, List.getElem_range, fsP]
  rw [if_neg (by omega : ¬ (i + 1 ≤ q ∧ q - (i + 1) < 0)), Int.add_zero]
  congr 1
  by_cases h : i ≤ q
  · rw [if_pos h]
    by_cases h3 : q - i < m
    · rw [if_pos ⟨h, h3⟩]
    · rw [if_neg (by omega), List.getD_eq_getElem?_getD (l := ds), List.getElem?_eq_none (by omega)]
      simp
  · rw [if_neg h, if_neg (by omega)]
theorem cvS_zero (cs ds : List Int) (l : Nat) : cvS cs ds l 0 0 = List.replicate l 0 := by
  apply List.ext_getElem
  · simp [cvS]
  intro q h1 h2
  simp [cvS, fsP]
theorem cvS_all (cs ds : List Int) (n l : Nat) (hn : cs.length = n) (hl : l = cs.length + ds.length - 1) : cvS cs ds l n 0 = conv cs ds := by
  unfold cvS conv
  rw [hl]
  apply List.map_congr_left
  intro q _
  rw [if_neg (by omega), Int.add_zero, fsum, hn]
theorem conv_at (cs ds : List Int) (q : Nat) (h : q < cs.length + ds.length - 1) : (conv cs ds).getD q 0 = fsum cs ds q := by
  simp [conv, h]
theorem conv_take (cs ds : List Int) (k l : Nat) (hl : cs.length + ds.length - 1 = l) (h : k < l) : (conv cs ds).take (k + 1) = (conv cs ds).take k ++ [fsum cs ds k] := by
  have h1 : k < (conv cs ds).length := by rw [conv_len]; omega
  rw [take_snoc h1, conv_at _ _ _ (by omega)]
def cm0 (cs : List Int) (b : Int) (ds : List Int) (b2 : Int) : Int := firstNZ [fltE cs b, fltE ds b2]
def cmE (cs : List Int) (b : Int) (ds : List Int) (b2 : Int) : Int := if cm0 cs b ds b2 = 0 then (if fltE (conv cs ds) (b * b2) = 0 then 0 else 8) else cm0 cs b ds b2
def cmL (cs : List Int) (b : Int) (ds : List Int) (b2 : Int) : List Int := if cmE cs b ds b2 = 0 then conv cs ds else []
def cmD (cs : List Int) (b : Int) (ds : List Int) (b2 : Int) : Int := if cmE cs b ds b2 = 0 then b * b2 else 0
/-- A filter of the call's own, and an error. -/
def CpR (w : World) (E : Int) (b : Int) (l : Nat) (cs : List Int) (e : Ending) (w' : World) : Prop :=
  (∃ A' c', e = .returned (.tuple #[.agg #[.slice A' l c', .int .i64 b], .int .i64 E]) ∧ RdI w' A' l cs ∧ (A' = none → l = 0 ∧ c' = 0) ∧ (∀ a, A' = some a → w.heap.size ≤ a.block)) ∧ Below w.heap.size w w'
/-- What holds beside the product's numbers. -/
structure CInv (w : World) (g h l : Nat) (f1 f2 f3 : Array Value) (bb : Int) (W : World) : Prop where
  k1 : Bk W w.heap.size 45 f1
  k2 : Bk W (w.heap.size + 1) 45 f2
  r : Bk W (w.heap.size + 2) 45 f3
  p : Bk W h 45 #[.slice (some ⟨g, 0, none⟩) l l, .int .i64 bb]
  bel : Below w.heap.size w W
theorem CInv.set {w : World} {g h l : Nat} {f1 f2 f3 : Array Value} {bb : Int} {W : World} (hc : CInv w g h l f1 f2 f3 bb W) (hg : w.heap.size + 2 < g) (hgh : h ≠ g) (j : Nat) (v : Value) : CInv w g h l f1 f2 f3 bb (W.setCell ⟨g, j, none⟩ v) :=
  ⟨hc.k1.far _ (by show w.heap.size ≠ g; omega) _, hc.k2.far _ (by show w.heap.size + 1 ≠ g; omega) _, hc.r.far _ (by show w.heap.size + 2 ≠ g; omega) _, hc.p.far _ hgh _, hc.bel.setCell (p := ⟨g, j, none⟩) (by show w.heap.size ≤ g; omega) _⟩

end Go.Proofs.Ytghpofhpkbgckaa


namespace Go.Proofs.Ytghpofhpkbgckaa
open Go.RowKit

theorem cell2' {W : World} {g : Nat} {t : TypeId} {x y : Value} (h : Bk W g t #[x, y]) : W.cell? ⟨g, 0, none⟩ = some x ∧ W.cell? ⟨g, 1, none⟩ = some y ∧ W.frozen? ⟨g, 0, none⟩ = false ∧ W.frozen? ⟨g, 1, none⟩ = false :=
  ⟨by rw [h.cell]; rfl, by rw [h.cell]; rfl, h.frozen 0, h.frozen 1⟩

set_option maxRecDepth 100000 in
set_option maxHeartbeats 4000000 in
theorem Composed_any (A : Option Addr) (n c : Nat) (b : Int) (cs : List Int) (B : Option Addr) (m d : Nat) (b2 : Int) (ds : List Int) (w : World) (hr : RdI w A n cs) (hn : n ≤ 1000000) (hx : RdI w B m ds) (hm : m ≤ 1000000) :
    Calls Try.prog 43 #[.agg #[.slice A n c, .int .i64 b], .agg #[.slice B m d, .int .i64 b2]] w (CpR w (cmE cs b ds b2) (cmD cs b ds b2) (cmL cs b ds b2).length (cmL cs b ds b2)) := by
  have HR := Lib.hid hr
  have HX := Lib.hid hx
  have CQ1 : Hid (∀ W, Below w.heap.size w W → Calls Try.prog 31 #[.agg #[.slice A n c, .int .i64 b]] W fun e w' => e = .returned (.int .i64 (fltE cs b)) ∧ Below W.heap.size W w') := fun W h => CheckFilter_any A n c cs b W (hr.below h) (by omega)
  have CQ2 : Hid (∀ W, Below w.heap.size w W → Calls Try.prog 31 #[.agg #[.slice B m d, .int .i64 b2]] W fun e w' => e = .returned (.int .i64 (fltE ds b2)) ∧ Below W.heap.size W w') := fun W h => CheckFilter_any B m d ds b2 W (hx.below h) (by omega)
  have HCN : Hid (cs.length = n) := hr.1
  have HDN : Hid (ds.length = m) := hx.1
  have HE : Hid (firstNZ [fltE cs b, fltE ds b2] = cm0 cs b ds b2) := rfl
  have HOK : Hid (cm0 cs b ds b2 = 0 → ((1 ≤ cs.length ∧ cs.length ≤ 8) ∧ (∀ c ∈ cs, -1000 ≤ c ∧ c ≤ 1000) ∧ 1 ≤ b ∧ b ≤ 1000) ∧ (1 ≤ ds.length ∧ ds.length ≤ 8) ∧ (∀ c ∈ ds, -1000 ≤ c ∧ c ≤ 1000) ∧ 1 ≤ b2 ∧ b2 ≤ 1000) := fun h => ⟨fltE_zero (firstNZ_zero h (fltE cs b) (by simp)), fltE_zero (firstNZ_zero h (fltE ds b2) (by simp))⟩
  have HME : Hid (cmE cs b ds b2 = if cm0 cs b ds b2 = 0 then (if fltE (conv cs ds) (b * b2) = 0 then 0 else 8) else cm0 cs b ds b2) := rfl
  have HML : Hid (cmL cs b ds b2 = if cmE cs b ds b2 = 0 then conv cs ds else []) := rfl
  have HMD : Hid (cmD cs b ds b2 = if cmE cs b ds b2 = 0 then b * b2 else 0) := rfl
  obtain ⟨L, hL⟩ : ∃ L, cmL cs b ds b2 = L := ⟨_, rfl⟩
  obtain ⟨DD, hD⟩ : ∃ L, cmD cs b ds b2 = L := ⟨_, rfl⟩
  obtain ⟨EE, hEE⟩ : ∃ L, cmE cs b ds b2 = L := ⟨_, rfl⟩
  rw [hEE] at HME HML HMD ⊢
  rw [hL] at HML ⊢
  rw [hD] at HMD ⊢
  obtain ⟨E, hE⟩ : ∃ E, cm0 cs b ds b2 = E := ⟨_, rfl⟩
  rw [hE] at HE HOK HME
  obtain ⟨E1, hE1⟩ : ∃ E, fltE cs b = E := ⟨_, rfl⟩
  obtain ⟨E2, hE2⟩ : ∃ E, fltE ds b2 = E := ⟨_, rfl⟩
  rw [hE1] at HE CQ1
  rw [hE2] at HE CQ2
  clear hL hD hEE hE hE1 hE2 hr hx
  have K1 : Hid (Bk (((w.alloc (.cells #[.slice A n c, .int .i64 b] 45)).alloc (.cells #[.slice B m d, .int .i64 b2] 45)).alloc (.cells #[.slice none 0 0, .int .i64 0] 45)) w.heap.size 45 #[.slice A n c, .int .i64 b]) := ((Bk.new w 45 #[.slice A n c, .int .i64 b]).alloc _).alloc _
  have K2 : Hid (Bk (((w.alloc (.cells #[.slice A n c, .int .i64 b] 45)).alloc (.cells #[.slice B m d, .int .i64 b2] 45)).alloc (.cells #[.slice none 0 0, .int .i64 0] 45)) (w.heap.size + 1) 45 #[.slice B m d, .int .i64 b2]) := by
    have := (Bk.new (w.alloc (.cells #[.slice A n c, .int .i64 b] 45)) 45 #[.slice B m d, .int .i64 b2]).alloc (.cells #[.slice none 0 0, .int .i64 0] 45)
    refine Lib.hid ?_
    simpa using this
  have R1 : Hid (Bk (((w.alloc (.cells #[.slice A n c, .int .i64 b] 45)).alloc (.cells #[.slice B m d, .int .i64 b2] 45)).alloc (.cells #[.slice none 0 0, .int .i64 0] 45)) (w.heap.size + 2) 45 #[.slice none 0 0, .int .i64 0]) := by
    have := Bk.new ((w.alloc (.cells #[.slice A n c, .int .i64 b] 45)).alloc (.cells #[.slice B m d, .int .i64 b2] 45)) 45 #[.slice none 0 0, .int .i64 0]
    refine Lib.hid ?_
    simpa using this
  have BB : Hid (Below w.heap.size w (((w.alloc (.cells #[.slice A n c, .int .i64 b] 45)).alloc (.cells #[.slice B m d, .int .i64 b2] 45)).alloc (.cells #[.slice none 0 0, .int .i64 0] 45))) := below3 _ _ _ _
  go_enter Try.func43, Try.ntmps43
  obtain ⟨d0, d1⟩ := bkf2 K1.out
  obtain ⟨e0, e1⟩ := bkf2 K2.out
  go_wp2
  obtain ⟨W3, hW3⟩ : ∃ W, (((w.alloc (.cells #[.slice A n c, .int .i64 b] 45)).alloc (.cells #[.slice B m d, .int .i64 b2] 45)).alloc (.cells #[.slice none 0 0, .int .i64 0] 45)) = W := ⟨_, rfl⟩
  rw [hW3] at K1 K2 R1 BB d0 d1 e0 e1 ⊢
  clear hW3
  go_region_held3 (fun w' : World => (w'.cell? ⟨w.heap.size, 0, none⟩ = some (.slice A n c) ∧ w'.cell? ⟨w.heap.size, 1, none⟩ = some (.int .i64 b)) ∧ w'.cell? ⟨w.heap.size + 1, 0, none⟩ = some (.slice B m d) ∧ w'.cell? ⟨w.heap.size + 1, 1, none⟩ = some (.int .i64 b2)) ((go_split_ands; first | (simp [go_sem, *]; done) | (refine ⟨⟨?_, ?_⟩, ?_, ?_⟩ <;> exact cellA _ (by assumption)))) (first
    | (go_at_call 31; (with_reducible refine (CQ1.out _ BB.out.drew).mono ?_); rintro e wq ⟨rfl, hbq⟩; have Kq := (K1.out.drew).later hbq; have Kq2 := (K2.out.drew).later hbq; have Bq := BB.out.drew.trans (hbq.mono BB.out.drew.size); obtain ⟨d0, d1⟩ := bkf2 Kq; obtain ⟨e0, e1⟩ := bkf2 Kq2)
    | (go_at_call 31; (with_reducible refine (CQ2.out _ Bq).mono ?_); rintro e wp ⟨rfl, hbp⟩; have Kp := Kq.later hbp; have Kp2 := Kq2.later hbp; obtain ⟨d0, d1⟩ := bkf2 Kp; obtain ⟨e0, e1⟩ := bkf2 Kp2)
    | (go_at_call 63; refine (firstError2 (E1 := E1) (E2 := E2) (F := E) HE.out _ _ ?_ ?_).mono ?_; (focus (simp [go_sem])); (focus (simp [go_sem])); rintro e w' ⟨rfl, rfl⟩))
  all_goals
    have R4 : Hid (Bk (wp.alloc (.cells #[.int .i64 E1, .int .i64 E2] 29)) (w.heap.size + 2) 45 #[.slice none 0 0, .int .i64 0]) := Lib.hid ((((R1.out.drew).later hbq).later hbp).alloc _)
    have K4 : Hid (Bk (wp.alloc (.cells #[.int .i64 E1, .int .i64 E2] 29)) w.heap.size 45 #[.slice A n c, .int .i64 b]) := Lib.hid (Kp.alloc _)
    have J4 : Hid (Bk (wp.alloc (.cells #[.int .i64 E1, .int .i64 E2] 29)) (w.heap.size + 1) 45 #[.slice B m d, .int .i64 b2]) := Lib.hid (Kp2.alloc _)
    have B4 : Hid (Below w.heap.size w (wp.alloc (.cells #[.int .i64 E1, .int .i64 E2] 29))) := Lib.hid ((Bq.trans (hbp.mono Bq.size)).alloc (Bq.trans (hbp.mono Bq.size)).size _)
    obtain ⟨W4, hW4⟩ : ∃ W, wp.alloc (.cells #[.int .i64 E1, .int .i64 E2] 29) = W := ⟨_, rfl⟩
    rw [hW4] at R4 K4 J4 B4 ⊢
    clear hW4 d0 d1 e0 e1 Kq Kq2 Kp Kp2 Bq hbq hbp K1 K2 R1 BB HE CQ1 CQ2
    obtain ⟨d0, d1⟩ := bkf2 K4.out
    obtain ⟨e0, e1⟩ := bkf2 J4.out
    by_cases h0 : E = 0
    · subst h0
      obtain ⟨hok, hok2⟩ := HOK.out rfl
      have hmE := HME.out
      rw [if_pos rfl] at hmE
      have HME2 := Lib.hid hmE
      clear hmE HME
      have hn8 : 1 ≤ n ∧ n ≤ 8 := by have := HCN.out; omega
      have hm8 : 1 ≤ m ∧ m ≤ 8 := by have := HDN.out; omega
      obtain ⟨l, hl⟩ : ∃ l, n + m - 1 = l := ⟨_, rfl⟩
      have hll : 1 ≤ l ∧ l ≤ 15 := by omega
      have v1 : IntKind.i64.wrap ((n : Int) + (m : Int)) = (l : Int) + 1 := by rw [show (n : Int) + (m : Int) = (l : Int) + 1 by omega]; exact IntWalk.i64_in _ (by omega)
      have v2 : IntKind.i64.wrap ((l : Int) + 1 - 1) = (l : Int) := by rw [show (l : Int) + 1 - 1 = (l : Int) by omega]; exact IntWalk.i64_in _ (by omega)
      have v2' : IntKind.i64.wrap (l : Int) = (l : Int) := IntWalk.i64_in _ (by omega)
      have hbb := mul_bd (a := b) (b := b2) (A := 1000) (B := 1000) (by omega) (by omega) (by omega) (by omega)
      obtain ⟨bb, hbbe⟩ : ∃ z, b * b2 = z := ⟨_, rfl⟩
      have v3 : IntKind.i64.wrap (b * b2) = bb := by rw [← hbbe]; exact IntWalk.i64_in _ (by omega)
      rw [hbbe] at hbb
      have hmi := make_ints l (by omega)
      have HSK : Hid (∀ W, Below W4.heap.size W4 W → (fun w' : World => (w'.cell? ⟨w.heap.size, 0, none⟩ = some (.slice A n c) ∧ w'.cell? ⟨w.heap.size, 1, none⟩ = some (.int .i64 b)) ∧ w'.cell? ⟨w.heap.size + 1, 0, none⟩ = some (.slice B m d) ∧ w'.cell? ⟨w.heap.size + 1, 1, none⟩ = some (.int .i64 b2)) W) := fun W hb => ⟨bkf2 (K4.out.later hb), bkf2 (J4.out.later hb)⟩
      have hbd : Below W4.heap.size W4 W4.drew := (Below.refl _ _).drew
      have HBD := Lib.hid hbd
      have HLL := Lib.hid hl
      have HBE := Lib.hid hbbe
      clear hbd hl hbbe
      go_wp2
      refine wp_region_held_drew (S := (fun w' : World => (w'.cell? ⟨w.heap.size, 0, none⟩ = some (.slice A n c) ∧ w'.cell? ⟨w.heap.size, 1, none⟩ = some (.int .i64 b)) ∧ w'.cell? ⟨w.heap.size + 1, 0, none⟩ = some (.slice B m d) ∧ w'.cell? ⟨w.heap.size + 1, 1, none⟩ = some (.int .i64 b2))) (by kernel_rfl) ?_ ?_
      · exact HSK.out _ HBD.out
      intro hHeld
      refine wpAnyH_take (i := 0) (v := ?_) rfl (by kernel_rfl) (by kernel_rfl) (by kernel_rfl) (fun _ _ _ h => h) (Or.inl ⟨by rfl, ?_⟩) (by assumption) ?_
      rotate_left
      · intro w hSw; (try dsimp only at hSw); go_simp; (try (with_reducible rfl))
      try simp only [List.getElem_toArray, List.getElem_cons_succ, List.getElem_cons_zero, Act.put, List.setIfInBounds_toArray, List.set_cons_zero, List.set_cons_succ]
      refine wpAnyH_take (i := 1) (v := ?_) rfl (by kernel_rfl) (by kernel_rfl) (by kernel_rfl) (fun _ _ _ h => h) (Or.inl ⟨by rfl, ?_⟩) (by assumption) ?_
      rotate_left
      · intro w hSw; (try dsimp only at hSw); go_simp; (try (with_reducible rfl))
      try simp only [List.getElem_toArray, List.getElem_cons_succ, List.getElem_cons_zero, Act.put, List.setIfInBounds_toArray, List.set_cons_zero, List.set_cons_succ]
      refine wpAnyH_take (i := 2) (v := ?_) rfl (by kernel_rfl) (by kernel_rfl) (by kernel_rfl) (fun _ _ _ h => h) (Or.inl ⟨by rfl, ?_⟩) (by assumption) ?_
      rotate_left
      · intro w hSw; (try dsimp only at hSw); go_simp; (try (with_reducible rfl))
      try simp only [List.getElem_toArray, List.getElem_cons_succ, List.getElem_cons_zero, Act.put, List.setIfInBounds_toArray, List.set_cons_zero, List.set_cons_succ]
      refine wpAnyH_take (i := 3) (v := ?_) rfl (by kernel_rfl) (by kernel_rfl) (by kernel_rfl) (fun _ _ _ h => h) (Or.inl ⟨by rfl, ?_⟩) (by assumption) ?_
      rotate_left
      · intro w hSw; (try dsimp only at hSw); go_simp; (try (with_reducible rfl))
      try simp only [List.getElem_toArray, List.getElem_cons_succ, List.getElem_cons_zero, Act.put, List.setIfInBounds_toArray, List.set_cons_zero, List.set_cons_succ]
      refine wpAnyH_take (i := 4) (v := ?_) rfl (by kernel_rfl) (by kernel_rfl) (by kernel_rfl) (fun _ _ _ h => h) (Or.inl ⟨by rfl, ?_⟩) (by assumption) ?_
      rotate_left
      · intro w hSw; (try dsimp only at hSw); go_simp; (try (with_reducible rfl))
      try simp only [List.getElem_toArray, List.getElem_cons_succ, List.getElem_cons_zero, Act.put, List.setIfInBounds_toArray, List.set_cons_zero, List.set_cons_succ]
      refine wpAnyH_take (i := 5) (v := ?_) rfl (by kernel_rfl) (by kernel_rfl) (by kernel_rfl) (fun _ _ _ h => h) (Or.inl ⟨by rfl, ?_⟩) (by assumption) ?_
      rotate_left
      · intro w hSw; (try dsimp only at hSw); go_simp; (try (with_reducible rfl))
      try simp only [List.getElem_toArray, List.getElem_cons_succ, List.getElem_cons_zero, Act.put, List.setIfInBounds_toArray, List.set_cons_zero, List.set_cons_succ]
      refine wpAnyH_take (i := 6) (v := ?_) rfl (by kernel_rfl) (by kernel_rfl) (by kernel_rfl) (fun _ _ _ h => h) (Or.inl ⟨by rfl, ?_⟩) (by assumption) ?_
      rotate_left
      · intro w hSw; (try dsimp only at hSw); go_simp; (try (with_reducible rfl))
      try simp only [List.getElem_toArray, List.getElem_cons_succ, List.getElem_cons_zero, Act.put, List.setIfInBounds_toArray, List.set_cons_zero, List.set_cons_succ]
      refine wpAnyH_take (i := 7) (v := ?_) rfl (by kernel_rfl) (by kernel_rfl) (by kernel_rfl) (fun _ _ _ h => h) (Or.inl ⟨by rfl, ?_⟩) (by assumption) ?_
      rotate_left
      · intro w hSw; (try dsimp only at hSw); go_simp; (try (with_reducible rfl))
      try simp only [List.getElem_toArray, List.getElem_cons_succ, List.getElem_cons_zero, Act.put, List.setIfInBounds_toArray, List.set_cons_zero, List.set_cons_succ]
      refine wpAnyH_take (i := 9) (v := ?_) rfl (by kernel_rfl) (by kernel_rfl) (by kernel_rfl) (fun _ _ _ h => h) (Or.inl ⟨by rfl, ?_⟩) (by assumption) ?_
      rotate_left
      · intro w hSw; (try dsimp only at hSw); go_simp; (try (with_reducible rfl))
      try simp only [List.getElem_toArray, List.getElem_cons_succ, List.getElem_cons_zero, Act.put, List.setIfInBounds_toArray, List.set_cons_zero, List.set_cons_succ]
      refine wpAnyH_take (i := 10) (v := ?_) rfl (by kernel_rfl) (by kernel_rfl) (by kernel_rfl) (fun _ _ _ h => h) (Or.inl ⟨by rfl, ?_⟩) (by assumption) ?_
      rotate_left
      · intro w hSw; (try dsimp only at hSw); go_simp; (try (with_reducible rfl))
      try simp only [List.getElem_toArray, List.getElem_cons_succ, List.getElem_cons_zero, Act.put, List.setIfInBounds_toArray, List.set_cons_zero, List.set_cons_succ]
      refine wpAnyH_take (i := 11) (v := ?_) rfl (by kernel_rfl) (by kernel_rfl) (by kernel_rfl) (fun _ _ _ h => h) (Or.inl ⟨by rfl, ?_⟩) (by assumption) ?_
      rotate_left
      · intro w hSw; (try dsimp only at hSw); go_simp; (try (with_reducible rfl))
      try simp only [List.getElem_toArray, List.getElem_cons_succ, List.getElem_cons_zero, Act.put, List.setIfInBounds_toArray, List.set_cons_zero, List.set_cons_succ]
      refine wpAnyH_take (i := 12) (v := ?_) rfl (by kernel_rfl) (by kernel_rfl) (by kernel_rfl) (fun _ _ _ h => h) (Or.inl ⟨by rfl, ?_⟩) (by assumption) ?_
      rotate_left
      · intro w hSw; (try dsimp only at hSw); go_simp; (try (with_reducible rfl))
      try simp only [List.getElem_toArray, List.getElem_cons_succ, List.getElem_cons_zero, Act.put, List.setIfInBounds_toArray, List.set_cons_zero, List.set_cons_succ]
      refine wpAnyH_take (i := 13) (v := ?_) rfl (by kernel_rfl) (by kernel_rfl) (by kernel_rfl) (fun _ _ _ h => h) (Or.inl ⟨by rfl, ?_⟩) (by assumption) ?_
      rotate_left
      · intro w hSw; (try dsimp only at hSw); go_simp; (try (with_reducible rfl))
      try simp only [List.getElem_toArray, List.getElem_cons_succ, List.getElem_cons_zero, Act.put, List.setIfInBounds_toArray, List.set_cons_zero, List.set_cons_succ]
      refine wpAnyH_ready (rs := [8, 15]) (by kernel_rfl) (by simp) ?_
      refine AllReadyH.cons rfl (fun K hK => ?_) (AllReadyH.cons rfl (fun K hK => ?_) AllReadyH.nil)
      · go_simp
        refine hK.out _ _ ?_ (fun hHeld => ?_)
        · clear hK K; exact HSK.out _ (HBD.out.alloc HBD.out.size _)
        clear hK K
        try simp only [List.getElem_toArray, List.getElem_cons_succ, List.getElem_cons_zero, Act.put, List.setIfInBounds_toArray, List.set_cons_zero, List.set_cons_succ]
        refine wpAnyH_take (i := 14) (v := ?_) rfl (by kernel_rfl) (by kernel_rfl) (by kernel_rfl) (fun _ _ _ h => h) (Or.inl ⟨by rfl, ?_⟩) (by assumption) ?_
        rotate_left
        · intro w hSw; (try dsimp only at hSw); go_simp; (try (with_reducible rfl))
        try simp only [List.getElem_toArray, List.getElem_cons_succ, List.getElem_cons_zero, Act.put, List.setIfInBounds_toArray, List.set_cons_zero, List.set_cons_succ]
        refine wpAnyH_ready (rs := [15]) (by kernel_rfl) (by simp) ?_
        refine AllReadyH.cons rfl (fun K hK => ?_) AllReadyH.nil
        go_simp
        refine hK.out _ _ ?_ (fun hHeld => ?_)
        · clear hK K; exact HSK.out _ ((HBD.out.alloc HBD.out.size _).alloc (by have := HBD.out.size; simp at this ⊢; try omega) _)
        clear hK K
        try simp only [List.getElem_toArray, List.getElem_cons_succ, List.getElem_cons_zero, Act.put, List.setIfInBounds_toArray, List.set_cons_zero, List.set_cons_succ]
        refine wpAnyH_ready (rs := [16]) (by kernel_rfl) (by simp) ?_
        refine AllReadyH.cons rfl (fun K hK => ?_) AllReadyH.nil
        go_simp
        refine hK.out _ _ ?_ (fun hHeld => ?_)
        · clear hK K; exact HSK.out _ ((((Below.refl _ _).alloc (Nat.le_refl _) _).alloc (by simp) _)).drew
        clear hK K
        try simp only [List.getElem_toArray, List.getElem_cons_succ, List.getElem_cons_zero, Act.put, List.setIfInBounds_toArray, List.set_cons_zero, List.set_cons_succ]
        refine wpAnyH_done (by kernel_rfl) ?_ _
        have hz4 : w.heap.size + 2 < W4.heap.size := R4.out.lt
        have HB0 : Hid (Below w.heap.size w ((W4.alloc (.cells (iArr (List.replicate l 0)) 3)).alloc (.cells #[.slice (some ⟨W4.heap.size, 0, none⟩) l l, .int .i64 bb] 45)).drew) := Lib.hid ((((B4.out.alloc B4.out.size _).alloc (by have := B4.out.size; simp; omega) _)).drew)
        have CI0 : Hid (CInv w (W4.heap.size) (W4.heap.size + 1) l #[.slice A n c, .int .i64 b] #[.slice B m d, .int .i64 b2] #[.slice none 0 0, .int .i64 0] bb ((W4.alloc (.cells (iArr (List.replicate l 0)) 3)).alloc (.cells #[.slice (some ⟨W4.heap.size, 0, none⟩) l l, .int .i64 bb] 45)).drew) := Lib.hid ⟨((K4.out.alloc _).alloc _).drew, ((J4.out.alloc _).alloc _).drew, ((R4.out.alloc _).alloc _).drew, by first | exact (by simpa using (Bk.new (W4.alloc (.cells (iArr (List.replicate l 0)) 3)) 45 #[.slice (some ⟨W4.heap.size, 0, none⟩) l l, .int .i64 bb]).drew) | exact ((Bk.new W4 45 #[.slice (some ⟨W4.heap.size + 1, 0, none⟩) l l, .int .i64 bb]).alloc _).drew, HB0.out⟩
        have KG0 : Hid (Bk ((W4.alloc (.cells (iArr (List.replicate l 0)) 3)).alloc (.cells #[.slice (some ⟨W4.heap.size, 0, none⟩) l l, .int .i64 bb] 45)).drew (W4.heap.size) 3 (iArr (List.replicate l 0))) := by
          refine Lib.hid ?_
          first | exact ((Bk.new W4 3 (iArr (List.replicate l 0))).alloc _).drew | exact (by simpa using (Bk.new (W4.alloc (.cells #[.slice (some ⟨W4.heap.size + 1, 0, none⟩) l l, .int .i64 bb] 45)) 3 (iArr (List.replicate l 0))).drew)
        have hgs : w.heap.size + 2 < W4.heap.size := by omega
        have hhs : w.heap.size + 2 < W4.heap.size + 1 := by omega
        have hgh : W4.heap.size + 1 ≠ W4.heap.size := by omega
        obtain ⟨W5, hW5⟩ : ∃ W, ((W4.alloc (.cells (iArr (List.replicate l 0)) 3)).alloc (.cells #[.slice (some ⟨W4.heap.size, 0, none⟩) l l, .int .i64 bb] 45)).drew = W := ⟨_, rfl⟩
        rw [hW5] at CI0 KG0 ⊢
        clear hW5 HB0 hHeld hmi
        obtain ⟨h, hg1⟩ : ∃ x, W4.heap.size + 1 = x := ⟨_, rfl⟩
        simp only [hg1] at CI0 KG0 hgs hhs hgh ⊢
        obtain ⟨g, hg2⟩ : ∃ x, W4.heap.size = x := ⟨_, rfl⟩
        simp only [hg2] at CI0 KG0 hgs hhs hgh ⊢
        clear hg1 hg2 HSK HBD d0 d1 e0 e1 R4 K4 J4 B4
        have HSET : Hid (∀ k j, k < n → j < m → (cvS cs ds l k j).set (k + j) (fsP cs ds (k + j) k + cs.getD k 0 * ds.getD j 0) = cvS cs ds l k (j + 1)) := fun k j h1 h2 => cvS_set cs ds l k j (by have := HLL.out; omega)
        have HOLD : Hid (∀ k j, k < n → j < m → (cvS cs ds l k j).getD (k + j) 0 = fsP cs ds (k + j) k) := fun k j h1 h2 => cvS_old cs ds l k j (by have := HLL.out; omega)
        have HNXT : Hid (∀ k, cvS cs ds l k m = cvS cs ds l (k + 1) 0) := fun k => cvS_next cs ds l k m HDN.out
        have HALL : Hid (cvS cs ds l n 0 = conv cs ds) := cvS_all cs ds n l HCN.out (by have h1 := HLL.out; have h2 := HCN.out; have h3 := HDN.out; omega)
        have HPL : Hid (∀ k j, (cvS cs ds l k j).length = l) := fun k j => cvS_len cs ds l k j
        have HFB : Hid (∀ q k, k ≤ 8 → -8000000000000000 ≤ fsP cs ds q k ∧ fsP cs ds q k ≤ 8000000000000000) := fun q k hk => by
          have := fsP_bd (cs := cs) (xs := ds) hok.2.1 (fun x hx => by have := hok2.2.1 x hx; omega) q k
          omega
        have HCB : Hid (∀ k, -1000 ≤ cs.getD k 0 ∧ cs.getD k 0 ≤ 1000) := fun k => getD_bd (by omega) hok.2.1 k
        have HDB : Hid (∀ k, -1000 ≤ ds.getD k 0 ∧ ds.getD k 0 ≤ 1000) := fun k => getD_bd (by omega) hok2.2.1 k
        rw [← cvS_zero cs ds l] at KG0
        have HPQ : Hid (∀ q k, fsP cs ds q k = fsP cs ds q k) := fun _ _ => rfl
        obtain ⟨P, hP⟩ : ∃ P, cvS cs ds l = P := ⟨_, rfl⟩
        rw [hP] at HSET HOLD HNXT HALL HPL KG0
        obtain ⟨Q, hQ⟩ : ∃ Q, fsP cs ds = Q := ⟨_, rfl⟩
        rw [hQ] at HSET HOLD HFB
        have CF : Hid (∀ W, RdI W (some ⟨g, 0, none⟩) l (conv cs ds) → Calls Try.prog 31 #[.agg #[.slice (some ⟨g, 0, none⟩) l l, .int .i64 bb]] W fun e w' => e = .returned (.int .i64 (fltE (conv cs ds) bb)) ∧ Below W.heap.size W w') := fun W hw => CheckFilter_any _ l l _ bb W hw (by omega)
        have HXU : Hid (∀ W, Below w.heap.size w W → RdI W A n cs) := fun W hb => HR.out.below hb
        have HYU : Hid (∀ W, Below w.heap.size w W → RdI W B m ds) := fun W hb => HX.out.below hb
        clear hP hQ hok hok2 HOK HR HX HPQ
        obtain ⟨d0, d1⟩ := bkf2 CI0.out.k1
        go_wp2
        clear d0 d1
        go_loopw [40] (fun i wr => ∃ k : Nat, k ≤ n ∧ i = .int .i64 k ∧ Hid (Bk wr g 3 (iArr (P k 0))) ∧ Hid (CInv w g h l #[.slice A n c, .int .i64 b] #[.slice B m d, .int .i64 b2] #[.slice none 0 0, .int .i64 0] bb wr)) (fun i _ => n - (intOf i).toNat)
        case atStart => exact ⟨0, Nat.zero_le _, rfl, KG0, CI0⟩
        case round =>
          obtain ⟨k, hk, rfl, KG, CI⟩ := hrel
          obtain ⟨WA, hWA⟩ : ∃ W, W = wr := ⟨_, rfl⟩
          subst hWA
          by_cases hlt : k < n
          · have hkI : (k : Int) < (n : Int) := by omega
            obtain ⟨ad, rfl, _, hca⟩ := (HXU.out _ CI.out.bel).2 (by omega)
            have hck := hca k hlt
            have hcb := HCB.out k
            clear hca
            obtain ⟨x, hx⟩ : ∃ x, cs.getD k 0 = x := ⟨_, rfl⟩
            have HS1 := Lib.hid (fun j (h2 : j < m) => HSET.out k j hlt h2)
            rw [hx] at hck hcb HS1
            clear hx
            obtain ⟨e0, e1⟩ := bkf2 CI.out.k2
            go_wp2
            clear hck e0 e1
            go_loopw [48] (fun i wr => ∃ j : Nat, j ≤ m ∧ i = .int .i64 j ∧ Hid (Bk wr g 3 (iArr (P k j))) ∧ Hid (CInv w g h l #[.slice (some ad) n c, .int .i64 b] #[.slice B m d, .int .i64 b2] #[.slice none 0 0, .int .i64 0] bb wr)) (fun i _ => m - (intOf i).toNat)
            case atStart => exact ⟨0, Nat.zero_le _, rfl, KG, CI⟩
            case round =>
              obtain ⟨j, hj, rfl, KJ, CJ⟩ := hrel
              by_cases hltj : j < m
              · have hjI : (j : Int) < (m : Int) := by omega
                obtain ⟨bd, rfl, _, hcy⟩ := (HYU.out _ CJ.out.bel).2 (by omega)
                have hcj := hcy j hltj
                have hyb := HDB.out j
                clear hcy
                have hs := HS1.out j hltj
                have ho := HOLD.out k j hlt hltj
                have hob := HFB.out (k + j) k (by omega)
                obtain ⟨y, hy⟩ : ∃ y, ds.getD j 0 = y := ⟨_, rfl⟩
                rw [hy] at hcj hyb hs
                obtain ⟨o, hoe⟩ : ∃ o, Q (k + j) k = o := ⟨_, rfl⟩
                rw [hoe] at hs ho hob
                obtain ⟨q, hq⟩ : ∃ q, k + j = q := ⟨_, rfl⟩
                rw [hq] at hs ho
                have hql : q < l := by have := HLL.out; omega
                have hqI : (q : Int) < (l : Int) := by omega
                have hq0 : (0 : Int) ≤ (q : Int) := by omega
                have v4 : IntKind.i64.wrap ((k : Int) + (j : Int)) = (q : Int) := by rw [show (k : Int) + (j : Int) = (q : Int) by omega]; exact IntWalk.i64_in _ (by omega)
                have hmul := mul_bd hcb hyb (by omega) (by omega)
                have v5 : IntKind.i64.wrap (x * y) = x * y := IntWalk.i64_in _ (by omega)
                have v6 : IntKind.i64.wrap (o + x * y) = o + x * y := IntWalk.i64_in _ (by omega)
                have hg1 : wr.cell? ⟨g, q, none⟩ = some (.int .i64 o) := by
                  rw [KJ.out.cell, iArr_at _ _ (by rw [HPL.out]; exact hql), ho]
                have hf1 : wr.frozen? ⟨g, q, none⟩ = false := KJ.out.frozen q
                obtain ⟨p0, p1⟩ := bkf2 CJ.out.p
                have KJN : Hid (Bk (wr.setCell ⟨g, q, none⟩ (.int .i64 (o + x * y))) g 3 (iArr (P k (j + 1)))) := by
                  refine Lib.hid ?_
                  have := KJ.out.set_ q (.int .i64 (o + x * y))
                  rw [iArr_set, hs] at this
                  exact this
                have CJN := Lib.hid (CJ.out.set hgs hgh q (.int .i64 (o + x * y)))
                clear hs ho hoe hq hy hmul
                go_wp2
                go_roundw
                case rel => exact ⟨j + 1, by omega, by go_num, KJN, CJN⟩
                case measure => simp [intOf]; omega
              · obtain rfl : m = j := by omega
                have hjI : ¬ (m : Int) < (m : Int) := by omega
                have KN : Hid (Bk wr g 3 (iArr (P (k + 1) 0))) := by
                  refine Lib.hid ?_
                  rw [← HNXT.out]; exact KJ.out
                clear hltj KJ
                go_wp2
                go_roundw
                case rel => exact ⟨k + 1, by omega, by go_num, KN, CJ⟩
                case measure => simp [intOf]; omega
          · obtain rfl : n = k := by omega
            have hkI : ¬ (n : Int) < (n : Int) := by omega
            have KF : Hid (Bk WA g 3 (iArr (conv cs ds))) := by
              refine Lib.hid ?_
              rw [← HALL.out]; exact KG.out
            have HCVL : Hid ((conv cs ds).length = l) := by show _ = _; rw [← HALL.out]; exact HPL.out n 0
            have HRD := Lib.hid (rd_of_bk KF.out HCVL.out)
            clear hlt KG
            obtain ⟨p0, p1⟩ := bkf2 CI.out.p
            obtain ⟨E3, hE3⟩ : ∃ E, fltE (conv cs ds) bb = E := ⟨_, rfl⟩
            rw [HBE.out, hE3] at HME2
            rw [hE3] at CF
            clear hE3
            go_wp2_with fail
            refine (CF.out _ HRD.out).mono ?_
            rintro e w9 ⟨rfl, hb9⟩
            have KF9 := Lib.hid (KF.out.later hb9)
            have P9 := Lib.hid (CI.out.p.later hb9)
            have R9 := Lib.hid (CI.out.r.later hb9)
            have B9 := Lib.hid (CI.out.bel.trans (hb9.mono CI.out.bel.size))
            clear hb9 p0 p1
            obtain ⟨p0, p1⟩ := bkf2 P9.out
            obtain ⟨r0, r1, f0, f1⟩ := cell2' R9.out
            by_cases h3 : E3 = 0
            · subst h3
              have h4 := HME2.out
              rw [if_pos rfl] at h4
              have h5 := HML.out
              have h6 := HMD.out
              rw [h4, if_pos rfl] at h5 h6
              rw [HBE.out] at h6
              have h7 := h6.symm
              subst h4 h5 h7
              clear HML HMD HME2
              have KFF := Lib.hid ((KF9.out.far ⟨w.heap.size + 2, 0, none⟩ (by show g ≠ w.heap.size + 2; omega) (.slice (some ⟨g, 0, none⟩) l l)).far ⟨w.heap.size + 2, 1, none⟩ (by show g ≠ w.heap.size + 2; omega) (.int .i64 bb))
              go_wp2
              refine bodyPost_ret (v := .tuple #[.agg #[.slice (some ⟨g, 0, none⟩) l l, .int .i64 bb], .int .i64 0]) (by simp [results, Try.results43, go_sem, r0, r1, f0, f1]) rfl ⟨⟨some ⟨g, 0, none⟩, l, ?_, ?_, (fun h => by cases h), (fun a e => by cases e; show w.heap.size ≤ g; omega)⟩, ?_⟩
              · rw [HCVL.out]
              · rw [HCVL.out]; exact rd_of_bk KFF.out HCVL.out
              · have := B9.out.size
                have := B9.out
                go_grown
            · have d3 : (E3 != 0) = true := by rw [bne_iff_ne]; exact h3
              have h4 := HME2.out
              rw [if_neg h3] at h4
              have h5 := HML.out
              have h6 := HMD.out
              rw [h4, if_neg (by decide)] at h5 h6
              subst h4 h5 h6
              clear HML HMD HME2
              go_wp2
              refine bodyPost_ret (v := .tuple #[.agg #[.slice none 0 0, .int .i64 0], .int .i64 8]) (by simp [results, Try.results43, go_sem, r0, r1, f0, f1]) rfl ⟨⟨none, 0, rfl, ⟨rfl, fun h => absurd h (by simp)⟩, fun _ => ⟨rfl, rfl⟩, fun a e => by cases e⟩, ?_⟩
              have := B9.out.size
              have := B9.out
              go_grown
      · go_simp
        refine hK.out _ _ ?_ (fun hHeld => ?_)
        · clear hK K; exact HSK.out _ (HBD.out.alloc HBD.out.size _)
        clear hK K
        try simp only [List.getElem_toArray, List.getElem_cons_succ, List.getElem_cons_zero, Act.put, List.setIfInBounds_toArray, List.set_cons_zero, List.set_cons_succ]
        refine wpAnyH_ready (rs := [8]) (by kernel_rfl) (by simp) ?_
        refine AllReadyH.cons rfl (fun K hK => ?_) AllReadyH.nil
        go_simp
        refine hK.out _ _ ?_ (fun hHeld => ?_)
        · clear hK K; exact HSK.out _ ((HBD.out.alloc HBD.out.size _).alloc (by have := HBD.out.size; simp at this ⊢; try omega) _)
        clear hK K
        try simp only [List.getElem_toArray, List.getElem_cons_succ, List.getElem_cons_zero, Act.put, List.setIfInBounds_toArray, List.set_cons_zero, List.set_cons_succ]
        refine wpAnyH_take (i := 14) (v := ?_) rfl (by kernel_rfl) (by kernel_rfl) (by kernel_rfl) (fun _ _ _ h => h) (Or.inl ⟨by rfl, ?_⟩) (by assumption) ?_
        rotate_left
        · intro w hSw; (try dsimp only at hSw); go_simp; (try (with_reducible rfl))
        try simp only [List.getElem_toArray, List.getElem_cons_succ, List.getElem_cons_zero, Act.put, List.setIfInBounds_toArray, List.set_cons_zero, List.set_cons_succ]
        refine wpAnyH_ready (rs := [16]) (by kernel_rfl) (by simp) ?_
        refine AllReadyH.cons rfl (fun K hK => ?_) AllReadyH.nil
        go_simp
        refine hK.out _ _ ?_ (fun hHeld => ?_)
        · clear hK K; exact HSK.out _ ((((Below.refl _ _).alloc (Nat.le_refl _) _).alloc (by simp) _)).drew
        clear hK K
        try simp only [List.getElem_toArray, List.getElem_cons_succ, List.getElem_cons_zero, Act.put, List.setIfInBounds_toArray, List.set_cons_zero, List.set_cons_succ]
        refine wpAnyH_done (by kernel_rfl) ?_ _
        have hz4 : w.heap.size + 2 < W4.heap.size := R4.out.lt
        have HB0 : Hid (Below w.heap.size w ((W4.alloc (.cells #[.slice (some ⟨W4.heap.size + 1, 0, none⟩) l l, .int .i64 bb] 45)).alloc (.cells (iArr (List.replicate l 0)) 3)).drew) := Lib.hid ((((B4.out.alloc B4.out.size _).alloc (by have := B4.out.size; simp; omega) _)).drew)
        have CI0 : Hid (CInv w (W4.heap.size + 1) (W4.heap.size) l #[.slice A n c, .int .i64 b] #[.slice B m d, .int .i64 b2] #[.slice none 0 0, .int .i64 0] bb ((W4.alloc (.cells #[.slice (some ⟨W4.heap.size + 1, 0, none⟩) l l, .int .i64 bb] 45)).alloc (.cells (iArr (List.replicate l 0)) 3)).drew) := Lib.hid ⟨((K4.out.alloc _).alloc _).drew, ((J4.out.alloc _).alloc _).drew, ((R4.out.alloc _).alloc _).drew, by first | exact (by simpa using (Bk.new (W4.alloc (.cells (iArr (List.replicate l 0)) 3)) 45 #[.slice (some ⟨W4.heap.size, 0, none⟩) l l, .int .i64 bb]).drew) | exact ((Bk.new W4 45 #[.slice (some ⟨W4.heap.size + 1, 0, none⟩) l l, .int .i64 bb]).alloc _).drew, HB0.out⟩
        have KG0 : Hid (Bk ((W4.alloc (.cells #[.slice (some ⟨W4.heap.size + 1, 0, none⟩) l l, .int .i64 bb] 45)).alloc (.cells (iArr (List.replicate l 0)) 3)).drew (W4.heap.size + 1) 3 (iArr (List.replicate l 0))) := by
          refine Lib.hid ?_
          first | exact ((Bk.new W4 3 (iArr (List.replicate l 0))).alloc _).drew | exact (by simpa using (Bk.new (W4.alloc (.cells #[.slice (some ⟨W4.heap.size + 1, 0, none⟩) l l, .int .i64 bb] 45)) 3 (iArr (List.replicate l 0))).drew)
        have hgs : w.heap.size + 2 < W4.heap.size + 1 := by omega
        have hhs : w.heap.size + 2 < W4.heap.size := by omega
        have hgh : W4.heap.size ≠ W4.heap.size + 1 := by omega
        obtain ⟨W5, hW5⟩ : ∃ W, ((W4.alloc (.cells #[.slice (some ⟨W4.heap.size + 1, 0, none⟩) l l, .int .i64 bb] 45)).alloc (.cells (iArr (List.replicate l 0)) 3)).drew = W := ⟨_, rfl⟩
        rw [hW5] at CI0 KG0 ⊢
        clear hW5 HB0 hHeld hmi
        obtain ⟨g, hg1⟩ : ∃ x, W4.heap.size + 1 = x := ⟨_, rfl⟩
        simp only [hg1] at CI0 KG0 hgs hhs hgh ⊢
        obtain ⟨h, hg2⟩ : ∃ x, W4.heap.size = x := ⟨_, rfl⟩
        simp only [hg2] at CI0 KG0 hgs hhs hgh ⊢
        clear hg1 hg2 HSK HBD d0 d1 e0 e1 R4 K4 J4 B4
        have HSET : Hid (∀ k j, k < n → j < m → (cvS cs ds l k j).set (k + j) (fsP cs ds (k + j) k + cs.getD k 0 * ds.getD j 0) = cvS cs ds l k (j + 1)) := fun k j h1 h2 => cvS_set cs ds l k j (by have := HLL.out; omega)
        have HOLD : Hid (∀ k j, k < n → j < m → (cvS cs ds l k j).getD (k + j) 0 = fsP cs ds (k + j) k) := fun k j h1 h2 => cvS_old cs ds l k j (by have := HLL.out; omega)
        have HNXT : Hid (∀ k, cvS cs ds l k m = cvS cs ds l (k + 1) 0) := fun k => cvS_next cs ds l k m HDN.out
        have HALL : Hid (cvS cs ds l n 0 = conv cs ds) := cvS_all cs ds n l HCN.out (by have h1 := HLL.out; have h2 := HCN.out; have h3 := HDN.out; omega)
        have HPL : Hid (∀ k j, (cvS cs ds l k j).length = l) := fun k j => cvS_len cs ds l k j
        have HFB : Hid (∀ q k, k ≤ 8 → -8000000000000000 ≤ fsP cs ds q k ∧ fsP cs ds q k ≤ 8000000000000000) := fun q k hk => by
          have := fsP_bd (cs := cs) (xs := ds) hok.2.1 (fun x hx => by have := hok2.2.1 x hx; omega) q k
          omega
        have HCB : Hid (∀ k, -1000 ≤ cs.getD k 0 ∧ cs.getD k 0 ≤ 1000) := fun k => getD_bd (by omega) hok.2.1 k
        have HDB : Hid (∀ k, -1000 ≤ ds.getD k 0 ∧ ds.getD k 0 ≤ 1000) := fun k => getD_bd (by omega) hok2.2.1 k
        rw [← cvS_zero cs ds l] at KG0
        have HPQ : Hid (∀ q k, fsP cs ds q k = fsP cs ds q k) := fun _ _ => rfl
        obtain ⟨P, hP⟩ : ∃ P, cvS cs ds l = P := ⟨_, rfl⟩
        rw [hP] at HSET HOLD HNXT HALL HPL KG0
        obtain ⟨Q, hQ⟩ : ∃ Q, fsP cs ds = Q := ⟨_, rfl⟩
        rw [hQ] at HSET HOLD HFB
        have CF : Hid (∀ W, RdI W (some ⟨g, 0, none⟩) l (conv cs ds) → Calls Try.prog 31 #[.agg #[.slice (some ⟨g, 0, none⟩) l l, .int .i64 bb]] W fun e w' => e = .returned (.int .i64 (fltE (conv cs ds) bb)) ∧ Below W.heap.size W w') := fun W hw => CheckFilter_any _ l l _ bb W hw (by omega)
        have HXU : Hid (∀ W, Below w.heap.size w W → RdI W A n cs) := fun W hb => HR.out.below hb
        have HYU : Hid (∀ W, Below w.heap.size w W → RdI W B m ds) := fun W hb => HX.out.below hb
        clear hP hQ hok hok2 HOK HR HX HPQ
        obtain ⟨d0, d1⟩ := bkf2 CI0.out.k1
        go_wp2
        clear d0 d1
        go_loopw [40] (fun i wr => ∃ k : Nat, k ≤ n ∧ i = .int .i64 k ∧ Hid (Bk wr g 3 (iArr (P k 0))) ∧ Hid (CInv w g h l #[.slice A n c, .int .i64 b] #[.slice B m d, .int .i64 b2] #[.slice none 0 0, .int .i64 0] bb wr)) (fun i _ => n - (intOf i).toNat)
        case atStart => exact ⟨0, Nat.zero_le _, rfl, KG0, CI0⟩
        case round =>
          obtain ⟨k, hk, rfl, KG, CI⟩ := hrel
          obtain ⟨WA, hWA⟩ : ∃ W, W = wr := ⟨_, rfl⟩
          subst hWA
          by_cases hlt : k < n
          · have hkI : (k : Int) < (n : Int) := by omega
            obtain ⟨ad, rfl, _, hca⟩ := (HXU.out _ CI.out.bel).2 (by omega)
            have hck := hca k hlt
            have hcb := HCB.out k
            clear hca
            obtain ⟨x, hx⟩ : ∃ x, cs.getD k 0 = x := ⟨_, rfl⟩
            have HS1 := Lib.hid (fun j (h2 : j < m) => HSET.out k j hlt h2)
            rw [hx] at hck hcb HS1
            clear hx
            obtain ⟨e0, e1⟩ := bkf2 CI.out.k2
            go_wp2
            clear hck e0 e1
            go_loopw [48] (fun i wr => ∃ j : Nat, j ≤ m ∧ i = .int .i64 j ∧ Hid (Bk wr g 3 (iArr (P k j))) ∧ Hid (CInv w g h l #[.slice (some ad) n c, .int .i64 b] #[.slice B m d, .int .i64 b2] #[.slice none 0 0, .int .i64 0] bb wr)) (fun i _ => m - (intOf i).toNat)
            case atStart => exact ⟨0, Nat.zero_le _, rfl, KG, CI⟩
            case round =>
              obtain ⟨j, hj, rfl, KJ, CJ⟩ := hrel
              by_cases hltj : j < m
              · have hjI : (j : Int) < (m : Int) := by omega
                obtain ⟨bd, rfl, _, hcy⟩ := (HYU.out _ CJ.out.bel).2 (by omega)
                have hcj := hcy j hltj
                have hyb := HDB.out j
                clear hcy
                have hs := HS1.out j hltj
                have ho := HOLD.out k j hlt hltj
                have hob := HFB.out (k + j) k (by omega)
                obtain ⟨y, hy⟩ : ∃ y, ds.getD j 0 = y := ⟨_, rfl⟩
                rw [hy] at hcj hyb hs
                obtain ⟨o, hoe⟩ : ∃ o, Q (k + j) k = o := ⟨_, rfl⟩
                rw [hoe] at hs ho hob
                obtain ⟨q, hq⟩ : ∃ q, k + j = q := ⟨_, rfl⟩
                rw [hq] at hs ho
                have hql : q < l := by have := HLL.out; omega
                have hqI : (q : Int) < (l : Int) := by omega
                have hq0 : (0 : Int) ≤ (q : Int) := by omega
                have v4 : IntKind.i64.wrap ((k : Int) + (j : Int)) = (q : Int) := by rw [show (k : Int) + (j : Int) = (q : Int) by omega]; exact IntWalk.i64_in _ (by omega)
                have hmul := mul_bd hcb hyb (by omega) (by omega)
                have v5 : IntKind.i64.wrap (x * y) = x * y := IntWalk.i64_in _ (by omega)
                have v6 : IntKind.i64.wrap (o + x * y) = o + x * y := IntWalk.i64_in _ (by omega)
                have hg1 : wr.cell? ⟨g, q, none⟩ = some (.int .i64 o) := by
                  rw [KJ.out.cell, iArr_at _ _ (by rw [HPL.out]; exact hql), ho]
                have hf1 : wr.frozen? ⟨g, q, none⟩ = false := KJ.out.frozen q
                obtain ⟨p0, p1⟩ := bkf2 CJ.out.p
                have KJN : Hid (Bk (wr.setCell ⟨g, q, none⟩ (.int .i64 (o + x * y))) g 3 (iArr (P k (j + 1)))) := by
                  refine Lib.hid ?_
                  have := KJ.out.set_ q (.int .i64 (o + x * y))
                  rw [iArr_set, hs] at this
                  exact this
                have CJN := Lib.hid (CJ.out.set hgs hgh q (.int .i64 (o + x * y)))
                clear hs ho hoe hq hy hmul
                go_wp2
                go_roundw
                case rel => exact ⟨j + 1, by omega, by go_num, KJN, CJN⟩
                case measure => simp [intOf]; omega
              · obtain rfl : m = j := by omega
                have hjI : ¬ (m : Int) < (m : Int) := by omega
                have KN : Hid (Bk wr g 3 (iArr (P (k + 1) 0))) := by
                  refine Lib.hid ?_
                  rw [← HNXT.out]; exact KJ.out
                clear hltj KJ
                go_wp2
                go_roundw
                case rel => exact ⟨k + 1, by omega, by go_num, KN, CJ⟩
                case measure => simp [intOf]; omega
          · obtain rfl : n = k := by omega
            have hkI : ¬ (n : Int) < (n : Int) := by omega
            have KF : Hid (Bk WA g 3 (iArr (conv cs ds))) := by
              refine Lib.hid ?_
              rw [← HALL.out]; exact KG.out
            have HCVL : Hid ((conv cs ds).length = l) := by show _ = _; rw [← HALL.out]; exact HPL.out n 0
            have HRD := Lib.hid (rd_of_bk KF.out HCVL.out)
            clear hlt KG
            obtain ⟨p0, p1⟩ := bkf2 CI.out.p
            obtain ⟨E3, hE3⟩ : ∃ E, fltE (conv cs ds) bb = E := ⟨_, rfl⟩
            rw [HBE.out, hE3] at HME2
            rw [hE3] at CF
            clear hE3
            go_wp2_with fail
            refine (CF.out _ HRD.out).mono ?_
            rintro e w9 ⟨rfl, hb9⟩
            have KF9 := Lib.hid (KF.out.later hb9)
            have P9 := Lib.hid (CI.out.p.later hb9)
            have R9 := Lib.hid (CI.out.r.later hb9)
            have B9 := Lib.hid (CI.out.bel.trans (hb9.mono CI.out.bel.size))
            clear hb9 p0 p1
            obtain ⟨p0, p1⟩ := bkf2 P9.out
            obtain ⟨r0, r1, f0, f1⟩ := cell2' R9.out
            by_cases h3 : E3 = 0
            · subst h3
              have h4 := HME2.out
              rw [if_pos rfl] at h4
              have h5 := HML.out
              have h6 := HMD.out
              rw [h4, if_pos rfl] at h5 h6
              rw [HBE.out] at h6
              have h7 := h6.symm
              subst h4 h5 h7
              clear HML HMD HME2
              have KFF := Lib.hid ((KF9.out.far ⟨w.heap.size + 2, 0, none⟩ (by show g ≠ w.heap.size + 2; omega) (.slice (some ⟨g, 0, none⟩) l l)).far ⟨w.heap.size + 2, 1, none⟩ (by show g ≠ w.heap.size + 2; omega) (.int .i64 bb))
              go_wp2
              refine bodyPost_ret (v := .tuple #[.agg #[.slice (some ⟨g, 0, none⟩) l l, .int .i64 bb], .int .i64 0]) (by simp [results, Try.results43, go_sem, r0, r1, f0, f1]) rfl ⟨⟨some ⟨g, 0, none⟩, l, ?_, ?_, (fun h => by cases h), (fun a e => by cases e; show w.heap.size ≤ g; omega)⟩, ?_⟩
              · rw [HCVL.out]
              · rw [HCVL.out]; exact rd_of_bk KFF.out HCVL.out
              · have := B9.out.size
                have := B9.out
                go_grown
            · have d3 : (E3 != 0) = true := by rw [bne_iff_ne]; exact h3
              have h4 := HME2.out
              rw [if_neg h3] at h4
              have h5 := HML.out
              have h6 := HMD.out
              rw [h4, if_neg (by decide)] at h5 h6
              subst h4 h5 h6
              clear HML HMD HME2
              go_wp2
              refine bodyPost_ret (v := .tuple #[.agg #[.slice none 0 0, .int .i64 0], .int .i64 8]) (by simp [results, Try.results43, go_sem, r0, r1, f0, f1]) rfl ⟨⟨none, 0, rfl, ⟨rfl, fun h => absurd h (by simp)⟩, fun _ => ⟨rfl, rfl⟩, fun a e => by cases e⟩, ?_⟩
              have := B9.out.size
              have := B9.out
              go_grown
    · have d2 : (E != 0) = true := by rw [bne_iff_ne]; exact h0
      have h4 := HME.out
      rw [if_neg h0] at h4
      have h5 := HML.out
      have h6 := HMD.out
      rw [h4, if_neg h0] at h5 h6
      subst h4 h5 h6
      obtain ⟨r0, r1, f0, f1⟩ := cell2' R4.out
      clear HML HMD HME HOK h0
      go_wp2
      refine bodyPost_ret (v := .tuple #[.agg #[.slice none 0 0, .int .i64 0], .int .i64 EE]) (by simp [results, Try.results43, go_sem, r0, r1, f0, f1]) rfl ⟨⟨none, 0, rfl, ⟨rfl, fun h => absurd h (by simp)⟩, fun _ => ⟨rfl, rfl⟩, fun a e => by cases e⟩, ?_⟩
      have := B4.out.size
      have := B4.out
      go_grown

end Go.Proofs.Ytghpofhpkbgckaa


namespace Go.Proofs.Ytghpofhpkbgckaa
open Go.RowKit

theorem cell2r {W : World} {g : Nat} {t : TypeId} {x y : Value} (h : Bk W g t #[x, y]) : W.cell? ⟨g, 0, none⟩ = some x ∧ W.cell? ⟨g, 1, none⟩ = some y ∧ W.frozen? ⟨g, 0, none⟩ = false ∧ W.frozen? ⟨g, 1, none⟩ = false :=
  ⟨by rw [h.cell]; rfl, by rw [h.cell]; rfl, h.frozen 0, h.frozen 1⟩
/-- The boxes of the reference's product. -/
structure CRef (w : World) (f1 f2 f3 f4 : Array Value) (W : World) : Prop where
  k1 : Bk W w.heap.size 45 f1
  k2 : Bk W (w.heap.size + 1) 45 f2
  r : Bk W (w.heap.size + 2) 45 f3
  o : Bk W (w.heap.size + 3) 45 f4
  bel : Below w.heap.size w W
theorem CRef.drewN {w : World} {f1 f2 f3 f4 : Array Value} {W : World} (h : CRef w f1 f2 f3 f4 W) (k : Nat) : CRef w f1 f2 f3 f4 (W.drewN k) := ⟨h.k1.drewN k, h.k2.drewN k, h.r.drewN k, h.o.drewN k, belowDrewN h.bel k⟩
set_option maxRecDepth 100000 in
set_option maxHeartbeats 4000000 in
theorem refComposed_any (A : Option Addr) (n c : Nat) (b : Int) (cs : List Int) (B : Option Addr) (m d : Nat) (b2 : Int) (ds : List Int) (w : World) (hr : RdI w A n cs) (hx : RdI w B m ds) (hok : (1 ≤ cs.length ∧ cs.length ≤ 8) ∧ (∀ c ∈ cs, -1000 ≤ c ∧ c ≤ 1000) ∧ 1 ≤ b ∧ b ≤ 1000) (hok2 : (1 ≤ ds.length ∧ ds.length ≤ 8) ∧ (∀ c ∈ ds, -1000 ≤ c ∧ c ≤ 1000) ∧ 1 ≤ b2 ∧ b2 ≤ 1000) (E : Int) (hE : (if fltE (conv cs ds) (b * b2) = 0 then 0 else 8) = E) (D : Int) (hD : (if E = 0 then b * b2 else 0) = D) (L : List Int) (hL : (if E = 0 then conv cs ds else []) = L) :
    Calls Try.prog 44 #[.agg #[.slice A n c, .int .i64 b], .agg #[.slice B m d, .int .i64 b2]] w (CpR w E D L.length L) := by
  have HXU : Hid (∀ W, Below w.heap.size w W → RdI W A n cs) := fun W hb => hr.below hb
  have HYU : Hid (∀ W, Below w.heap.size w W → RdI W B m ds) := fun W hb => hx.below hb
  have HCN : Hid (cs.length = n) := hr.1
  have HDN : Hid (ds.length = m) := hx.1
  have hn8 : 1 ≤ n ∧ n ≤ 8 := by have := HCN.out; omega
  have hm8 : 1 ≤ m ∧ m ≤ 8 := by have := HDN.out; omega
  obtain ⟨l, hl⟩ : ∃ l, n + m - 1 = l := ⟨_, rfl⟩
  have hll : 1 ≤ l ∧ l ≤ 15 := by omega
  have v1 : IntKind.i64.wrap ((n : Int) + (m : Int)) = (l : Int) + 1 := by rw [show (n : Int) + (m : Int) = (l : Int) + 1 by omega]; exact IntWalk.i64_in _ (by omega)
  have v2 : IntKind.i64.wrap ((l : Int) + 1 - 1) = (l : Int) := by rw [show (l : Int) + 1 - 1 = (l : Int) by omega]; exact IntWalk.i64_in _ (by omega)
  have v2' : IntKind.i64.wrap (l : Int) = (l : Int) := IntWalk.i64_in _ (by omega)
  have hbb := mul_bd (a := b) (b := b2) (A := 1000) (B := 1000) (by omega) (by omega) (by omega) (by omega)
  obtain ⟨bb, hbbe⟩ : ∃ z, b * b2 = z := ⟨_, rfl⟩
  have v3 : IntKind.i64.wrap (b * b2) = bb := by rw [← hbbe]; exact IntWalk.i64_in _ (by omega)
  rw [hbbe] at hbb hE hD
  have HLL := Lib.hid hl
  have HTK : Hid (∀ k, k < l → (conv cs ds).take (k + 1) = (conv cs ds).take k ++ [fsum cs ds k]) := fun k hk => conv_take cs ds k l (by have h1 := HCN.out; have h2 := HDN.out; omega) hk
  have HCL : Hid ((conv cs ds).length = l) := by show _ = _; rw [conv_len]; have h1 := HCN.out; have h2 := HDN.out; omega
  have HFB : Hid (∀ q k, k ≤ 16 → -16000000000000000 ≤ fsP cs ds q k ∧ fsP cs ds q k ≤ 16000000000000000) := fun q k hk => by
    have := fsP_bd (cs := cs) (xs := ds) hok.2.1 (fun x hx => by have := hok2.2.1 x hx; omega) q k
    omega
  have HFS : Hid (∀ q k, fsP cs ds q (k + 1) = fsP cs ds q k + (if k ≤ q then cs.getD k 0 * ds.getD (q - k) 0 else 0)) := fun q k => rfl
  have HFE : Hid (∀ q k, q < k → fsP cs ds q k = fsum cs ds q) := fun q k h => fsP_ends cs ds q k (.inr h)
  have HF0 : Hid (∀ q, fsP cs ds q 0 = 0) := fun q => rfl
  have HC0 : Hid (∀ k, n ≤ k → cs.getD k 0 = 0) := fun k hk => by rw [List.getD_eq_getElem?_getD, List.getElem?_eq_none (by have := HCN.out; omega)]; rfl
  have HD0 : Hid (∀ k, m ≤ k → ds.getD k 0 = 0) := fun k hk => by rw [List.getD_eq_getElem?_getD, List.getElem?_eq_none (by have := HDN.out; omega)]; rfl
  have HCB : Hid (∀ k, -1000 ≤ cs.getD k 0 ∧ cs.getD k 0 ≤ 1000) := fun k => getD_bd (by omega) hok.2.1 k
  have HDB : Hid (∀ k, -1000 ≤ ds.getD k 0 ∧ ds.getD k 0 ≤ 1000) := fun k => getD_bd (by omega) hok2.2.1 k
  have CF : Hid (∀ A' c' W, RdI W A' l (conv cs ds) → Calls Try.prog 30 #[.agg #[.slice A' l c', .int .i64 bb]] W fun e w' => e = .returned (.int .i64 (fltE (conv cs ds) bb)) ∧ Below W.heap.size W w') := fun A' c' W h => refFilterErr_any A' l c' bb (conv cs ds) W h (by omega)
  obtain ⟨E3, hE3⟩ : ∃ E, fltE (conv cs ds) bb = E := ⟨_, rfl⟩
  rw [hE3] at CF hE
  obtain ⟨CV, hCV⟩ : ∃ C, conv cs ds = C := ⟨_, rfl⟩
  rw [hCV] at CF HTK HCL hL
  have HEE := Lib.hid hE
  have HDD := Lib.hid hD
  have HLE := Lib.hid hL
  obtain ⟨P, hP⟩ : ∃ P, fsP cs ds = P := ⟨_, rfl⟩
  rw [hP] at HFB HFS HFE HF0
  obtain ⟨FS, hFS⟩ : ∃ P, fsum cs ds = P := ⟨_, rfl⟩
  rw [hFS] at HTK HFE
  obtain ⟨i0, hi0, hza, hzb, hzc⟩ := info_parts intInfo'
  have CR0 : Hid (CRef w #[.slice A n c, .int .i64 b] #[.slice B m d, .int .i64 b2] #[.slice none 0 0, .int .i64 0] #[.slice none 0 0, .int .i64 bb] ((((w.alloc (.cells #[.slice A n c, .int .i64 b] 45)).alloc (.cells #[.slice B m d, .int .i64 b2] 45)).alloc (.cells #[.slice none 0 0, .int .i64 0] 45)).alloc (.cells #[.slice none 0 0, .int .i64 bb] 45))) := Lib.hid ⟨(((Bk.new w 45 #[.slice A n c, .int .i64 b]).alloc _).alloc _).alloc _, by simpa using ((Bk.new (w.alloc (.cells #[.slice A n c, .int .i64 b] 45)) 45 #[.slice B m d, .int .i64 b2]).alloc (.cells #[.slice none 0 0, .int .i64 0] 45)).alloc (.cells #[.slice none 0 0, .int .i64 bb] 45), by simpa using (Bk.new ((w.alloc (.cells #[.slice A n c, .int .i64 b] 45)).alloc (.cells #[.slice B m d, .int .i64 b2] 45)) 45 #[.slice none 0 0, .int .i64 0]).alloc (.cells #[.slice none 0 0, .int .i64 bb] 45), by simpa using Bk.new (((w.alloc (.cells #[.slice A n c, .int .i64 b] 45)).alloc (.cells #[.slice B m d, .int .i64 b2] 45)).alloc (.cells #[.slice none 0 0, .int .i64 0] 45)) 45 #[.slice none 0 0, .int .i64 bb], below4 _ _ _ _ _⟩
  have K1 : Hid (Bk (((w.alloc (.cells #[.slice A n c, .int .i64 b] 45)).alloc (.cells #[.slice B m d, .int .i64 b2] 45)).alloc (.cells #[.slice none 0 0, .int .i64 0] 45)) w.heap.size 45 #[.slice A n c, .int .i64 b]) := ((Bk.new w 45 #[.slice A n c, .int .i64 b]).alloc _).alloc _
  have K2 : Hid (Bk (((w.alloc (.cells #[.slice A n c, .int .i64 b] 45)).alloc (.cells #[.slice B m d, .int .i64 b2] 45)).alloc (.cells #[.slice none 0 0, .int .i64 0] 45)) (w.heap.size + 1) 45 #[.slice B m d, .int .i64 b2]) := by
    have := (Bk.new (w.alloc (.cells #[.slice A n c, .int .i64 b] 45)) 45 #[.slice B m d, .int .i64 b2]).alloc (.cells #[.slice none 0 0, .int .i64 0] 45)
    refine Lib.hid ?_
    simpa using this
  clear hr hx hok hok2 hl hbbe hE hD hL hE3 hCV hP hFS
  go_enter Try.func44, Try.ntmps44
  obtain ⟨d0, d1⟩ := bkf2 K1.out
  obtain ⟨e0, e1⟩ := bkf2 K2.out
  go_wp2
  obtain ⟨W1, hW1⟩ : ∃ W, (((w.alloc (.cells #[.slice A n c, .int .i64 b] 45)).alloc (.cells #[.slice B m d, .int .i64 b2] 45)).alloc (.cells #[.slice none 0 0, .int .i64 0] 45)).alloc (.cells #[.slice none 0 0, .int .i64 bb] 45) = W := ⟨_, rfl⟩
  try rw [hW1] at CR0 ⊢
  clear hW1 d0 d1 e0 e1 K1 K2
  go_loopw [7] (fun i wr => ∃ (k : Nat) (p : Value), k ≤ l ∧ i = .int .i64 k ∧ Hid (wr.ownsRow (w.heap.size + 4) 3 1 p k ((CV.take k).map (Value.int .i64))) ∧ Hid (CRef w #[.slice A n c, .int .i64 b] #[.slice B m d, .int .i64 b2] #[.slice none 0 0, .int .i64 0] #[p, .int .i64 bb] wr)) (fun i _ => l - (intOf i).toNat)
  case atStart => exact ⟨0, _, Nat.zero_le _, rfl, Lib.hid (World.ownsRow_nil _ _ _ _), CR0⟩
  case round =>
    obtain ⟨k, p, hk, rfl, HO, CR⟩ := hrel
    obtain ⟨WA, hWA⟩ : ∃ W, W = wr := ⟨_, rfl⟩
    subst hWA
    obtain ⟨d0, d1⟩ := bkf2 CR.out.k1
    obtain ⟨e0, e1⟩ := bkf2 CR.out.k2
    by_cases hlt : k < l
    · have hkI : (k : Int) < (l : Int) := by omega
      go_wp2
      clear d0 d1 e0 e1
      go_loopw [8, 9] (fun s i wr => ∃ j : Nat, j ≤ k + 1 ∧ i = .int .i64 j ∧ s = .int .i64 (P k j) ∧ Hid (∃ z, wr = WA.drewN z)) (fun _ i _ => k + 1 - (intOf i).toNat)
      case atStart => exact ⟨0, Nat.zero_le _, rfl, by rw [HF0.out], 0, rfl⟩
      case round =>
        obtain ⟨j, hj, rfl, rfl, HJ⟩ := hrel
        obtain ⟨z, hz⟩ := HJ.out
        have CZ := CR.out.drewN z
        rw [← hz] at CZ
        obtain ⟨d0, d1⟩ := bkf2 CZ.k1
        obtain ⟨e0, e1⟩ := bkf2 CZ.k2
        by_cases hltj : j ≤ k
        · have hjI : (j : Int) ≤ (k : Int) := by omega
          have hs := HFS.out k j
          rw [if_pos hltj] at hs
          have hpb := HFB.out k j (by omega)
          obtain ⟨q, hq⟩ : ∃ q, k - j = q := ⟨_, rfl⟩
          have v4 : IntKind.i64.wrap ((k : Int) - (j : Int)) = (q : Int) := by rw [show (k : Int) - (j : Int) = (q : Int) by omega]; exact IntWalk.i64_in _ (by omega)
          rw [hq] at hs
          by_cases hin : j < n ∧ q < m
          · obtain ⟨ad, rfl, _, hca⟩ := (HXU.out _ CZ.bel).2 (by omega)
            have hck := hca j hin.1
            obtain ⟨bd, rfl, _, hcy⟩ := (HYU.out _ CZ.bel).2 (by omega)
            have hcq := hcy q hin.2
            have hcb := HCB.out j
            have hdb := HDB.out q
            clear hca hcy
            obtain ⟨x, hx⟩ : ∃ x, cs.getD j 0 = x := ⟨_, rfl⟩
            obtain ⟨y, hy⟩ : ∃ y, ds.getD q 0 = y := ⟨_, rfl⟩
            rw [hx] at hck hcb hs
            rw [hy] at hcq hdb hs
            obtain ⟨t, ht⟩ : ∃ t, P k j = t := ⟨_, rfl⟩
            rw [ht] at hs hpb
            have hmul := mul_bd hcb hdb (by omega) (by omega)
            have v5 : IntKind.i64.wrap (x * y) = x * y := IntWalk.i64_in _ (by omega)
            have v6 : IntKind.i64.wrap (t + x * y) = t + x * y := IntWalk.i64_in _ (by omega)
            have hjn : (j : Int) < (n : Int) := by omega
            have hjn2 : j < n := hin.1
            have hqm : (q : Int) < (m : Int) := by omega
            have hqm2 : q < m := hin.2
            rw [ht]
            have HSS := Lib.hid hs
            have HZ := Lib.hid hz
            clear hs hx hy ht hq hz HJ hmul CZ
            go_wp2
            go_quiet (fail)
            go_wp2
            go_roundw
            case rel => exact ⟨j + 1, by omega, by go_num, by rw [HSS.out], by rw [HZ.out]; exact ⟨_, World.drewN_drewN _ _ _⟩⟩
            case measure => simp [intOf]; omega
          · have hs2 : P k (j + 1) = P k j := by
              rw [hs]
              rcases (by omega : n ≤ j ∨ m ≤ q) with h | h
              · rw [HC0.out j h]; simp
              · rw [HD0.out q h]; simp
            have HSS := Lib.hid hs2
            clear hs hs2 hz CZ hq
            by_cases hjn2 : j < n
            · have hjn : (j : Int) < (n : Int) := by omega
              have hqm : ¬ (q : Int) < (m : Int) := by omega
              clear hin
              go_wp2
              go_roundw
              case rel => exact ⟨j + 1, by omega, by go_num, by rw [HSS.out], HJ⟩
              case measure => simp [intOf]; omega
            · have hjn : ¬ (j : Int) < (n : Int) := by omega
              clear hin
              go_wp2
              go_roundw
              case rel => exact ⟨j + 1, by omega, by go_num, by rw [HSS.out], HJ⟩
              case measure => simp [intOf]; omega
        · obtain rfl : j = k + 1 := by omega
          have hjI : ¬ (((k + 1 : Nat) : Int)) ≤ (k : Int) := by omega
          have hjI' : ¬ ((k : Int) + 1) ≤ (k : Int) := by omega
          have hFE := HFE.out k (k + 1) (by omega)
          rw [hFE]
          obtain ⟨v, hv⟩ : ∃ v, FS k = v := ⟨_, rfl⟩
          have hT := HTK.out k hlt
          rw [hv] at hT ⊢
          have HT := Lib.hid hT
          have HOZ : Hid (wr.ownsRow (w.heap.size + 4) 3 1 p k ((CV.take k).map (Value.int .i64))) := by rw [hz]; exact HO.out
          have CZ' := Lib.hid CZ
          obtain ⟨o0, o1, f0, f1⟩ := cell2r CZ.o
          have hz4 : w.heap.size + 4 ≤ wr.heap.size := CZ.o.lt
          clear hT hFE hv hz CZ d0 d1 e0 e1 HJ
          go_wp2_with (at_builtin; refine wpList_append_own _ rfl (.tmp 63) (.tmp 65) 22 rfl (w.heap.size + 4) 3 i0 _ 1 8 Try.underlying22 hi0 hza hzb hzc rfl (by decide) _ _ _ rfl (HOZ.out.alloc _) ⟨wr.heap.size, 0, none⟩ 1 1 [.int .i64 v] rfl rfl (cell_one_new _ _ _) (by simp [Value.oneCell']) (by unfold maxLen; omega) (by omega) (by simp; omega) ?_)
          intro v'' w8 hown' hgrow _
          obtain ⟨g', cap', rfl⟩ := ownsRow_succ hown'
          have hbk : ∀ {g : Nat} {cs : Array Value}, g < w.heap.size + 4 → Bk wr g 45 cs → Bk w8 g 45 cs := fun hg h => (h.alloc _).grown hgrow (fun e => by have := (HOZ.out.lt _ e.symm).1; omega)
          have C8 : Hid (CRef w #[.slice A n c, .int .i64 b] #[.slice B m d, .int .i64 b2] #[.slice none 0 0, .int .i64 0] #[p, .int .i64 bb] w8) := Lib.hid ⟨hbk (by omega) CZ'.out.k1, hbk (by omega) CZ'.out.k2, hbk (by omega) CZ'.out.r, hbk (by omega) CZ'.out.o, (CZ'.out.bel.alloc CZ'.out.bel.size _).grown hgrow (by simp; omega) (fun z e => by have := (HOZ.out.lt z e).1; omega)⟩
          have HF : Hid (w8.ownsRow (w.heap.size + 4) 3 1 (.slice (some ⟨g', 0, none⟩) (k + 1) cap') (k + 1) ((CV.take (k + 1)).map (Value.int .i64))) := by
            refine Lib.hid ?_
            rw [HT.out, List.map_append, List.map_take]
            exact hown'
          clear hown' hgrow hbk o0 o1 f0 f1
          obtain ⟨o0, o1, f0, f1⟩ := cell2r C8.out.o
          have C9 : Hid (CRef w #[.slice A n c, .int .i64 b] #[.slice B m d, .int .i64 b2] #[.slice none 0 0, .int .i64 0] #[.slice (some ⟨g', 0, none⟩) (k + 1) cap', .int .i64 bb] (w8.setCell ⟨w.heap.size + 3, 0, none⟩ (.slice (some ⟨g', 0, none⟩) (k + 1) cap'))) := Lib.hid ⟨C8.out.k1.far _ (by show w.heap.size ≠ w.heap.size + 3; omega) _, C8.out.k2.far _ (by show w.heap.size + 1 ≠ w.heap.size + 3; omega) _, C8.out.r.far _ (by show w.heap.size + 2 ≠ w.heap.size + 3; omega) _, C8.out.o.set_ 0 _, C8.out.bel.setCell (p := ⟨w.heap.size + 3, 0, none⟩) (by show w.heap.size ≤ w.heap.size + 3; omega) _⟩
          have HF9 : Hid ((w8.setCell ⟨w.heap.size + 3, 0, none⟩ (.slice (some ⟨g', 0, none⟩) (k + 1) cap')).ownsRow (w.heap.size + 4) 3 1 (.slice (some ⟨g', 0, none⟩) (k + 1) cap') (k + 1) ((CV.take (k + 1)).map (Value.int .i64))) := ownFar HF.out _ _ (by show w.heap.size + 3 < w.heap.size + 4; omega)
          go_wp2
          go_roundw
          case rel => exact ⟨k + 1, _, by omega, by go_num, HF9, C9⟩
          case measure => simp [intOf]; omega
    · obtain rfl : l = k := by omega
      have hkI : ¬ (l : Int) < (l : Int) := by omega
      have hfi := HO.out
      rw [List.take_of_length_le (by have := HCL.out; omega)] at hfi
      obtain ⟨A9, c9, rfl, hc9, hr9, hN9⟩ := rd_ownN hfi
      have HO9 := Lib.hid hfi
      have HR9 := Lib.hid hr9
      obtain ⟨o0, o1, _, _⟩ := cell2r CR.out.o
      clear hlt hfi hr9 HO
      go_wp2_with fail
      refine (CF.out _ _ _ HR9.out).mono ?_
      rintro e w9 ⟨rfl, hb9⟩
      have P9 := Lib.hid (CR.out.o.later hb9)
      have R9 := Lib.hid (CR.out.r.later hb9)
      have B9 := Lib.hid (CR.out.bel.trans (hb9.mono CR.out.bel.size))
      have H9 := Lib.hid (ownBelow HO9.out hb9)
      clear hb9 o0 o1 d0 d1 e0 e1
      obtain ⟨p0, p1⟩ := bkf2 P9.out
      obtain ⟨r0, r1, f0, f1⟩ := cell2r R9.out
      by_cases h3 : E3 = 0
      · subst h3
        have h4 := HEE.out
        rw [if_pos rfl] at h4
        have h5 := HDD.out
        have h6 := HLE.out
        rw [← h4, if_pos rfl] at h5 h6
        subst h4 h5 h6
        clear HEE HDD HLE
        go_wp2
        refine bodyPost_ret (v := .tuple #[.agg #[.slice A9 l c9, .int .i64 bb], .int .i64 0]) (by simp [results, Try.results44, go_sem, r0, r1, f0, f1]) rfl ⟨⟨A9, c9, ?_, ?_, ?_, fun a e => by subst e; exact Nat.le_trans (by omega) (HO9.out.lt a.block rfl).1⟩, ?_⟩
        · rw [HCL.out]
        · rw [HCL.out]; exact rd_far (ownFar H9.out _ _ (by show w.heap.size + 2 < w.heap.size + 4; omega)) _ _ (by show w.heap.size + 2 < w.heap.size + 4; omega)
        · rw [HCL.out]; exact hN9
        · have := B9.out.size
          have := B9.out
          go_grown
      · have d3 : (E3 != 0) = true := by rw [bne_iff_ne]; exact h3
        have h4 := HEE.out
        rw [if_neg h3] at h4
        have h5 := HDD.out
        have h6 := HLE.out
        rw [← h4, if_neg (by decide)] at h5 h6
        subst h4 h5 h6
        clear HEE HDD HLE
        go_wp2
        refine bodyPost_ret (v := .tuple #[.agg #[.slice none 0 0, .int .i64 0], .int .i64 8]) (by simp [results, Try.results44, go_sem, r0, r1, f0, f1]) rfl ⟨⟨none, 0, rfl, ⟨rfl, fun h => absurd h (by simp)⟩, fun _ => ⟨rfl, rfl⟩, fun a e => by cases e⟩, ?_⟩
        have := B9.out.size
        have := B9.out
        go_grown

end Go.Proofs.Ytghpofhpkbgckaa


namespace Go.Proofs.Ytghpofhpkbgckaa
open Go.RowKit

/-- The boxes of both filters. -/
structure TwoB (w : World) (f1 f2 : Array Value) (W : World) : Prop where
  k1 : Bk W w.heap.size 45 f1
  k2 : Bk W (w.heap.size + 1) 45 f2
  b : Below w.heap.size w W
theorem TwoB.alloc {w W : World} {f1 f2 : Array Value} (h : TwoB w f1 f2 W) (o : Obj) : TwoB w f1 f2 (W.alloc o) := ⟨h.k1.alloc o, h.k2.alloc o, h.b.alloc h.b.size o⟩
theorem TwoB.drew {w W : World} {f1 f2 : Array Value} (h : TwoB w f1 f2 W) : TwoB w f1 f2 W.drew := ⟨h.k1.drew, h.k2.drew, h.b.drew⟩
theorem TwoB.drewN {w W : World} {f1 f2 : Array Value} (h : TwoB w f1 f2 W) (k : Nat) : TwoB w f1 f2 (W.drewN k) := ⟨h.k1.drewN k, h.k2.drewN k, belowDrewN h.b k⟩
theorem TwoB.later {w W W' : World} {f1 f2 : Array Value} (hb : Below W.heap.size W W') (h : TwoB w f1 f2 W) : TwoB w f1 f2 W' := ⟨h.k1.later hb, h.k2.later hb, h.b.trans (hb.mono h.b.size)⟩
theorem TwoB.far {w W : World} {f1 f2 : Array Value} (h : TwoB w f1 f2 W) (p : Addr) (hp : w.heap.size + 1 < p.block) (v : Value) : TwoB w f1 f2 (W.setCell p v) :=
  ⟨h.k1.far p (by omega) v, h.k2.far p (by omega) v, h.b.setCell (by omega) v⟩
theorem TwoB.four {w W : World} {a b c d : Value} (h : TwoB w #[a, b] #[c, d] W) : (W.cell? ⟨w.heap.size, 0, none⟩ = some a ∧ W.cell? ⟨w.heap.size, 1, none⟩ = some b) ∧ W.cell? ⟨w.heap.size + 1, 0, none⟩ = some c ∧ W.cell? ⟨w.heap.size + 1, 1, none⟩ = some d := ⟨bkf2 h.k1, bkf2 h.k2⟩
theorem RdI.allocX {w : World} {A : Option Addr} {n : Nat} {xs : List Int} (h : RdI w A n xs) (o : Obj) : RdI (w.alloc o) A n xs := h.below (below1 w o)
theorem rd_farB {W : World} {A : Option Addr} {n : Nat} {xs : List Int} (h : RdI W A n xs) (p : Addr) (v : Value) (hp : ∀ a, A = some a → 0 < n → a.block ≠ p.block) : RdI (W.setCell p v) A n xs := by
  refine ⟨h.1, fun hn => ?_⟩
  obtain ⟨a, ha, h2, h3⟩ := h.2 hn
  refine ⟨a, ha, by simpa using h2, fun j hj => ?_⟩
  rw [World.cell?_setCell_far _ _ _ _ (fun e => hp a ha hn (by rw [addBlock] at e; exact e.symm))]
  exact h3 j hj
set_option maxRecDepth 100000 in
set_option maxHeartbeats 4000000 in
theorem sameFilter_any (A B : Option Addr) (n c d : Nat) (b : Int) (cs : List Int) (w : World) (ha : RdI w A n cs) (hb : RdI w B n cs) (hn : n ≤ 1000000) :
    Calls Try.prog 45 #[.agg #[.slice A n c, .int .i64 b], .agg #[.slice B n d, .int .i64 b]] w fun e w' => e = .returned (.bool true) ∧ Below w.heap.size w w' := by
  have T0 : Hid (TwoB w #[.slice A n c, .int .i64 b] #[.slice B n d, .int .i64 b] ((w.alloc (.cells #[.slice A n c, .int .i64 b] 45)).alloc (.cells #[.slice B n d, .int .i64 b] 45))) := Lib.hid ⟨(Bk.new _ _ _).alloc _, by simpa using Bk.new (w.alloc (.cells #[.slice A n c, .int .i64 b] 45)) 45 #[.slice B n d, .int .i64 b], below2 _ _ _⟩
  have CI := Lib.hid (ints_same A B n c d cs _ (ha.below T0.out.b) (hb.below T0.out.b) (by omega))
  clear ha hb
  go_enter Try.func45, Try.ntmps45
  obtain ⟨⟨d0, d1⟩, e0, e1⟩ := T0.out.four
  go_wp2_with fail
  refine CI.out.mono ?_
  rintro e w' ⟨rfl, kk, rfl⟩
  have BB := belowDrewN T0.out.b kk
  go_wp2
  go_ret
  exact ⟨by simp, BB⟩

end Go.Proofs.Ytghpofhpkbgckaa

