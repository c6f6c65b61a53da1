import Derived.Maps.AppendAt
import Derived.Test.YtjjflbnopphciabDoorTrai
import Derived.Test.YtjjflbnopphciabDoorTrab
namespace Go.Proofs.YtjjflbnopphciabDoor
open Go.RowKit

theorem Bk.later {w w' : World} {g : Nat} {t : TypeId} {cs : Array Value} (h : Bk w g t cs) (hb : Below w.heap.size w w') : Bk w' g t cs := h.below hb h.lt
theorem RdD.belowX {w w' : World} {A : Option Addr} {n X : Nat} {ds : List (List Int)} (h : RdD w A n ds) (hb : Below X w w') (hA : ∀ ad, A = some ad → ad.block < X) : RdD w' A n ds := by
  refine ⟨h.1, h.2.1, fun h0 => ?_⟩
  obtain ⟨ad, e, hlt, hc⟩ := h.2.2 h0
  exact ⟨ad, e, Nat.lt_of_lt_of_le hlt hb.size, fun i k hi hk => (hb.cell (by rw [addBlock, addBlock]; exact hA ad e)).trans (hc i k hi hk)⟩
theorem own_rdi {w : World} {base : Nat} {v : Value} {n : Nat} {xs : List Int} (h : w.ownsRow base 3 1 v n (xs.map (Value.int .i64))) :
    ∃ A c, v = .slice A n c ∧ RdI w A n xs ∧ (A = none → n = 0 ∧ c = 0) ∧ (∀ a, A = some a → base ≤ a.block) := by
  obtain ⟨A, c, rfl, h1, h2, h3⟩ := rd_own_c h
  exact ⟨A, c, rfl, h3, (fun e => by
    subst e
    rcases h.2 with ⟨e, h0⟩ | ⟨g, cap, cur, e, _⟩
    · injection e with _ e2 e3; exact ⟨h0, e3⟩
    · injection e with e1; cases e1), ownFromT h⟩
/-- Rows of the call's own, no two of which share memory. -/
def RowsZ (W : World) (base : Nat) (L : List (Value × List Int)) : Prop :=
  (∀ p ∈ L, W.ownsRow base 3 1 p.1 p.2.length (p.2.map (Value.int .i64))) ∧ L.Pairwise fun p q => ∀ g, p.1.ownBlock = some g → q.1.ownBlock ≠ some g
theorem RowsZ.alloc {W : World} {base : Nat} {L : List (Value × List Int)} (h : RowsZ W base L) (o : Obj) : RowsZ (W.alloc o) base L := ⟨fun p hp => (h.1 p hp).alloc o, h.2⟩
theorem RowsZ.drew {W : World} {base : Nat} {L : List (Value × List Int)} (h : RowsZ W base L) : RowsZ W.drew base L := ⟨fun p hp => (h.1 p hp).drew, h.2⟩
theorem RowsZ.step {W W' : World} {base : Nat} {pre post : List (Value × List Int)} {v v' : Value} {xs : List Int} {u : Int} (h : RowsZ W base (pre ++ (v, xs) :: post))
    (ho : W'.ownsRow base 3 1 v' (xs.length + 1) (xs.map (Value.int .i64) ++ [.int .i64 u])) (hg : W.grownBy W' v.ownBlock) (hat : v'.ownBlock = v.ownBlock ∨ v'.ownBlock = some W.heap.size) : RowsZ W' base (pre ++ (v', xs ++ [u]) :: post) := by
  obtain ⟨h1, h2⟩ := h
  rw [List.pairwise_append] at h2
  obtain ⟨hp, hc, hx⟩ := h2
  rw [List.pairwise_cons] at hc
  obtain ⟨hc1, hc2⟩ := hc
  have hv : W.ownsRow base 3 1 v xs.length (xs.map (Value.int .i64)) := h1 (v, xs) (by simp)
  have key : ∀ p : Value × List Int, p ∈ pre ∨ p ∈ post → W.ownsRow base 3 1 p.1 p.2.length (p.2.map (Value.int .i64)) ∧ (∀ g, p.1.ownBlock = some g → v.ownBlock ≠ some g) := by
    intro p hpp
    refine ⟨h1 p (by rcases hpp with h | h <;> simp [h]), fun g hg1 hg2 => ?_⟩
    rcases hpp with h | h
    · exact hx p h (v, xs) (List.mem_cons_self ..) g hg1 hg2
    · exact hc1 p h g hg2 hg1
  have kept : ∀ p : Value × List Int, p ∈ pre ∨ p ∈ post → W'.ownsRow base 3 1 p.1 p.2.length (p.2.map (Value.int .i64)) := by
    intro p hpp
    obtain ⟨k1, k2⟩ := key p hpp
    refine k1.kept hg ?_
    cases hb : p.1.ownBlock with
    | none => exact .inl rfl
    | some g => exact .inr fun e => k2 g hb e.symm
  have apart : ∀ p : Value × List Int, p ∈ pre ∨ p ∈ post → ∀ g, p.1.ownBlock = some g → v'.ownBlock ≠ some g := by
    intro p hpp g hb e
    obtain ⟨k1, k2⟩ := key p hpp
    rcases hat with h | h
    · rw [h] at e; exact k2 g hb e
    · rw [h] at e
      have := (k1.lt g hb).2
      injection e with e
      omega
  refine ⟨?_, ?_⟩
  · intro p hpm
    rcases List.mem_append.1 hpm with h | h
    · exact kept p (Or.inl h)
    · rcases List.mem_cons.1 h with rfl | h
      · show W'.ownsRow base 3 1 v' (xs ++ [u]).length ((xs ++ [u]).map (Value.int .i64))
        rw [List.map_append, List.length_append]
        exact ho
      · exact kept p (Or.inr h)
  · rw [List.pairwise_append]
    refine ⟨hp, ?_, ?_⟩
    · rw [List.pairwise_cons]
      refine ⟨fun q hq g hg1 hg2 => apart q (Or.inr hq) g hg2 hg1, hc2⟩
    · intro p hpp q hq
      rcases List.mem_cons.1 hq with rfl | hq
      · exact fun g hb => apart p (Or.inl hpp) g hb
      · exact hx p hpp q (List.mem_cons_of_mem _ hq)
theorem RowsZ.later {W W' : World} {base : Nat} {L : List (Value × List Int)} (h : RowsZ W base L) (hb : Below W.heap.size W W') : RowsZ W' base L := ⟨fun p hp => (h.1 p hp).kept (row := none) ⟨hb.os, hb.tape, hb.output, hb.size, fun k hk _ => hb.block k hk⟩ (by cases hq : p.1.ownBlock with | none => exact .inl rfl | some g => exact .inr (by simp)), h.2⟩
theorem ownFarT {w : World} {base t k size : Nat} {x : Value} {xs : List Value} (ho : w.ownsRow base t size x k xs) (a : Addr) (u : Value) (ha : a.block < base) : (w.setCell a u).ownsRow base t size x k xs := by
  refine ⟨ho.1, ?_⟩
  rcases ho.2 with h0 | ⟨g, cap, cur, h1, h2, h3, h4⟩
  · exact .inl h0
  · exact .inr ⟨g, cap, cur, h1, h2, (heap_setCell_other w a g u (by omega)).trans h3, h4⟩
theorem RowsZ.at1 {W : World} {base : Nat} {v : Value} {xs : List Int} (h : RowsZ W base [(v, xs)]) : W.ownsRow base 3 1 v xs.length (xs.map (Value.int .i64)) := h.1 (v, xs) (by simp)
theorem RowsZ.of1 {W : World} {base : Nat} {v u t : Value} {xs ys zs : List Int} (h : RowsZ W base [(v, xs), (u, ys), (t, zs)]) : W.ownsRow base 3 1 v xs.length (xs.map (Value.int .i64)) := h.1 (v, xs) (by simp)
theorem RowsZ.of2 {W : World} {base : Nat} {v u t : Value} {xs ys zs : List Int} (h : RowsZ W base [(v, xs), (u, ys), (t, zs)]) : W.ownsRow base 3 1 u ys.length (ys.map (Value.int .i64)) := h.1 (u, ys) (by simp)
theorem RowsZ.of3 {W : World} {base : Nat} {v u t : Value} {xs ys zs : List Int} (h : RowsZ W base [(v, xs), (u, ys), (t, zs)]) : W.ownsRow base 3 1 t zs.length (zs.map (Value.int .i64)) := h.1 (t, zs) (by simp)
theorem RowsZ.far {W : World} {base : Nat} {L : List (Value × List Int)} (h : RowsZ W base L) (a : Addr) (u : Value) (ha : a.block < base) : RowsZ (W.setCell a u) base L := ⟨fun p hp => ownFarT (h.1 p hp) a u ha, h.2⟩
theorem RowsZ.nil {W : World} {base : Nat} {L : List (Value × List Int)} (h : RowsZ W base L) : RowsZ W base (L ++ [(.slice none 0 0, [])]) := by
  refine ⟨fun p hp => ?_, ?_⟩
  · rcases List.mem_append.1 hp with h1 | h1
    · exact h.1 p h1
    · rw [List.mem_singleton] at h1; subst h1; exact World.ownsRow_nil _ _ _ _
  · rw [List.pairwise_append]
    refine ⟨h.2, List.pairwise_singleton _ _, fun p _ q hq g _ h2 => ?_⟩
    rw [List.mem_singleton] at hq; subst hq; cases h2
theorem DaB.far {W : World} {g n : Nat} {F : Nat → Nat → Int} (h : DaB W g n F) (p : Addr) (hp : g ≠ p.block) (v : Value) : DaB (W.setCell p v) g n F := by
  obtain ⟨a, h1, h2⟩ := h; exact ⟨a, h1.far p hp v, h2⟩
theorem DaB.row {W : World} {g n : Nat} {F : Nat → Nat → Int} (h : DaB W g n F) {r : Nat} (hr : r < n) (f : Nat → Int) : DaB ((((((((W.setCell ⟨g, r * 8, none⟩ (.int .i64 (f 0))).setCell ⟨g, r * 8 + 1, none⟩ (.int .i64 (f 1))).setCell ⟨g, r * 8 + 2, none⟩ (.int .i64 (f 2))).setCell ⟨g, r * 8 + 3, none⟩ (.int .i64 (f 3))).setCell ⟨g, r * 8 + 4, none⟩ (.int .i64 (f 4))).setCell ⟨g, r * 8 + 5, none⟩ (.int .i64 (f 5))).setCell ⟨g, r * 8 + 6, none⟩ (.int .i64 (f 6))).setCell ⟨g, r * 8 + 7, none⟩ (.int .i64 (f 7))) g n (fun r' k' => if r' = r then f k' else F r' k') := by
  refine DaB.congr (DaB.set1 (DaB.set1 (DaB.set1 (DaB.set1 (DaB.set1 (DaB.set1 (DaB.set1 (DaB.set1 h hr (show 0 < 8 by omega) (f 0)) hr (show 1 < 8 by omega) (f 1)) hr (show 2 < 8 by omega) (f 2)) hr (show 3 < 8 by omega) (f 3)) hr (show 4 < 8 by omega) (f 4)) hr (show 5 < 8 by omega) (f 5)) hr (show 6 < 8 by omega) (f 6)) hr (show 7 < 8 by omega) (f 7)) fun r' k' hr' hk' => ?_
  by_cases e : r' = r
  · subst e
    rcases (show k' = 0 ∨ k' = 1 ∨ k' = 2 ∨ k' = 3 ∨ k' = 4 ∨ k' = 5 ∨ k' = 6 ∨ k' = 7 by omega) with rfl | rfl | rfl | rfl | rfl | rfl | rfl | rfl <;> simp
  · simp [e]
/-- Which bit a number has. -/
def bitZ (z : Int) (i : Nat) : Bool := decide (bits BinOp.and IntKind.i64 (z / 2 ^ i) 1 = 1)
theorem bitZ_beq (z : Int) (i : Nat) : (bits BinOp.and IntKind.i64 (z / 2 ^ i) 1 == 1) = bitZ z i := by
  unfold bitZ
  by_cases h : bits BinOp.and IntKind.i64 (z / 2 ^ i) 1 = 1 <;> simp [h]
theorem one_cell (W : World) (k : Int) : ∀ j u, [Value.int .i64 k][j]? = some u → (W.alloc (.cells #[.int .i64 k] 3)).cell? ((⟨W.heap.size, 0, none⟩ : Addr).add j) = some u := by
  intro j u hj
  cases j with
  | zero => have : Value.int .i64 k = u := by simpa using hj
            subst this
            simp [go_sem, Addr.add]
  | succ j => simp at hj
/-- The first blocks, where picked, written over. -/
def ovrF (F : Nat → Nat → Int) (bl : Nat → Bool) (f : Nat → Int) (i a k : Nat) : Int := if a < i ∧ bl a = true then f k else F a k
theorem ovrF_zero (F : Nat → Nat → Int) (bl : Nat → Bool) (f : Nat → Int) : ovrF F bl f 0 = F := by funext a k; exact if_neg (by omega)
theorem ovrF_no (F : Nat → Nat → Int) (bl : Nat → Bool) (f : Nat → Int) (i : Nat) (h : bl i = false) : ovrF F bl f (i + 1) = ovrF F bl f i := by
  funext a k
  unfold ovrF
  by_cases e : a < i ∧ bl a = true
  · rw [if_pos e, if_pos ⟨by omega, e.2⟩]
  · rw [if_neg e, if_neg]
    rintro ⟨h1, h2⟩
    by_cases e2 : a = i
    · subst e2; rw [h] at h2; cases h2
    · exact e ⟨by omega, h2⟩
theorem ovrF_yes (F : Nat → Nat → Int) (bl : Nat → Bool) (f : Nat → Int) (i a k : Nat) (h : bl i = true) : (if a = i then f k else ovrF F bl f i a k) = ovrF F bl f (i + 1) a k := by
  unfold ovrF
  by_cases e : a = i
  · subst e; rw [if_pos rfl, if_pos ⟨by omega, h⟩]
  · rw [if_neg e]
    by_cases e2 : a < i ∧ bl a = true
    · rw [if_pos e2, if_pos ⟨by omega, e2.2⟩]
    · rw [if_neg e2, if_neg (by rintro ⟨h1, h2⟩; exact e2 ⟨by omega, h2⟩)]
theorem bk5 {W : World} {g : Nat} {t : TypeId} {a b c d e : Value} (h : Bk W g t #[a, b, c, d, e]) : W.cell? ⟨g, 0, none⟩ = some a ∧ W.cell? ⟨g, 1, none⟩ = some b ∧ W.cell? ⟨g, 2, none⟩ = some c ∧ W.cell? ⟨g, 3, none⟩ = some d ∧ W.cell? ⟨g, 4, none⟩ = some e :=
  ⟨by rw [h.cell]; rfl, by rw [h.cell]; rfl, by rw [h.cell]; rfl, by rw [h.cell]; rfl, by rw [h.cell]; rfl⟩
structure f8 (f : Nat → Int) (y x : Int) : Prop where
  a0 : f 0 = y
  a1 : f 1 = x
  a2 : f 2 = 0
  a3 : f 3 = 0
  a4 : f 4 = 0
  a5 : f 5 = 0
  a6 : f 6 = 0
  a7 : f 7 = 0
theorem datE_one (n : Nat) (ds : List (List Int)) (count : Int) (h : datE n ds count = 0) : dataE ds = 0 := by
  unfold datE at h
  by_cases h1 : n = 0
  · rw [if_pos h1] at h; omega
  · rw [if_neg h1] at h
    by_cases h2 : 12 < n
    · rw [if_pos h2] at h; omega
    · rw [if_neg h2] at h
      by_cases h3 : dataE ds = 0
      · exact h3
      · rw [if_pos h3] at h; exact absurd h h3
theorem dataErr_all (A : Option Addr) (n c : Nat) (ds : List (List Int)) (count : Int) (w : World) (hr : RdD w A n ds) :
    Calls Tryd.prog 6 #[.slice A n c, .int .i64 count] w
      fun e w' => e = .returned (.int .i64 (datE n ds count)) ∧ Below w.heap.size w w' := by
  by_cases hn : n ≤ 1000000
  · exact dataErr_any A n c ds count w hr hn
  · have h0b : ((n : Int) == 0) = false := by simp; omega
    have h1' : (12 : Int) < (n : Int) := by omega
    have HD : Hid (datE n ds count = 8) := by show _ = _; unfold datE; rw [if_neg (by omega), if_pos (by omega)]
    clear hr
    go_enter Tryd.func6, Tryd.ntmps6
    go_wp2
    go_ret
    exact ⟨by rw [HD.out]; rfl, Below.refl _ _⟩
theorem lostL_congr (f g : Nat → Bool) (n : Nat) (h : ∀ i, i < n → f i = g i) : lostL f n = lostL g n := by
  induction n with
  | zero => rfl
  | succ n ih =>
    unfold lostL
    rw [ih fun i hi => h i (by omega), h n (by omega)]
theorem kep_nb (bp : Nat → Bool) (K : Nat) : kepL (lostL bp K) K = lostL (fun i => !bp i) K := by
  rw [kepL_lostL]
  exact lostL_congr _ _ K fun i hi => by rw [lostL_has bp K i hi]
theorem map8 (F : Nat → Int) : (List.range 8).map F = [F 0, F 1, F 2, F 3, F 4, F 5, F 6, F 7] := rfl
theorem ovr_row {K : Nat} {pl : List (List Int)} (h8 : Ok8 pl) (hl : pl.length = K) (bp : Nat → Bool) (f : Nat → Int) (j : Nat) (hj : j < K) (hb : bp j = false) : (listD K (ovrF (dc pl) bp f K)).getD j [] = pl.getD j [] := by
  rw [listD_at _ _ _ hj, map8]
  have e : ∀ k, ovrF (dc pl) bp f K j k = (pl.getD j []).getD k 0 := fun k => if_neg (by rw [hb]; rintro ⟨_, h⟩; cases h)
  rw [e, e, e, e, e, e, e, e]
  exact (list8 _ (h8 j (by omega))).symm
theorem grp_made {n K : Nat} {ds : List (List Int)} (bl bp : Nat → Bool) (f : Nat → Int) (P : Nat → Nat → Int) (h8 : Ok8 ds) (hl : ds.length = n) (hs : dataE ds = 0) (h1 : 1 ≤ n) (h12 : n ≤ 12) (k1 : 1 ≤ K) (k4 : K ≤ 4) : GrpIn n K ds (listD n (ovrF (dc ds) bl f n)) (listD K P) bl bp :=
  ⟨h8, hl, hs, h12, h1, k4, k1, listD_ok8 _ _, listD_len _ _, fun i hi hb => ovr_row h8 hl bl f i hi hb, listD_ok8 _ _, listD_len _ _⟩
theorem law_good {n K : Nat} {ds pl : List (List Int)} (bl bp : Nat → Bool) (f f0 : Nat → Int) (h8 : Ok8 ds) (hl : ds.length = n) (hs : dataE ds = 0) (h1 : 1 ≤ n) (h12 : n ≤ 12) (k1 : 1 ≤ K) (k4 : K ≤ 4) (hp8 : Ok8 pl) (hpl : pl.length = K) (hp : ∀ j, j < K → pl.getD j [] = parP ds (j : Int) (List.range n)) :
    rstR n K (lostL bl n).length (listD n (ovrF (dc ds) bl f n)) (listD K (ovrF (dc pl) bp f0 K)) (lostL bl n) (lostL bp K) = if (lostL (fun i => !bp i) K).length < (lostL bl n).length then ([], 28) else (ds, 0) := by
  rw [← kep_nb]
  exact rst_good (grp_made bl bp f _ h8 hl hs h1 h12 k1 k4) fun j hj hb => (ovr_row hp8 hpl bp f0 j hj hb).trans (hp j hj)
/-- A kept block of parity changed by what is no multiple of 65537. -/
theorem law_changed {n K : Nat} {ds pl : List (List Int)} (bl bp : Nat → Bool) (f f0 : Nat → Int) (a kk : Nat) (dl : Int) (h8 : Ok8 ds) (hl : ds.length = n) (hs : dataE ds = 0) (h1 : 1 ≤ n) (h12 : n ≤ 12) (k1 : 1 ≤ K) (k4 : K ≤ 4) (hp8 : Ok8 pl) (hpl : pl.length = K) (hp : ∀ j, j < K → pl.getD j [] = parP ds (j : Int) (List.range n))
    (hkk : kk < 8) (hd : 0 < dl ∧ dl < 65537) (ha : (a : Int) ∈ lostL (fun i => !bp i) K) (hq : (lostL bl n).length < (lostL (fun i => !bp i) K).length) :
    rstR n K (lostL bl n).length (listD n (ovrF (dc ds) bl f n)) (listD K (fun r k => if r = a ∧ k = kk then (dc pl a kk + dl).tmod 65537 else ovrF (dc pl) bp f0 K r k)) (lostL bl n) (lostL bp K) = ([], 13) := by
  obtain ⟨_, haK, hab⟩ := (lostL_mem _ K (a : Int)).1 ha
  rw [Int.toNat_natCast] at hab
  have hab' : bp a = false := by simpa using hab
  have haK' : a < K := by omega
  have hdc : ∀ k, dc pl a k = pk ds (a : Int) n k := fun k => by unfold dc pk; rw [hp a haK']
  have hov : ∀ k, ovrF (dc pl) bp f0 K a k = dc pl a k := fun k => if_neg (by rw [hab']; rintro ⟨_, h⟩; cases h)
  have hbd : ∀ k, 0 ≤ dc pl a k ∧ dc pl a k ≤ 65536 := fun k => by rw [hdc]; exact parP_bd ds a _ k
  have hnew : (dc pl a kk + dl).tmod 65537 = (dc pl a kk + dl) % 65537 := Int.tmod_eq_emod_of_nonneg (by have := hbd kk; omega)
  refine rst_changed (grp_made bl bp f _ h8 hl hs h1 h12 k1 k4) a kk dl hkk hd (by rw [kep_nb]; exact ha) (fun j hj hb hja => ?_) ?_ ?_ (by rw [kep_nb]; exact hq)
  · rw [listD_at _ _ _ hj]
    have e : ((List.range 8).map fun k => if j = a ∧ k = kk then (dc pl a kk + dl).tmod 65537 else ovrF (dc pl) bp f0 K j k) = (List.range 8).map (ovrF (dc pl) bp f0 K j) := by
      apply List.map_congr_left
      intro k _
      exact if_neg (fun h => hja h.1)
    show ((List.range 8).map fun k => if j = a ∧ k = kk then (dc pl a kk + dl).tmod 65537 else ovrF (dc pl) bp f0 K j k) = _
    rw [e, ← listD_at K _ j hj]
    exact (ovr_row hp8 hpl bp f0 j hj hb).trans (hp j hj)
  · refine rangesE_of fun k hk => ?_
    rw [listD_at _ _ _ haK'] at hk ⊢
    have hk8 : k < 8 := by simpa using hk
    have e : ((List.range 8).map ((fun r k => if r = a ∧ k = kk then (dc pl a kk + dl).tmod 65537 else ovrF (dc pl) bp f0 K r k) a)).getD k 0 = if a = a ∧ k = kk then (dc pl a kk + dl).tmod 65537 else ovrF (dc pl) bp f0 K a k := by simp [List.getD_eq_getElem?_getD, hk8]
    rw [e]
    split
    · rw [hnew]; omega
    · rw [hov]; exact hbd k
  · rw [listD_dc _ _ _ _ haK' hkk]
    show Cg (if a = a ∧ kk = kk then _ else _) _
    rw [if_pos ⟨rfl, rfl⟩, hnew, ← hdc]
    unfold Cg
    omega
set_option maxRecDepth 100000 in
set_option maxHeartbeats 16000000 in
theorem tr_err (A : Option Addr) (n c : Nat) (ds : List (List Int)) (count dx px bx ix yx : Int) (w : World) (hL : Laid w) (hA : A = none → n = 0 ∧ c = 0) (hR : RdD w A n ds) (hE : datE n ds count ≠ 0) :
    Calls Tryd.prog 3 #[.slice A n c, .int .i64 count, .agg #[.int .i64 dx, .int .i64 px, .int .i64 bx, .int .i64 ix, .int .i64 yx]] w fun e w' => e = .returned (.bool true) ∧ Below w.heap.size w w' := by
  obtain ⟨E, hEE⟩ : ∃ E, datE n ds count = E := ⟨_, rfl⟩
  have CDE : Hid (∀ W, RdD W A n ds → Calls Tryd.prog 6 #[.slice A n c, .int .i64 count] W fun e w' => e = .returned (.int .i64 E) ∧ Below W.heap.size W w') := fun W h => by rw [← hEE]; exact dataErr_all A n c ds count W h
  rw [hEE] at hE
  have hEn : (E != 0) = true := by simpa using hE
  clear hEE hE hA
  obtain ⟨w1, hw1⟩ : ∃ W, (w.alloc (.cells #[.int .i64 dx, .int .i64 px, .int .i64 bx, .int .i64 ix, .int .i64 yx] 24)) = W := ⟨_, rfl⟩
  have b1 : Below w.heap.size w w1 := by rw [← hw1]; exact (Below.refl _ _).alloc (Nat.le_refl _) _
  have X1 : Hid (Bk w1 w.heap.size 24 #[.int .i64 dx, .int .i64 px, .int .i64 bx, .int .i64 ix, .int .i64 yx]) := by show Bk _ _ _ _; rw [← hw1]; exact Bk.new _ _ _
  have B1 := Lib.hid b1
  have HW1 := Lib.hid hw1
  have A1 : Hid (RdD w1 A n ds) := hR.below b1
  have CAW := Lib.hid (awake_any w1 (hL.later b1))
  clear b1 hw1 hR hL
  go_enter Tryd.func3, Tryd.ntmps3
  go_upto_region 1 with fail
  rw [show (w.alloc (.cells #[.int .i64 dx, .int .i64 px, .int .i64 bx, .int .i64 ix, .int .i64 yx] 24)) = w1 from HW1.out]
  clear HW1
  go_wp2_with fail
  refine CAW.out.mono ?_
  rintro e w2 ⟨rfl, hb⟩
  have X2 : Hid (Bk w2 w.heap.size 24 #[.int .i64 dx, .int .i64 px, .int .i64 bx, .int .i64 ix, .int .i64 yx]) := X1.out.later hb
  have B2 := Lib.hid (B1.out.trans (hb.mono B1.out.size))
  have A2 := Lib.hid (A1.out.below hb)
  clear hb CAW X1 B1 A1
  go_wp2_with fail
  refine (CDE.out _ A2.out).mono ?_
  rintro e w3 ⟨rfl, hb⟩
  have X3 : Hid (Bk w3 w.heap.size 24 #[.int .i64 dx, .int .i64 px, .int .i64 bx, .int .i64 ix, .int .i64 yx]) := X2.out.later hb
  have B3 := Lib.hid (B2.out.trans (hb.mono B2.out.size))
  have A3 := Lib.hid (A2.out.below hb)
  clear hb CDE X2 B2 A2
  go_wp2
  go_ret
  exact ⟨rfl, B3.out⟩
set_option maxRecDepth 100000 in
set_option maxHeartbeats 16000000 in
theorem tr_main (A : Option Addr) (n c : Nat) (ds : List (List Int)) (count dx px bx ix yx : Int) (w : World) (hL : Laid w) (hA : A = none → n = 0 ∧ c = 0) (hR : RdD w A n ds) (hn : n ≤ 1000000) (hbnd : (-9223372036854775808 ≤ dx ∧ dx ≤ 9223372036854775807) ∧ (-9223372036854775808 ≤ px ∧ px ≤ 9223372036854775807) ∧ (-9223372036854775808 ≤ bx ∧ bx ≤ 9223372036854775807) ∧ (-9223372036854775808 ≤ ix ∧ ix ≤ 9223372036854775807) ∧ (-9223372036854775808 ≤ yx ∧ yx ≤ 9223372036854775807)) (hE : datE n ds count = 0) :
    Calls Tryd.prog 3 #[.slice A n c, .int .i64 count, .agg #[.int .i64 dx, .int .i64 px, .int .i64 bx, .int .i64 ix, .int .i64 yx]] w fun e w' => e = .returned (.bool true) ∧ Below w.heap.size w w' := by
  obtain ⟨hn1, hn12, hX, hc1, hc4⟩ := datE_parts hE
  have hdE := datE_one n ds count hE
  obtain ⟨K, rfl⟩ := Int.eq_ofNat_of_zero_le (show 0 ≤ count by omega)
  have hK1 : 1 ≤ K := by omega
  have hK4 : K ≤ 4 := by omega
  have h8 : Ok8 ds := hR.2.1
  have hlen : ds.length = n := hR.1
  have CDE : Hid (∀ W, RdD W A n ds → Calls Tryd.prog 6 #[.slice A n c, .int .i64 (K : Int)] W fun e w' => e = .returned (.int .i64 0) ∧ Below W.heap.size W w') := fun W h => by rw [← hE]; exact dataErr_any A n c ds K W h hn
  have CCD : Hid (∀ W, RdD W A n ds → Calls Tryd.prog 8 #[.slice A n c] W fun e w' => ∃ v, e = .returned v ∧ w'.ownsRow W.heap.size 34 8 v n (dCells ds) ∧ Below W.heap.size W w') := fun W h => copyData_own A n c ds W hA h (by omega)
  have CPA : Hid (∀ W A' c', RdD W A' n ds → Calls Tryd.prog 7 #[.slice A' n c', .int .i64 (K : Int)] W fun e w' => (∃ A3 c3, e = .returned (.tuple #[.slice A3 K c3, .int .i64 0]) ∧ RdD w' A3 K (parL n ds K)) ∧ Below W.heap.size W w') := fun W A' c' h => parityOf_ok A' n c' ds K W h hE K rfl
  obtain ⟨pl, hpl⟩ : ∃ p, parL n ds K = p := ⟨_, rfl⟩
  have HPL : Hid (∀ j, j < K → pl.getD j [] = parP ds (j : Int) (List.range n)) := fun j hj => by rw [← hpl]; simp [parL, List.getD_eq_getElem?_getD, hj]
  have HPL8 : Hid (Ok8 pl ∧ pl.length = K) := ⟨by rw [← hpl]; exact parL_ok8 n ds K, by rw [← hpl]; exact parL_length n ds K⟩
  rw [hpl] at CPA
  obtain ⟨bl, hbl⟩ : ∃ b, bitZ dx = b := ⟨_, rfl⟩
  obtain ⟨bp, hbp⟩ : ∃ b, bitZ px = b := ⟨_, rfl⟩
  have HBL : Hid (∀ i, (bits BinOp.and IntKind.i64 (dx / 2 ^ i) 1 == 1) = bl i) := fun i => by rw [← hbl]; exact bitZ_beq dx i
  have HBP : Hid (∀ i, (bits BinOp.and IntKind.i64 (px / 2 ^ i) 1 == 1) = bp i) := fun i => by rw [← hbp]; exact bitZ_beq px i
  have HDS := Lib.hid (And.intro hdE (And.intro h8 hlen))
  obtain ⟨i0, hi0, hz0, hz1, hz2⟩ := info_parts intInfo
  obtain ⟨fD, hfD⟩ : ∃ f : Nat → Int, (fun k => if k = 0 then yx else if k = 1 then ix else 0) = f := ⟨_, rfl⟩
  have HfD : Hid (f8 fD yx ix) := by show f8 _ _ _; rw [← hfD]; exact ⟨rfl, rfl, rfl, rfl, rfl, rfl, rfl, rfl⟩
  have hbI := hbnd
  clear hE hX hdE h8 hlen hpl hbl hbp hfD hbnd hc1 hc4
  obtain ⟨w1, hw1⟩ : ∃ W, (w.alloc (.cells #[.int .i64 dx, .int .i64 px, .int .i64 bx, .int .i64 ix, .int .i64 yx] 24)) = W := ⟨_, rfl⟩
  have b1 : Below w.heap.size w w1 := by rw [← hw1]; exact (Below.refl _ _).alloc (Nat.le_refl _) _
  have X1 : Hid (Bk w1 w.heap.size 24 #[.int .i64 dx, .int .i64 px, .int .i64 bx, .int .i64 ix, .int .i64 yx]) := by show Bk _ _ _ _; rw [← hw1]; exact Bk.new _ _ _
  have B1 := Lib.hid b1
  have HW1 := Lib.hid hw1
  have A1 : Hid (RdD w1 A n ds) := hR.below b1
  have CAW := Lib.hid (awake_any w1 (hL.later b1))
  clear b1 hw1 hR hL
  go_enter Tryd.func3, Tryd.ntmps3
  go_upto_region 1 with fail
  rw [show (w.alloc (.cells #[.int .i64 dx, .int .i64 px, .int .i64 bx, .int .i64 ix, .int .i64 yx] 24)) = w1 from HW1.out]
  clear HW1
  go_wp2_with fail
  refine CAW.out.mono ?_
  rintro e w2 ⟨rfl, hb⟩
  have X2 : Hid (Bk w2 w.heap.size 24 #[.int .i64 dx, .int .i64 px, .int .i64 bx, .int .i64 ix, .int .i64 yx]) := X1.out.later hb
  have B2 := Lib.hid (B1.out.trans (hb.mono B1.out.size))
  have A2 := Lib.hid (A1.out.below hb)
  clear hb CAW X1 B1 A1
  go_wp2_with fail
  refine (CDE.out _ A2.out).mono ?_
  rintro e w3 ⟨rfl, hb⟩
  have X3 : Hid (Bk w3 w.heap.size 24 #[.int .i64 dx, .int .i64 px, .int .i64 bx, .int .i64 ix, .int .i64 yx]) := X2.out.later hb
  have B3 := Lib.hid (B2.out.trans (hb.mono B2.out.size))
  have A3 := Lib.hid (A2.out.below hb)
  clear hb CDE X2 B2 A2
  go_wp2_with fail
  refine (CCD.out _ A3.out).mono ?_
  rintro e w4 ⟨v4, rfl, ho, hb⟩
  obtain ⟨A4, c4, rfl, _⟩ := own_form8 ho
  have D4 := Lib.hid (RdD.of_own ho HDS.out.2.2 HDS.out.2.1)
  have X4 : Hid (Bk w4 w.heap.size 24 #[.int .i64 dx, .int .i64 px, .int .i64 bx, .int .i64 ix, .int .i64 yx]) := X3.out.later hb
  have B4 := Lib.hid (B3.out.trans (hb.mono B3.out.size))
  have R4 := Lib.hid (A3.out.below hb)
  clear hb ho X3 B3 A3
  go_wp2_with fail
  refine (CPA.out _ _ _ D4.out).mono ?_
  rintro e w5 ⟨⟨A5, c5, rfl, hp5⟩, hb⟩
  have P5 := Lib.hid hp5
  have X5 : Hid (Bk w5 w.heap.size 24 #[.int .i64 dx, .int .i64 px, .int .i64 bx, .int .i64 ix, .int .i64 yx]) := X4.out.later hb
  have B5 := Lib.hid (B4.out.trans (hb.mono B4.out.size))
  have R5 := Lib.hid (R4.out.below hb)
  obtain ⟨ap, hap, _, _⟩ := hp5.2.2 (by omega)
  subst hap
  have hKK : ((K : Int) != (K : Int)) = false := by simp
  clear hb hp5 X4 B4 R4 D4 CPA
  go_wp2_with fail
  refine (CCD.out _ R5.out).mono ?_
  rintro e w6 ⟨v6, rfl, ho, hb⟩
  obtain ⟨gd, cd, rfl, hcd1, hcd2, hgd, hDA⟩ := DaB.of_own ho HDS.out.2.2 HDS.out.2.1 (by omega)
  have D6 := Lib.hid hDA
  have X6 : Hid (Bk w6 w.heap.size 24 #[.int .i64 dx, .int .i64 px, .int .i64 bx, .int .i64 ix, .int .i64 yx]) := X5.out.later hb
  have B6 := Lib.hid (B5.out.trans (hb.mono B5.out.size))
  have R6 := Lib.hid (R5.out.below hb)
  have P6 := Lib.hid (P5.out.below hb)
  have hxg : w.heap.size < gd := by have := X5.out.lt; omega
  have HAD : Hid (∀ ad, A = some ad → ad.block < gd) := fun ad e => by
    obtain ⟨ad', e', hlt, _⟩ := R5.out.2.2 (by omega)
    rw [e] at e'; cases e'; omega
  clear hb ho hDA X5 B5 R5 P5 hgd
  go_wp2_with fail
  refine (copyData_own (some ap) K c5 pl w6 (fun h => by cases h) P6.out (by omega)).mono ?_
  rintro e w7 ⟨v7, rfl, ho, hb⟩
  obtain ⟨gp, cp, rfl, hcp1, hcp2, hgp, hDA⟩ := DaB.of_own ho HPL8.out.2 HPL8.out.1 (by omega)
  have D7 := Lib.hid (D6.out.later hb)
  have G7 := Lib.hid hDA
  have X7 : Hid (Bk w7 w.heap.size 24 #[.int .i64 dx, .int .i64 px, .int .i64 bx, .int .i64 ix, .int .i64 yx]) := X6.out.later hb
  have B7 := Lib.hid (B6.out.trans (hb.mono B6.out.size))
  have R7 := Lib.hid (R6.out.below hb)
  have hdp : gd < gp := by have := D6.out.lt; omega
  clear hb ho hDA X6 B6 R6 P6 D6 hgp
  obtain ⟨w8, hw8⟩ : ∃ W, w7.alloc (.cells #[.slice (some ⟨gd, 0, none⟩) n cd, .slice (some ⟨gp, 0, none⟩) K cp, .slice none 0 0, .slice none 0 0] 33) = W := ⟨_, rfl⟩
  have hb : Below w7.heap.size w7 w8 := by rw [← hw8]; exact (Below.refl _ _).alloc (Nat.le_refl _) _
  have hs8 : w8.heap.size = w7.heap.size + 1 := by rw [← hw8]; simp
  obtain ⟨b9, hb9⟩ : ∃ g, w7.heap.size = g := ⟨_, rfl⟩
  have Q8 : Hid (Bk w8 b9 33 #[.slice (some ⟨gd, 0, none⟩) n cd, .slice (some ⟨gp, 0, none⟩) K cp, .slice none 0 0, .slice none 0 0]) := by show Bk _ _ _ _; rw [← hw8, ← hb9]; exact Bk.new _ _ _
  have D8 : Hid (DaB w8 gd n (ovrF (dc ds) bl fD 0)) := by show DaB _ _ _ _; rw [ovrF_zero]; exact D7.out.later hb
  have G8 := Lib.hid (G7.out.later hb)
  have X8 : Hid (Bk w8 w.heap.size 24 #[.int .i64 dx, .int .i64 px, .int .i64 bx, .int .i64 ix, .int .i64 yx]) := X7.out.later hb
  have B8 := Lib.hid (B7.out.trans (hb.mono B7.out.size))
  have Z8 : Hid (RowsZ w8 (b9 + 1) [(.slice none 0 0, [])]) := by
    have h0 : RowsZ w8 (b9 + 1) [] := ⟨(fun p hp => by cases hp), List.Pairwise.nil⟩
    exact h0.nil
  have KX : Hid (∀ W, Below gd w7 W → Bk W w.heap.size 24 #[.int .i64 dx, .int .i64 px, .int .i64 bx, .int .i64 ix, .int .i64 yx]) := fun W hW => X7.out.below hW hxg
  have KA : Hid (∀ W, Below gd w7 W → RdD W A n ds) := fun W hW => R7.out.belowX hW HAD.out
  have KB : Hid (∀ W, Below gd w7 W → Below w.heap.size w W) := fun W hW => B7.out.trans (hW.mono (Nat.le_of_lt hxg))
  have E8 : Hid (Below gd w7 w8) := hb.mono (by have := D7.out.lt; omega)
  have hpb : gp < b9 := by have := G7.out.lt; omega
  have HS8 : Hid (b9 + 1 ≤ w8.heap.size) := by show _ ≤ _; omega
  have HW8 := Lib.hid hw8
  have HB9 := Lib.hid hb9
  clear hb hw8 hs8 hb9 D7 G7 X7 B7 R7 X8 B8 HAD
  go_upto_region 9 with fail
  rw [show w7.alloc (.cells #[.slice (some ⟨gd, 0, none⟩) n cd, .slice (some ⟨gp, 0, none⟩) K cp, .slice none 0 0, .slice none 0 0] 33) = w8 from HW8.out, HB9.out]
  clear HW8
  go_wp2
  go_loopw [11] (fun iv wr => ∃ (i : Nat) (vL : Value), i ≤ n ∧ iv = .int .i64 i ∧ Hid (Bk wr b9 33 #[.slice (some ⟨gd, 0, none⟩) n cd, .slice (some ⟨gp, 0, none⟩) K cp, vL, .slice none 0 0]) ∧ Hid (RowsZ wr (b9 + 1) [(vL, lostL bl i)]) ∧ Hid (DaB wr gd n (ovrF (dc ds) bl fD i)) ∧ Hid (DaB wr gp K (dc pl)) ∧ Hid (Below gd w7 wr) ∧ Hid (b9 + 1 ≤ wr.heap.size)) (fun iv _ => n - (intOf iv).toNat)
  case atStart => exact ⟨0, _, Nat.zero_le _, rfl, Q8.out, Z8.out, D8.out, G8.out, E8.out, HS8.out⟩
  case round =>
    clear Q8 Z8 D8 G8 E8 HS8
    obtain ⟨i, vL, hin, rfl, HQ, HZ, HD, HG, HE, HSZ⟩ := hrel
    obtain ⟨x0, x1, x2, x3, x4⟩ := bk5 (KX.out wr HE.out)
    by_cases hi : i < n
    · have hiI : (i : Int) < (n : Int) := by omega
      have hb1 := HBL.out i
      have hls : lostL bl (i + 1) = if bl i then lostL bl i ++ [(i : Int)] else lostL bl i := rfl
      cases hbi : bl i with
      | false =>
        rw [hbi] at hb1 hls
        rw [if_neg (by decide)] at hls
        have HLS := Lib.hid hls
        have ND : Hid (DaB wr gd n (ovrF (dc ds) bl fD (i + 1))) := by show DaB _ _ _ _; rw [ovrF_no _ _ _ _ hbi]; exact HD.out
        clear hls hbi
        go_wp2
        go_roundw
        case rel => exact ⟨i + 1, vL, by omega, by go_num, HQ.out, by show RowsZ _ _ _; rw [HLS.out]; exact HZ.out, ND.out, HG.out, HE.out, HSZ.out⟩
        case measure => simp [intOf]; omega
      | true =>
        rw [hbi] at hb1 hls
        rw [if_pos rfl] at hls
        have HLS := Lib.hid hls
        have hll : (lostL bl i).length ≤ 12 := by have := lostL_len bl i; omega
        obtain ⟨q0, q1, q2, q3⟩ := bk4 HQ.out
        have HBI := Lib.hid hbi
        have hsz := HSZ.out
        clear hls hbi
        go_wp2_with (at_builtin; refine wpList_append_own_at _ rfl (.tmp 58) (.tmp 60) 31 rfl (b9 + 1) 3 i0 (.int .i64 0) 1 8 intsUnder hi0 hz0 hz1 hz2 rfl (by decide) _ _ _ rfl (HZ.out.at1.alloc _) ⟨wr.heap.size, 0, none⟩ 1 1 [.int .i64 (i : Int)] rfl rfl (one_cell wr i) (by simp [Value.oneCell']) (by unfold maxLen; omega) (by omega) (by simp; omega) ?_)
        intro v' wA hown hgrow _ hat
        obtain ⟨ql, hql⟩ : ∃ q, (lostL bl i).length + 1 = q := ⟨_, rfl⟩
        rw [hql] at hown
        obtain ⟨Aq, cq, rfl, _, _, _⟩ := own_form8 hown
        have bA : Below (b9 + 1) wr wA := ((Below.refl _ wr).alloc hsz _).grown hgrow (by simp; omega) (fun z e => (HZ.out.at1.lt z e).1)
        have HZA : RowsZ wA (b9 + 1) [((.slice Aq ql cq), lostL bl i ++ [(i : Int)])] := RowsZ.step (pre := []) (post := []) (HZ.out.alloc _) (by rw [hql]; exact hown) hgrow (by simpa using hat)
        have HQA := HQ.out.below bA (by omega)
        have HDA := HD.out.below bA (by omega)
        have HGA := HG.out.below bA (by omega)
        have HEA := HE.out.trans (bA.mono (by omega))
        have qa : wA.cell? ⟨b9, 2, none⟩ = some vL := (bk4 HQA).2.2.1
        have qf : wA.frozen? ⟨b9, 2, none⟩ = false := HQA.frozen 2
        have HQB : Hid (Bk (wA.setCell ⟨b9, 2, none⟩ (.slice Aq ql cq)) b9 33 #[.slice (some ⟨gd, 0, none⟩) n cd, .slice (some ⟨gp, 0, none⟩) K cp, (.slice Aq ql cq), .slice none 0 0]) := Lib.hid (by simpa using HQA.set_ 2 (.slice Aq ql cq))
        have HZB : Hid (RowsZ (wA.setCell ⟨b9, 2, none⟩ (.slice Aq ql cq)) (b9 + 1) [((.slice Aq ql cq), lostL bl (i + 1))]) := by show RowsZ _ _ _; rw [HLS.out]; exact HZA.far _ _ (by simp)
        have HDB : Hid (DaB (wA.setCell ⟨b9, 2, none⟩ (.slice Aq ql cq)) gd n (ovrF (dc ds) bl fD i)) := HDA.far _ (by simp; omega) _
        have HGB : Hid (DaB (wA.setCell ⟨b9, 2, none⟩ (.slice Aq ql cq)) gp K (dc pl)) := HGA.far _ (by simp; omega) _
        have HEB : Hid (Below gd w7 (wA.setCell ⟨b9, 2, none⟩ (.slice Aq ql cq))) := HEA.setCell (by simp; omega) _
        have HSB : Hid (b9 + 1 ≤ (wA.setCell ⟨b9, 2, none⟩ (.slice Aq ql cq)).heap.size) := by show _ ≤ _; have := bA.size; simp; omega
        clear x0 x1 x2 x3 x4 q0 q1 q2 q3 hown hgrow hat hql bA HZA HQA HDA HGA HEA HQ HZ HD HG HE HSZ hsz
        go_upto_region 15 with fail
        clear qa qf
        obtain ⟨wB, hwB⟩ : ∃ W, (wA.setCell ⟨b9, 2, none⟩ (.slice Aq ql cq)) = W := ⟨_, rfl⟩
        rw [hwB] at HQB HZB HDB HGB HEB HSB ⊢
        clear hwB
        obtain ⟨x0, x1, x2, x3, x4⟩ := bk5 (KX.out wB HEB.out)
        obtain ⟨q0, q1, q2, q3⟩ := bk4 HQB.out
        have z0 : wB.cell? ⟨gd, i * 8, none⟩ = some (.int .i64 _) := HDB.out.cell (r := i) (k := 0) (by omega) (by omega)
        have fz0 : wB.frozen? ⟨gd, i * 8, none⟩ = false := HDB.out.frozen (i * 8)
        have z1 : wB.cell? ⟨gd, i * 8 + 1, none⟩ = some (.int .i64 _) := HDB.out.cell (r := i) (k := 1) (by omega) (by omega)
        have fz1 : wB.frozen? ⟨gd, i * 8 + 1, none⟩ = false := HDB.out.frozen (i * 8 + 1)
        have z2 : wB.cell? ⟨gd, i * 8 + 2, none⟩ = some (.int .i64 _) := HDB.out.cell (r := i) (k := 2) (by omega) (by omega)
        have fz2 : wB.frozen? ⟨gd, i * 8 + 2, none⟩ = false := HDB.out.frozen (i * 8 + 2)
        have z3 : wB.cell? ⟨gd, i * 8 + 3, none⟩ = some (.int .i64 _) := HDB.out.cell (r := i) (k := 3) (by omega) (by omega)
        have fz3 : wB.frozen? ⟨gd, i * 8 + 3, none⟩ = false := HDB.out.frozen (i * 8 + 3)
        have z4 : wB.cell? ⟨gd, i * 8 + 4, none⟩ = some (.int .i64 _) := HDB.out.cell (r := i) (k := 4) (by omega) (by omega)
        have fz4 : wB.frozen? ⟨gd, i * 8 + 4, none⟩ = false := HDB.out.frozen (i * 8 + 4)
        have z5 : wB.cell? ⟨gd, i * 8 + 5, none⟩ = some (.int .i64 _) := HDB.out.cell (r := i) (k := 5) (by omega) (by omega)
        have fz5 : wB.frozen? ⟨gd, i * 8 + 5, none⟩ = false := HDB.out.frozen (i * 8 + 5)
        have z6 : wB.cell? ⟨gd, i * 8 + 6, none⟩ = some (.int .i64 _) := HDB.out.cell (r := i) (k := 6) (by omega) (by omega)
        have fz6 : wB.frozen? ⟨gd, i * 8 + 6, none⟩ = false := HDB.out.frozen (i * 8 + 6)
        have z7 : wB.cell? ⟨gd, i * 8 + 7, none⟩ = some (.int .i64 _) := HDB.out.cell (r := i) (k := 7) (by omega) (by omega)
        have fz7 : wB.frozen? ⟨gd, i * 8 + 7, none⟩ = false := HDB.out.frozen (i * 8 + 7)
        have ND : Hid (DaB ((((((((wB.setCell ⟨gd, i * 8, none⟩ (.int .i64 yx)).setCell ⟨gd, i * 8 + 1, none⟩ (.int .i64 ix)).setCell ⟨gd, i * 8 + 2, none⟩ (.int .i64 0)).setCell ⟨gd, i * 8 + 3, none⟩ (.int .i64 0)).setCell ⟨gd, i * 8 + 4, none⟩ (.int .i64 0)).setCell ⟨gd, i * 8 + 5, none⟩ (.int .i64 0)).setCell ⟨gd, i * 8 + 6, none⟩ (.int .i64 0)).setCell ⟨gd, i * 8 + 7, none⟩ (.int .i64 0)) gd n (ovrF (dc ds) bl fD (i + 1))) := by
          have h1 := HDB.out.row hi fD
          rw [HfD.out.a0, HfD.out.a1, HfD.out.a2, HfD.out.a3, HfD.out.a4, HfD.out.a5, HfD.out.a6, HfD.out.a7] at h1
          exact Lib.hid (h1.congr fun a k _ _ => ovrF_yes _ _ _ _ _ _ HBI.out)
        have NQ : Hid (Bk ((((((((wB.setCell ⟨gd, i * 8, none⟩ (.int .i64 yx)).setCell ⟨gd, i * 8 + 1, none⟩ (.int .i64 ix)).setCell ⟨gd, i * 8 + 2, none⟩ (.int .i64 0)).setCell ⟨gd, i * 8 + 3, none⟩ (.int .i64 0)).setCell ⟨gd, i * 8 + 4, none⟩ (.int .i64 0)).setCell ⟨gd, i * 8 + 5, none⟩ (.int .i64 0)).setCell ⟨gd, i * 8 + 6, none⟩ (.int .i64 0)).setCell ⟨gd, i * 8 + 7, none⟩ (.int .i64 0)) b9 33 #[.slice (some ⟨gd, 0, none⟩) n cd, .slice (some ⟨gp, 0, none⟩) K cp, (.slice Aq ql cq), .slice none 0 0]) := ((((((((HQB.out.far _ (by simp; omega) _).far _ (by simp; omega) _).far _ (by simp; omega) _).far _ (by simp; omega) _).far _ (by simp; omega) _).far _ (by simp; omega) _).far _ (by simp; omega) _).far _ (by simp; omega) _)
        have NZ : Hid (RowsZ ((((((((wB.setCell ⟨gd, i * 8, none⟩ (.int .i64 yx)).setCell ⟨gd, i * 8 + 1, none⟩ (.int .i64 ix)).setCell ⟨gd, i * 8 + 2, none⟩ (.int .i64 0)).setCell ⟨gd, i * 8 + 3, none⟩ (.int .i64 0)).setCell ⟨gd, i * 8 + 4, none⟩ (.int .i64 0)).setCell ⟨gd, i * 8 + 5, none⟩ (.int .i64 0)).setCell ⟨gd, i * 8 + 6, none⟩ (.int .i64 0)).setCell ⟨gd, i * 8 + 7, none⟩ (.int .i64 0)) (b9 + 1) [((.slice Aq ql cq), lostL bl (i + 1))]) := ((((((((HZB.out.far _ _ (by simp; omega)).far _ _ (by simp; omega)).far _ _ (by simp; omega)).far _ _ (by simp; omega)).far _ _ (by simp; omega)).far _ _ (by simp; omega)).far _ _ (by simp; omega)).far _ _ (by simp; omega))
        have NG : Hid (DaB ((((((((wB.setCell ⟨gd, i * 8, none⟩ (.int .i64 yx)).setCell ⟨gd, i * 8 + 1, none⟩ (.int .i64 ix)).setCell ⟨gd, i * 8 + 2, none⟩ (.int .i64 0)).setCell ⟨gd, i * 8 + 3, none⟩ (.int .i64 0)).setCell ⟨gd, i * 8 + 4, none⟩ (.int .i64 0)).setCell ⟨gd, i * 8 + 5, none⟩ (.int .i64 0)).setCell ⟨gd, i * 8 + 6, none⟩ (.int .i64 0)).setCell ⟨gd, i * 8 + 7, none⟩ (.int .i64 0)) gp K (dc pl)) := ((((((((HGB.out.far _ (by simp; omega) _).far _ (by simp; omega) _).far _ (by simp; omega) _).far _ (by simp; omega) _).far _ (by simp; omega) _).far _ (by simp; omega) _).far _ (by simp; omega) _).far _ (by simp; omega) _)
        have NE : Hid (Below gd w7 ((((((((wB.setCell ⟨gd, i * 8, none⟩ (.int .i64 yx)).setCell ⟨gd, i * 8 + 1, none⟩ (.int .i64 ix)).setCell ⟨gd, i * 8 + 2, none⟩ (.int .i64 0)).setCell ⟨gd, i * 8 + 3, none⟩ (.int .i64 0)).setCell ⟨gd, i * 8 + 4, none⟩ (.int .i64 0)).setCell ⟨gd, i * 8 + 5, none⟩ (.int .i64 0)).setCell ⟨gd, i * 8 + 6, none⟩ (.int .i64 0)).setCell ⟨gd, i * 8 + 7, none⟩ (.int .i64 0))) := ((((((((HEB.out.setCell (by simp) _).setCell (by simp) _).setCell (by simp) _).setCell (by simp) _).setCell (by simp) _).setCell (by simp) _).setCell (by simp) _).setCell (by simp) _)
        have NS : Hid (b9 + 1 ≤ ((((((((wB.setCell ⟨gd, i * 8, none⟩ (.int .i64 yx)).setCell ⟨gd, i * 8 + 1, none⟩ (.int .i64 ix)).setCell ⟨gd, i * 8 + 2, none⟩ (.int .i64 0)).setCell ⟨gd, i * 8 + 3, none⟩ (.int .i64 0)).setCell ⟨gd, i * 8 + 4, none⟩ (.int .i64 0)).setCell ⟨gd, i * 8 + 5, none⟩ (.int .i64 0)).setCell ⟨gd, i * 8 + 6, none⟩ (.int .i64 0)).setCell ⟨gd, i * 8 + 7, none⟩ (.int .i64 0)).heap.size) := by show _ ≤ _; have := HSB.out; simp; omega
        clear HQB HZB HDB HGB HEB HSB
        go_wp2
        go_roundw
        case rel => exact ⟨i + 1, _, by omega, by go_num, NQ.out, NZ.out, ND.out, NG.out, NE.out, NS.out⟩
        case measure => simp [intOf]; omega
    · obtain rfl : n = i := by omega
      clear x0 x1 x2 x3 x4 hi
      obtain ⟨ld, hld⟩ : ∃ l, lostL bl n = l := ⟨_, rfl⟩
      obtain ⟨FD, hFD⟩ : ∃ F, ovrF (dc ds) bl fD n = F := ⟨_, rfl⟩
      obtain ⟨nb, hnb⟩ : ∃ b, (fun j => !bp j) = b := ⟨_, rfl⟩
      have HNB : Hid (∀ j, nb j = !bp j) := fun j => by rw [← hnb]
      obtain ⟨f0, hf0⟩ : ∃ f : Nat → Int, (fun _ => 0) = f := ⟨_, rfl⟩
      have Hf0 : Hid (∀ k, f0 k = 0) := fun k => by rw [← hf0]
      rw [hld] at HZ
      rw [hFD] at HD
      have HLD := Lib.hid hld
      have HFD := Lib.hid hFD
      have HNBB := Lib.hid hnb
      have GP0 : Hid (DaB wr gp K (ovrF (dc pl) bp f0 0)) := by show DaB _ _ _ _; rw [ovrF_zero]; exact HG.out
      have RZ0 : Hid (RowsZ wr (b9 + 1) [(vL, ld), (.slice none 0 0, lostL bp 0), (.slice none 0 0, lostL nb 0)]) := Lib.hid (RowsZ.nil (RowsZ.nil HZ.out))
      clear hld hFD hnb hf0 HG HZ
      go_wp2
      go_loopw [10, 12] (fun vT jv wr => ∃ (j : Nat) (vP : Value), j ≤ K ∧ jv = .int .i64 j ∧ Hid (Bk wr b9 33 #[.slice (some ⟨gd, 0, none⟩) n cd, .slice (some ⟨gp, 0, none⟩) K cp, vL, vP]) ∧ Hid (RowsZ wr (b9 + 1) [(vL, ld), (vP, lostL bp j), (vT, lostL nb j)]) ∧ Hid (DaB wr gd n FD) ∧ Hid (DaB wr gp K (ovrF (dc pl) bp f0 j)) ∧ Hid (Below gd w7 wr) ∧ Hid (b9 + 1 ≤ wr.heap.size)) (fun _ jv _ => K - (intOf jv).toNat)
      case atStart => exact ⟨0, _, Nat.zero_le _, rfl, HQ.out, RZ0.out, HD.out, GP0.out, HE.out, HSZ.out⟩
      case round =>
        clear HQ RZ0 HD GP0 HE HSZ
        obtain ⟨j, vP, hjK, rfl, HQ, HZ, HD, HG, HE, HSZ⟩ := hrel
        obtain ⟨x0, x1, x2, x3, x4⟩ := bk5 (KX.out wr HE.out)
        by_cases hj : j < K
        · have hjI : (j : Int) < (K : Int) := by omega
          have hb1 := HBP.out j
          have hlp : lostL bp (j + 1) = if bp j then lostL bp j ++ [(j : Int)] else lostL bp j := rfl
          have hln : lostL nb (j + 1) = if nb j then lostL nb j ++ [(j : Int)] else lostL nb j := rfl
          have hnj := HNB.out j
          have hl1 : (lostL bp j).length ≤ 12 := by have := lostL_len bp j; omega
          have hl2 : (lostL nb j).length ≤ 12 := by have := lostL_len nb j; omega
          have hsz := HSZ.out
          cases hbj : bp j with
          | false =>
            rw [hbj] at hb1 hlp hnj
            rw [hnj] at hln
            rw [if_neg (by decide)] at hlp
            rw [if_pos (by decide)] at hln
            have HLP := Lib.hid hlp
            have HLN := Lib.hid hln
            have ND : Hid (DaB wr gp K (ovrF (dc pl) bp f0 (j + 1))) := by show DaB _ _ _ _; rw [ovrF_no _ _ _ _ hbj]; exact HG.out
            clear hlp hln hbj hnj
            go_wp2_with (at_builtin; refine wpList_append_own_at _ rfl (.tmp 94) (.tmp 96) 31 rfl (b9 + 1) 3 i0 (.int .i64 0) 1 8 intsUnder hi0 hz0 hz1 hz2 rfl (by decide) _ _ _ rfl (HZ.out.of3.alloc _) ⟨wr.heap.size, 0, none⟩ 1 1 [.int .i64 (j : Int)] rfl rfl (one_cell wr j) (by simp [Value.oneCell']) (by unfold maxLen; omega) (by omega) (by simp; omega) ?_)
            intro v' wA hown hgrow _ hat
            have bA : Below (b9 + 1) wr wA := ((Below.refl _ wr).alloc hsz _).grown hgrow (by simp; omega) (fun z e => (HZ.out.of3.lt z e).1)
            have HZA : Hid (RowsZ wA (b9 + 1) [(vL, ld), (vP, lostL bp (j + 1)), (v', lostL nb (j + 1))]) := by
              show RowsZ _ _ _
              rw [HLP.out, HLN.out]
              exact RowsZ.step (pre := [(vL, ld), (vP, lostL bp j)]) (post := []) (HZ.out.alloc _) hown hgrow (by simpa using hat)
            have HQA := Lib.hid (HQ.out.below bA (by omega))
            have HDA := Lib.hid (HD.out.below bA (by omega))
            have HGA := Lib.hid (ND.out.below bA (by omega))
            have HEA := Lib.hid (HE.out.trans (bA.mono (by omega)))
            have HSA : Hid (b9 + 1 ≤ wA.heap.size) := Nat.le_trans hsz bA.size
            clear hown hgrow hat bA x0 x1 x2 x3 x4
            go_wp2
            go_roundw
            case rel => exact ⟨j + 1, vP, by omega, by go_num, HQA.out, HZA.out, HDA.out, HGA.out, HEA.out, HSA.out⟩
            case measure => simp [intOf]; omega
          | true =>
            rw [hbj] at hb1 hlp hnj
            rw [hnj] at hln
            rw [if_pos rfl] at hlp
            rw [if_neg (by decide)] at hln
            have HLP := Lib.hid hlp
            have HLN := Lib.hid hln
            have HBJ := Lib.hid hbj
            obtain ⟨q0, q1, q2, q3⟩ := bk4 HQ.out
            clear hlp hln hbj hnj
            go_wp2_with (at_builtin; refine wpList_append_own_at _ rfl (.tmp 84) (.tmp 86) 31 rfl (b9 + 1) 3 i0 (.int .i64 0) 1 8 intsUnder hi0 hz0 hz1 hz2 rfl (by decide) _ _ _ rfl (HZ.out.of2.alloc _) ⟨wr.heap.size, 0, none⟩ 1 1 [.int .i64 (j : Int)] rfl rfl (one_cell wr j) (by simp [Value.oneCell']) (by unfold maxLen; omega) (by omega) (by simp; omega) ?_)
            intro v' wA hown hgrow _ hat
            obtain ⟨ql, hql⟩ : ∃ q, (lostL bp j).length + 1 = q := ⟨_, rfl⟩
            rw [hql] at hown
            obtain ⟨Aq, cq, rfl, _, _, _⟩ := own_form8 hown
            have bA : Below (b9 + 1) wr wA := ((Below.refl _ wr).alloc hsz _).grown hgrow (by simp; omega) (fun z e => (HZ.out.of2.lt z e).1)
            have HZA : RowsZ wA (b9 + 1) [(vL, ld), ((.slice Aq ql cq), lostL bp j ++ [(j : Int)]), (u10, lostL nb j)] := RowsZ.step (pre := [(vL, ld)]) (post := [(u10, lostL nb j)]) (HZ.out.alloc _) (by rw [hql]; exact hown) hgrow (by simpa using hat)
            have HQA := HQ.out.below bA (by omega)
            have HDA := HD.out.below bA (by omega)
            have HGA := HG.out.below bA (by omega)
            have HEA := HE.out.trans (bA.mono (by omega))
            have qa : wA.cell? ⟨b9, 3, none⟩ = some vP := (bk4 HQA).2.2.2
            have qf : wA.frozen? ⟨b9, 3, none⟩ = false := HQA.frozen 3
            have HQB : Hid (Bk (wA.setCell ⟨b9, 3, none⟩ (.slice Aq ql cq)) b9 33 #[.slice (some ⟨gd, 0, none⟩) n cd, .slice (some ⟨gp, 0, none⟩) K cp, vL, (.slice Aq ql cq)]) := Lib.hid (by simpa using HQA.set_ 3 (.slice Aq ql cq))
            have HZB : Hid (RowsZ (wA.setCell ⟨b9, 3, none⟩ (.slice Aq ql cq)) (b9 + 1) [(vL, ld), ((.slice Aq ql cq), lostL bp (j + 1)), (u10, lostL nb (j + 1))]) := by show RowsZ _ _ _; rw [HLP.out, HLN.out]; exact HZA.far _ _ (by simp)
            have HDB : Hid (DaB (wA.setCell ⟨b9, 3, none⟩ (.slice Aq ql cq)) gd n FD) := HDA.far _ (by simp; omega) _
            have HGB : Hid (DaB (wA.setCell ⟨b9, 3, none⟩ (.slice Aq ql cq)) gp K (ovrF (dc pl) bp f0 j)) := HGA.far _ (by simp; omega) _
            have HEB : Hid (Below gd w7 (wA.setCell ⟨b9, 3, none⟩ (.slice Aq ql cq))) := HEA.setCell (by simp; omega) _
            have HSB : Hid (b9 + 1 ≤ (wA.setCell ⟨b9, 3, none⟩ (.slice Aq ql cq)).heap.size) := by show _ ≤ _; have := bA.size; simp; omega
            clear x0 x1 x2 x3 x4 q0 q1 q2 q3 hown hgrow hat hql bA HZA HQA HDA HGA HEA HQ HZ HD HG HE HSZ hsz
            go_upto_region 21 with fail
            clear qa qf
            obtain ⟨wB, hwB⟩ : ∃ W, (wA.setCell ⟨b9, 3, none⟩ (.slice Aq ql cq)) = W := ⟨_, rfl⟩
            rw [hwB] at HQB HZB HDB HGB HEB HSB ⊢
            clear hwB
            obtain ⟨q0, q1, q2, q3⟩ := bk4 HQB.out
            have z0 : wB.cell? ⟨gp, j * 8, none⟩ = some (.int .i64 _) := HGB.out.cell (r := j) (k := 0) (by omega) (by omega)
            have fz0 : wB.frozen? ⟨gp, j * 8, none⟩ = false := HGB.out.frozen (j * 8)
            have z1 : wB.cell? ⟨gp, j * 8 + 1, none⟩ = some (.int .i64 _) := HGB.out.cell (r := j) (k := 1) (by omega) (by omega)
            have fz1 : wB.frozen? ⟨gp, j * 8 + 1, none⟩ = false := HGB.out.frozen (j * 8 + 1)
            have z2 : wB.cell? ⟨gp, j * 8 + 2, none⟩ = some (.int .i64 _) := HGB.out.cell (r := j) (k := 2) (by omega) (by omega)
            have fz2 : wB.frozen? ⟨gp, j * 8 + 2, none⟩ = false := HGB.out.frozen (j * 8 + 2)
            have z3 : wB.cell? ⟨gp, j * 8 + 3, none⟩ = some (.int .i64 _) := HGB.out.cell (r := j) (k := 3) (by omega) (by omega)
            have fz3 : wB.frozen? ⟨gp, j * 8 + 3, none⟩ = false := HGB.out.frozen (j * 8 + 3)
            have z4 : wB.cell? ⟨gp, j * 8 + 4, none⟩ = some (.int .i64 _) := HGB.out.cell (r := j) (k := 4) (by omega) (by omega)
            have fz4 : wB.frozen? ⟨gp, j * 8 + 4, none⟩ = false := HGB.out.frozen (j * 8 + 4)
            have z5 : wB.cell? ⟨gp, j * 8 + 5, none⟩ = some (.int .i64 _) := HGB.out.cell (r := j) (k := 5) (by omega) (by omega)
            have fz5 : wB.frozen? ⟨gp, j * 8 + 5, none⟩ = false := HGB.out.frozen (j * 8 + 5)
            have z6 : wB.cell? ⟨gp, j * 8 + 6, none⟩ = some (.int .i64 _) := HGB.out.cell (r := j) (k := 6) (by omega) (by omega)
            have fz6 : wB.frozen? ⟨gp, j * 8 + 6, none⟩ = false := HGB.out.frozen (j * 8 + 6)
            have z7 : wB.cell? ⟨gp, j * 8 + 7, none⟩ = some (.int .i64 _) := HGB.out.cell (r := j) (k := 7) (by omega) (by omega)
            have fz7 : wB.frozen? ⟨gp, j * 8 + 7, none⟩ = false := HGB.out.frozen (j * 8 + 7)
            have NG : Hid (DaB ((((((((wB.setCell ⟨gp, j * 8, none⟩ (.int .i64 0)).setCell ⟨gp, j * 8 + 1, none⟩ (.int .i64 0)).setCell ⟨gp, j * 8 + 2, none⟩ (.int .i64 0)).setCell ⟨gp, j * 8 + 3, none⟩ (.int .i64 0)).setCell ⟨gp, j * 8 + 4, none⟩ (.int .i64 0)).setCell ⟨gp, j * 8 + 5, none⟩ (.int .i64 0)).setCell ⟨gp, j * 8 + 6, none⟩ (.int .i64 0)).setCell ⟨gp, j * 8 + 7, none⟩ (.int .i64 0)) gp K (ovrF (dc pl) bp f0 (j + 1))) := by
              have h1 := HGB.out.row hj f0
              rw [Hf0.out 0, Hf0.out 1, Hf0.out 2, Hf0.out 3, Hf0.out 4, Hf0.out 5, Hf0.out 6, Hf0.out 7] at h1
              exact Lib.hid (h1.congr fun a k _ _ => ovrF_yes _ _ _ _ _ _ HBJ.out)
            have NQ : Hid (Bk ((((((((wB.setCell ⟨gp, j * 8, none⟩ (.int .i64 0)).setCell ⟨gp, j * 8 + 1, none⟩ (.int .i64 0)).setCell ⟨gp, j * 8 + 2, none⟩ (.int .i64 0)).setCell ⟨gp, j * 8 + 3, none⟩ (.int .i64 0)).setCell ⟨gp, j * 8 + 4, none⟩ (.int .i64 0)).setCell ⟨gp, j * 8 + 5, none⟩ (.int .i64 0)).setCell ⟨gp, j * 8 + 6, none⟩ (.int .i64 0)).setCell ⟨gp, j * 8 + 7, none⟩ (.int .i64 0)) b9 33 #[.slice (some ⟨gd, 0, none⟩) n cd, .slice (some ⟨gp, 0, none⟩) K cp, vL, (.slice Aq ql cq)]) := ((((((((HQB.out.far _ (by simp; omega) _).far _ (by simp; omega) _).far _ (by simp; omega) _).far _ (by simp; omega) _).far _ (by simp; omega) _).far _ (by simp; omega) _).far _ (by simp; omega) _).far _ (by simp; omega) _)
            have NZ : Hid (RowsZ ((((((((wB.setCell ⟨gp, j * 8, none⟩ (.int .i64 0)).setCell ⟨gp, j * 8 + 1, none⟩ (.int .i64 0)).setCell ⟨gp, j * 8 + 2, none⟩ (.int .i64 0)).setCell ⟨gp, j * 8 + 3, none⟩ (.int .i64 0)).setCell ⟨gp, j * 8 + 4, none⟩ (.int .i64 0)).setCell ⟨gp, j * 8 + 5, none⟩ (.int .i64 0)).setCell ⟨gp, j * 8 + 6, none⟩ (.int .i64 0)).setCell ⟨gp, j * 8 + 7, none⟩ (.int .i64 0)) (b9 + 1) [(vL, ld), ((.slice Aq ql cq), lostL bp (j + 1)), (u10, lostL nb (j + 1))]) := ((((((((HZB.out.far _ _ (by simp; omega)).far _ _ (by simp; omega)).far _ _ (by simp; omega)).far _ _ (by simp; omega)).far _ _ (by simp; omega)).far _ _ (by simp; omega)).far _ _ (by simp; omega)).far _ _ (by simp; omega))
            have ND : Hid (DaB ((((((((wB.setCell ⟨gp, j * 8, none⟩ (.int .i64 0)).setCell ⟨gp, j * 8 + 1, none⟩ (.int .i64 0)).setCell ⟨gp, j * 8 + 2, none⟩ (.int .i64 0)).setCell ⟨gp, j * 8 + 3, none⟩ (.int .i64 0)).setCell ⟨gp, j * 8 + 4, none⟩ (.int .i64 0)).setCell ⟨gp, j * 8 + 5, none⟩ (.int .i64 0)).setCell ⟨gp, j * 8 + 6, none⟩ (.int .i64 0)).setCell ⟨gp, j * 8 + 7, none⟩ (.int .i64 0)) gd n FD) := ((((((((HDB.out.far _ (by simp; omega) _).far _ (by simp; omega) _).far _ (by simp; omega) _).far _ (by simp; omega) _).far _ (by simp; omega) _).far _ (by simp; omega) _).far _ (by simp; omega) _).far _ (by simp; omega) _)
            have NE : Hid (Below gd w7 ((((((((wB.setCell ⟨gp, j * 8, none⟩ (.int .i64 0)).setCell ⟨gp, j * 8 + 1, none⟩ (.int .i64 0)).setCell ⟨gp, j * 8 + 2, none⟩ (.int .i64 0)).setCell ⟨gp, j * 8 + 3, none⟩ (.int .i64 0)).setCell ⟨gp, j * 8 + 4, none⟩ (.int .i64 0)).setCell ⟨gp, j * 8 + 5, none⟩ (.int .i64 0)).setCell ⟨gp, j * 8 + 6, none⟩ (.int .i64 0)).setCell ⟨gp, j * 8 + 7, none⟩ (.int .i64 0))) := ((((((((HEB.out.setCell (by simp; omega) _).setCell (by simp; omega) _).setCell (by simp; omega) _).setCell (by simp; omega) _).setCell (by simp; omega) _).setCell (by simp; omega) _).setCell (by simp; omega) _).setCell (by simp; omega) _)
            have NS : Hid (b9 + 1 ≤ ((((((((wB.setCell ⟨gp, j * 8, none⟩ (.int .i64 0)).setCell ⟨gp, j * 8 + 1, none⟩ (.int .i64 0)).setCell ⟨gp, j * 8 + 2, none⟩ (.int .i64 0)).setCell ⟨gp, j * 8 + 3, none⟩ (.int .i64 0)).setCell ⟨gp, j * 8 + 4, none⟩ (.int .i64 0)).setCell ⟨gp, j * 8 + 5, none⟩ (.int .i64 0)).setCell ⟨gp, j * 8 + 6, none⟩ (.int .i64 0)).setCell ⟨gp, j * 8 + 7, none⟩ (.int .i64 0)).heap.size) := by show _ ≤ _; have := HSB.out; simp; omega
            clear HQB HZB HDB HGB HEB HSB
            go_wp2
            go_roundw
            case rel => exact ⟨j + 1, _, by omega, by go_num, NQ.out, NZ.out, ND.out, NG.out, NE.out, NS.out⟩
            case measure => simp [intOf]; omega
        · obtain rfl : j = K := by omega
          clear x0 x1 x2 x3 x4 hj
          go_upto_region 23 with fail
          obtain ⟨lp, hlp⟩ : ∃ q, lostL bp j = q := ⟨_, rfl⟩
          obtain ⟨lq, hlq⟩ : ∃ q, lostL nb j = q := ⟨_, rfl⟩
          rw [hlp, hlq] at HZ
          obtain ⟨lA, lc, rfl, hLI, hLN, hLB⟩ := own_rdi HZ.out.of1
          obtain ⟨pA, pc, rfl, hPI, hPN, hPB⟩ := own_rdi HZ.out.of2
          obtain ⟨qA, qc, rfl, hTI, hTN, hTB⟩ := own_rdi HZ.out.of3
          have HQl : Hid (ld.length ≤ 12 ∧ lp.length ≤ 4 ∧ lq.length ≤ 4) := ⟨by rw [← HLD.out]; exact Nat.le_trans (lostL_len bl n) hn12, by rw [← hlp]; exact Nat.le_trans (lostL_len bp j) hK4, by rw [← hlq]; exact Nat.le_trans (lostL_len nb j) hK4⟩
          have HQm : Hid (∀ a : Nat, (a : Int) ∈ lq → a < j) := fun a ha => by rw [← hlq] at ha; have := (lostL_mem nb j (a : Int)).1 ha; omega
          have HQn : Hid (∀ z ∈ lq, 0 ≤ z) := fun z hz => by rw [← hlq] at hz; exact ((lostL_mem nb j z).1 hz).1
          have HGood : Hid (rstR n j ld.length (listD n FD) (listD j (ovrF (dc pl) bp f0 j)) ld lp = if lq.length < ld.length then ([], 28) else (ds, 0)) := by
            show _ = _
            rw [← hlp, ← hlq, ← HLD.out, ← HFD.out, ← HNBB.out]
            exact law_good bl bp fD f0 HDS.out.2.1 HDS.out.2.2 HDS.out.1 hn1 hn12 hK1 hK4 HPL8.out.1 HPL8.out.2 HPL.out
          have HChg : Hid (∀ (a kk : Nat) (dl : Int), kk < 8 → 0 < dl ∧ dl < 65537 → (a : Int) ∈ lq → ld.length < lq.length → rstR n j ld.length (listD n FD) (listD j (fun r k => if r = a ∧ k = kk then ((ovrF (dc pl) bp f0 j) a kk + dl).tmod 65537 else (ovrF (dc pl) bp f0 j) r k)) ld lp = ([], 13)) := fun a kk dl h1 h2 h3 h4 => by
            have hab : bp a = false := by
              rw [← hlq, ← HNBB.out] at h3
              have := ((lostL_mem _ j (a : Int)).1 h3).2.2
              rw [Int.toNat_natCast] at this
              simpa using this
            rw [show (ovrF (dc pl) bp f0 j) a kk = dc pl a kk from if_neg (by rw [hab]; rintro ⟨_, h⟩; cases h)]
            rw [← hlq, ← HNBB.out] at h3 h4
            rw [← HLD.out] at h4
            rw [← hlp, ← HLD.out, ← HFD.out]
            exact law_changed bl bp fD f0 a kk dl HDS.out.2.1 HDS.out.2.2 HDS.out.1 hn1 hn12 hK1 hK4 HPL8.out.1 HPL8.out.2 HPL.out h1 h2 h3 h4
          have HGv : Hid (∀ a kk : Nat, (a : Int) ∈ lq → (ovrF (dc pl) bp f0 j) a kk = dc pl a kk ∧ 0 ≤ dc pl a kk ∧ dc pl a kk ≤ 65536) := fun a kk h3 => by
            have haj := HQm.out a h3
            have hab : bp a = false := by
              rw [← hlq, ← HNBB.out] at h3
              have := ((lostL_mem _ j (a : Int)).1 h3).2.2
              rw [Int.toNat_natCast] at this
              simpa using this
            refine ⟨if_neg (by rw [hab]; rintro ⟨_, h⟩; cases h), ?_⟩
            unfold dc; rw [HPL.out a haj]; exact parP_bd ds a _ kk
          clear HBL HBP HDS HfD HNB Hf0 HLD HFD HNBB HPL HPL8 CCD hlp hlq HZ hTB
          have HLf := Lib.hid hLB
          have HPf := Lib.hid hPB
          clear hLB hPB
          have RL := Lib.hid hLI
          have RP := Lib.hid hPI
          have RQ := Lib.hid hTI
          have NL := Lib.hid hLN
          have NP := Lib.hid hPN
          have NQ := Lib.hid hTN
          clear hLI hPI hTI hLN hPN hTN
          obtain ⟨⟨R1, R2⟩, hR⟩ : ∃ r, rstR n j ld.length (listD n FD) (listD j (ovrF (dc pl) bp f0 j)) ld lp = r := ⟨_, rfl⟩
          have HR := Lib.hid hR
          have HGood2 : Hid ((R1, R2) = if lq.length < ld.length then ([], 28) else (ds, 0)) := by show _ = _; rw [← hR]; exact HGood.out
          clear hR HGood
          have CRS : Hid (∀ W A B C D k1 k2 k3 k4, RdD W A n (listD n FD) → RdD W B j (listD j (ovrF (dc pl) bp f0 j)) → RdI W C ld.length ld → RdI W D lp.length lp → Calls Tryd.prog 9 #[.agg #[.slice A n k1, .slice B j k2, .slice C ld.length k3, .slice D lp.length k4]] W (RstRes W (R1, R2))) := fun W A B C D k1 k2 k3 k4 h1 h2 h3 h4 => by
            rw [← HR.out]; exact restored_any A B C D n j ld.length lp.length k1 k2 k3 k4 _ _ ld lp W h1 h2 h3 h4 (by omega) (by omega) (by have := HQl.out; omega) (by have := HQl.out; omega)
          have CPG : Hid (Calls Tryd.prog 10 #[.agg #[.slice (some ⟨gd, 0, none⟩) n cd, .slice (some ⟨gp, 0, none⟩) j cp, .slice lA ld.length lc, .slice pA lp.length pc]] wr (CpG wr n j ld.length lp.length (listD n FD) (listD j (ovrF (dc pl) bp f0 j)) ld lp)) := copyGroup_any _ _ lA pA n j ld.length lp.length cd cp lc pc _ _ ld lp wr HD.out.toRd HG.out.toRd RL.out RP.out (fun h => by cases h) (fun h => by cases h) NL.out NP.out (by omega) (by omega) (by have := HQl.out; omega) (by have := HQl.out; omega)
          obtain ⟨q0, q1, q2, q3⟩ := bk4 HQ.out
          go_wp2_with fail
          refine CPG.out.mono ?_
          rintro e wc ⟨⟨cA, cB, cC, cD, k1, k2, k3, k4, rfl, rA, rB, rC, rD⟩, hb⟩
          have RA := Lib.hid rA
          have RB := Lib.hid rB
          have RC := Lib.hid rC
          have RD := Lib.hid rD
          have HBC := Lib.hid hb
          clear CPG rA rB rC rD hb q0 q1 q2 q3 HR
          go_wp2_with fail
          refine (CRS.out _ _ _ _ _ _ _ _ _ RA.out RB.out RC.out RD.out).mono ?_
          rintro e ws ⟨⟨sA, sc, he, hS⟩, hb⟩
          have he' : e = .returned (.tuple #[.slice sA R1.length sc, .int .i64 R2]) := he
          subst he'
          have RS : Hid (RdD ws sA R1.length R1) := hS
          have hW : Below wr.heap.size wr ws := HBC.out.trans (hb.mono HBC.out.size)
          have SQ : Hid (Bk ws b9 33 #[.slice (some ⟨gd, 0, none⟩) n cd, .slice (some ⟨gp, 0, none⟩) j cp, .slice lA ld.length lc, .slice pA lp.length pc]) := HQ.out.later hW
          have SD : Hid (DaB ws gd n FD) := HD.out.later hW
          have SG : Hid (DaB ws gp j (ovrF (dc pl) bp f0 j)) := HG.out.later hW
          have SL : Hid (RdI ws lA ld.length ld) := RL.out.below hW
          have SP : Hid (RdI ws pA lp.length lp) := RP.out.below hW
          have ST : Hid (RdI ws qA lq.length lq) := RQ.out.below hW
          have SE : Hid (Below gd w7 ws) := HE.out.trans (hW.mono (by have := HSZ.out; omega))
          clear he hS hb hW CRS RA RB RC RD HBC HQ HD HG HE RL RP RQ HSZ
          obtain ⟨q0, q1, q2, q3⟩ := bk4 SQ.out
          obtain ⟨x0, x1, x2, x3, x4⟩ := bk5 (KX.out ws SE.out)
          by_cases hlt : lq.length < ld.length
          · have hltI : (lq.length : Int) < (ld.length : Int) := by omega
            have hr0 : (R1, R2) = ([], (28 : Int)) := by have := HGood2.out; rw [if_pos hlt] at this; exact this
            obtain ⟨rfl, rfl⟩ : R1 = [] ∧ R2 = 28 := by injection hr0 with h1 h2; exact ⟨h1, h2⟩
            clear hr0
            go_wp2
            go_ret
            exact ⟨rfl, KB.out _ SE.out⟩
          · have hr0 : (R1, R2) = (ds, (0 : Int)) := by have := HGood2.out; rw [if_neg hlt] at this; exact this
            obtain ⟨rfl, rfl⟩ : ds = R1 ∧ 0 = R2 := by injection hr0 with h1 h2; exact ⟨h1.symm, h2.symm⟩
            have hltI : ¬ (lq.length : Int) < (ld.length : Int) := by omega
            have hlR : ds.length = n := (KA.out _ SE.out).1
            rw [hlR] at RS
            clear hr0 HGood2
            rw [hlR]
            go_wp2_with fail
            refine (sameData_any sA A n sc c ds ws RS.out (KA.out _ SE.out) hn).mono ?_
            rintro e w' ⟨rfl, jd, rfl⟩
            have hb : Below ws.heap.size ws (ws.drewN jd) := blw_drewN (Below.refl _ _) jd
            obtain ⟨wt, hwt⟩ : ∃ W, ws.drewN jd = W := ⟨_, rfl⟩
            rw [hwt] at hb ⊢
            have TQ : Hid (Bk wt b9 33 #[.slice (some ⟨gd, 0, none⟩) n cd, .slice (some ⟨gp, 0, none⟩) j cp, .slice lA ld.length lc, .slice pA lp.length pc]) := SQ.out.later hb
            have TD : Hid (DaB wt gd n FD) := SD.out.later hb
            have TG : Hid (DaB wt gp j (ovrF (dc pl) bp f0 j)) := SG.out.later hb
            have TL : Hid (RdI wt lA ld.length ld) := SL.out.below hb
            have TP : Hid (RdI wt pA lp.length lp) := SP.out.below hb
            have TT : Hid (RdI wt qA lq.length lq) := ST.out.below hb
            have TE : Hid (Below gd w7 wt) := SE.out.trans (hb.mono (by have := SD.out.lt; omega))
            clear hb hwt q0 q1 q2 q3 x0 x1 x2 x3 x4 SQ SD SG SL SP ST SE RS
            obtain ⟨q0, q1, q2, q3⟩ := bk4 TQ.out
            obtain ⟨x0, x1, x2, x3, x4⟩ := bk5 (KX.out wt TE.out)
            by_cases hqe : ld.length = lq.length
            · have hqI : ((ld.length : Int) == (lq.length : Int)) = true := by rw [hqe]; simp
              have hqJ : (ld.length : Int) = (lq.length : Int) := by rw [hqe]
              go_wp2
              go_ret
              exact ⟨rfl, KB.out _ TE.out⟩
            · have hqI : ((ld.length : Int) == (lq.length : Int)) = false := by rw [beq_eq_false_iff_ne]; omega
              have hqJ : ¬ (ld.length : Int) = (lq.length : Int) := by omega
              go_wp2_with fail
              refine (mod_any yx 65537 (by omega) (by omega) (by omega) (by omega) wt).mono ?_
              rintro e w' ⟨rfl, rfl⟩
              obtain ⟨dl, hdl⟩ : ∃ d, yx % 65537 = d := ⟨_, rfl⟩
              have hdb : 0 ≤ dl ∧ dl < 65537 := by omega
              have CMY : Hid (∀ W, Calls Tryd.prog 12 #[.int .i64 yx, .int .i64 65537] W fun e w' => e = .returned (.int .i64 dl) ∧ W = w') := fun W => by rw [← hdl]; exact mod_any yx 65537 (by omega) (by omega) (by omega) (by omega) W
              rw [hdl]
              clear hdl
              by_cases hd0 : dl = 0
              · subst hd0
                go_wp2
                go_ret
                exact ⟨rfl, KB.out _ TE.out⟩
              · have hdn : (dl == 0) = false := by simpa using hd0
                have hlp : 0 < lq.length := by omega
                obtain ⟨qa, rfl, hqlt, hqc⟩ := TT.out.2 hlp
                go_wp2_with fail
                refine (mod_any bx lq.length (by omega) (by omega) (by omega) (by have := HQl.out; omega) wt).mono ?_
                rintro e w' ⟨rfl, rfl⟩
                obtain ⟨tn, htn⟩ := Int.eq_ofNat_of_zero_le (Int.emod_nonneg bx (show (lq.length : Int) ≠ 0 by omega))
                have htl : tn < lq.length := by have := Int.emod_lt_of_pos bx (show (0 : Int) < lq.length by omega); omega
                rw [htn]
                clear htn
                have hmem : lq.getD tn 0 ∈ lq := getD_mem' lq tn htl
                obtain ⟨a, ha⟩ := Int.eq_ofNat_of_zero_le (HQn.out _ hmem)
                have hct := hqc tn htl
                rw [ha] at hmem hct
                have haj := HQm.out a hmem
                have HMEM := Lib.hid hmem
                clear ha hmem hqc hqlt
                go_wp2_with fail
                refine (mod_any ix 8 (by omega) (by omega) (by omega) (by omega) wt).mono ?_
                rintro e w' ⟨rfl, rfl⟩
                obtain ⟨kk, hkk⟩ := Int.eq_ofNat_of_zero_le (Int.emod_nonneg ix (show (8 : Int) ≠ 0 by omega))
                have hkl : kk < 8 := by omega
                rw [hkk]
                clear hkk hct
                obtain ⟨hgv, hg0, hg1⟩ := HGv.out a kk HMEM.out
                have hpc : wt.cell? ⟨gp, a * 8 + kk, none⟩ = some (.int .i64 _) := TG.out.cell haj hkl
                have hpf : wt.frozen? ⟨gp, a * 8 + kk, none⟩ = false := TG.out.frozen _
                obtain ⟨p, hp⟩ : ∃ p, (ovrF (dc pl) bp f0 j) a kk = p := ⟨_, rfl⟩
                rw [hp] at hgv hpc
                rw [← hgv] at hg0 hg1
                have HP := Lib.hid hp
                have hin : inB p 0 65536 = true := by unfold inB; simp; omega
                clear hp hgv HGv
                have TCG := Lib.hid (HChg.out a kk dl hkl ⟨by omega, hdb.2⟩ HMEM.out (by omega))
                rw [HP.out] at TCG
                obtain ⟨z, hz⟩ : ∃ z, (p + dl).tmod 65537 = z := ⟨_, rfl⟩
                rw [hz] at TCG
                clear HChg
                go_wp2_with fail
                refine (within_any p 0 65536 wt).mono ?_
                rintro e w' ⟨rfl, rfl⟩
                rw [hin]
                have v3 : IntKind.i64.wrap (p + dl) = p + dl := IntWalk.i64_in _ (by omega)
                clear q0 q1 q2 q3 x0 x1 x2 x3 x4
                obtain ⟨q0, q1, q2, q3⟩ := bk4 TQ.out
                obtain ⟨x0, x1, x2, x3, x4⟩ := bk5 (KX.out wt TE.out)
                have FG : Hid (DaB (wt.drew.setCell ⟨gp, a * 8 + kk, none⟩ (.int .i64 z)) gp j (fun r k => if r = a ∧ k = kk then z else (ovrF (dc pl) bp f0 j) r k)) := DaB.set1 (W := wt.drew) TG.out haj hkl z
                have FD1 : Hid (DaB (wt.drew.setCell ⟨gp, a * 8 + kk, none⟩ (.int .i64 z)) gd n FD) := DaB.far (W := wt.drew) TD.out _ (by simp; omega) _
                have FQ : Hid (Bk (wt.drew.setCell ⟨gp, a * 8 + kk, none⟩ (.int .i64 z)) b9 33 #[.slice (some ⟨gd, 0, none⟩) n cd, .slice (some ⟨gp, 0, none⟩) j cp, .slice lA ld.length lc, .slice pA lp.length pc]) := Bk.far (w := wt.drew) TQ.out _ (by simp; omega) _
                have FE : Hid (Below gd w7 (wt.drew.setCell ⟨gp, a * 8 + kk, none⟩ (.int .i64 z))) := TE.out.drew.setCell (by simp; omega) _
                have FL : Hid (RdI (wt.drew.setCell ⟨gp, a * 8 + kk, none⟩ (.int .i64 z)) lA ld.length ld) := RdI.far (w := wt.drew) TL.out _ _ (fun a h => by have := HLf.out a h; simp; omega)
                have FP : Hid (RdI (wt.drew.setCell ⟨gp, a * 8 + kk, none⟩ (.int .i64 z)) pA lp.length lp) := RdI.far (w := wt.drew) TP.out _ _ (fun a h => by have := HPf.out a h; simp; omega)
                clear TG TD TQ TE TL TP TT HQm HQn
                go_wp2_with fail
                go_still_tail 18, (by kernel_rfl)
                have hkI : (kk : Int) < 8 := by omega
                repeat still_step
                refine wpStill_step (fun K hK => ?_)
                go_simp
                refine ⟨_, (CMY.out _).mono (fun e w'' h => ⟨h.1, h.2.symm⟩), hK _ ?_⟩
                clear hK K
                repeat still_step
                refine wpStill_nil ?_
                change wpList _ _ _ _ _ wt.drew
                have hpc' : wt.drew.cell? ⟨gp, a * 8 + kk, none⟩ = some (.int .i64 p) := hpc
                have hpf' : wt.drew.frozen? ⟨gp, a * 8 + kk, none⟩ = false := hpf
                clear hpc hpf
                generalize wt.drew = w9 at *
                go_upto_region 35 with fail
                obtain ⟨wz, hwz⟩ : ∃ W, w9.setCell ⟨gp, a * 8 + kk, none⟩ (.int .i64 z) = W := ⟨_, rfl⟩
                rw [hwz] at FG FD1 FQ FE FL FP ⊢
                clear hpc' hpf' v3 hwz q0 q1 q2 q3 x0 x1 x2 x3 x4 hz hin
                obtain ⟨q0, q1, q2, q3⟩ := bk4 FQ.out
                have CR2 : Hid (Calls Tryd.prog 9 #[.agg #[.slice (some ⟨gd, 0, none⟩) n cd, .slice (some ⟨gp, 0, none⟩) j cp, .slice lA ld.length lc, .slice pA lp.length pc]] wz (RstRes wz ([], 13))) := by
                  show Calls _ _ _ _ _
                  rw [← TCG.out]
                  exact restored_any _ _ lA pA n j ld.length lp.length cd cp lc pc _ _ ld lp wz FD1.out.toRd FG.out.toRd FL.out FP.out (by omega) (by omega) (by have := HQl.out; omega) (by have := HQl.out; omega)
                clear TCG
                go_wp2_with fail
                refine CR2.out.mono ?_
                rintro e wy ⟨⟨sB, sd, he, _⟩, hb⟩
                have he' : e = .returned (.tuple #[.slice sB 0 sd, .int .i64 13]) := he
                subst he'
                have FE2 : Hid (Below gd w7 wy) := FE.out.trans (hb.mono (by have := FD1.out.lt; omega))
                clear he hb CR2 FG FD1 FQ FL FP FE q0 q1 q2 q3
                go_wp2
                go_ret
                exact ⟨rfl, KB.out _ FE2.out⟩
theorem tr_any (A : Option Addr) (n c : Nat) (ds : List (List Int)) (count dx px bx ix yx : Int) (w : World) (hL : Laid w) (hA : A = none → n = 0 ∧ c = 0) (hR : RdD w A n ds) (hbnd : (-9223372036854775808 ≤ dx ∧ dx ≤ 9223372036854775807) ∧ (-9223372036854775808 ≤ px ∧ px ≤ 9223372036854775807) ∧ (-9223372036854775808 ≤ bx ∧ bx ≤ 9223372036854775807) ∧ (-9223372036854775808 ≤ ix ∧ ix ≤ 9223372036854775807) ∧ (-9223372036854775808 ≤ yx ∧ yx ≤ 9223372036854775807)) :
    Calls Tryd.prog 3 #[.slice A n c, .int .i64 count, .agg #[.int .i64 dx, .int .i64 px, .int .i64 bx, .int .i64 ix, .int .i64 yx]] w fun e w' => e = .returned (.bool true) ∧ Below w.heap.size w w' := by
  by_cases hE : datE n ds count = 0
  · exact tr_main A n c ds count dx px bx ix yx w hL hA hR (by have := datE_parts hE; omega) hbnd hE
  · exact tr_err A n c ds count dx px bx ix yx w hL hA hR hE
end Go.Proofs.YtjjflbnopphciabDoor
