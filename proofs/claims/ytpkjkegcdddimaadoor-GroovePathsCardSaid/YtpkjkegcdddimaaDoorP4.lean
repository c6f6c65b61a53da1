import Derived.Test.YtpkjkegcdddimaaDoorP3
import Derived.Maps.AppendAt
namespace Go.Proofs.YtpkjkegcdddimaaDoor
open Go.RowKit

theorem add_add' (a : Addr) (m n : Nat) : (a.add m).add n = a.add (m + n) := by
  unfold Addr.add
  by_cases hm : m = 0
  · subst hm; simp
  · by_cases hn : n = 0
    · subst hn; simp
    · rw [if_neg hm, if_neg hn, if_neg (by omega)]
      simp [Nat.add_assoc]
def cutA (a : Option Addr) (lo c : Nat) : Option Addr := if c = lo then a else a.map (·.add (lo * 1))
theorem rowElem : Tryd.prog.elem 22 = 28 := by kernel_rfl
theorem rowsUnder' : Tryd.prog.underlying 22 = some (.slice (Tryd.prog.elem 22)) := by kernel_rfl
theorem sizeOfRow (W : World) : (sizeOf 28).run Tryd.prog W = .ok 1 W := by kernel_rfl
theorem cutRows_run (a : Option Addr) (n c lo m d : Nat) (l : Int) (hl : l = lo) (h1 : lo ≤ n) (hm : n - lo = m) (hd : c - lo = d) (W : World) :
    (Instr.slice 22 (.slice a n c) (some (.int .i64 l)) none none).run Tryd.prog W = .ok (.slice (cutA a lo c) m d) W := by
  have := run_slice_l (P := Tryd.prog) (w := W) 22 a n c rowsUnder' .i64 l (by omega) (by omega)
  rw [this, rowElem, sizeOfRow, ← hm, ← hd, hl]
  rfl

theorem ownBelow {w w' : World} {base : Nat} {e : TypeId} {size : Nat} {v : Value} {n : Nat} {xs : List Value} (h : w.ownsRow base e size v n xs) (hb : Below w.heap.size w w') : w'.ownsRow base e size v n xs := by
  refine ⟨h.1, ?_⟩
  rcases h.2 with h0 | ⟨g, cap, cur, h1, h2, h3, h4⟩
  · exact .inl h0
  · exact .inr ⟨g, cap, cur, h1, h2, (hb.block g (Array.getElem?_eq_some_iff.1 h3).1).trans h3, h4⟩

/-- The columns of the path along the rests. -/
def colAt (b : Int) (cols : Nat) (X : List (List Int)) (first : Nat) : Nat → Nat
  | 0 => first
  | k + 1 => (chp (X.getD (k + 1) []) b (colAt b cols X first k) cols).1.toNat
def pathL (b : Int) (cols : Nat) (X : List (List Int)) (first n : Nat) : List Int := (List.range n).map fun k => (colAt b cols X first k : Int)
theorem pathL_length (b : Int) (cols : Nat) (X : List (List Int)) (first n : Nat) : (pathL b cols X first n).length = n := by simp [pathL]
theorem pathL_succ (b : Int) (cols : Nat) (X : List (List Int)) (first n : Nat) : pathL b cols X first (n + 1) = pathL b cols X first n ++ [(colAt b cols X first n : Int)] := by simp [pathL, List.range_succ]
theorem pathL_at (b : Int) (cols : Nat) (X : List (List Int)) (first n k : Nat) (h : k < n) : (pathL b cols X first n).getD k 0 = colAt b cols X first k := by
  simp [pathL, List.getD_eq_getElem?_getD, h]
theorem colAt_step {b : Int} {cols : Nat} {X : List (List Int)} {first n : Nat} (hf : first < cols) (hb : 0 ≤ b ∧ b ≤ 1000) (hX : ∀ j, j < n → (X.getD j []).length = cols ∧ ∀ x ∈ X.getD j [], 0 ≤ x ∧ x ≤ 200000) :
    ∀ k, k < n → colAt b cols X first k < cols ∧ (k + 1 < n → (chp (X.getD (k + 1) []) b (colAt b cols X first k) cols).1 = colAt b cols X first (k + 1))
  | 0, h => by
    refine ⟨hf, fun h1 => ?_⟩
    have hx := hX 1 h1
    have hs := chp_spec (X.getD 1 []) b 200000 first cols hf hx.1 hb.1 (by omega) hx.2
    have := nbrs_near hf hs.1
    show (chp (X.getD 1 []) b first cols).1 = (((chp (X.getD 1 []) b first cols).1.toNat : Nat) : Int)
    omega
  | k + 1, h => by
    have ih := colAt_step (first := first) hf hb hX k (by omega)
    have hc : colAt b cols X first (k + 1) < cols := by
      have hx := hX (k + 1) h
      have hs := chp_spec (X.getD (k + 1) []) b 200000 _ cols ih.1 hx.1 hb.1 (by omega) hx.2
      have := nbrs_near ih.1 hs.1
      show (chp (X.getD (k + 1) []) b (colAt b cols X first k) cols).1.toNat < cols
      omega
    refine ⟨hc, fun h1 => ?_⟩
    have hx := hX (k + 2) h1
    have hs := chp_spec (X.getD (k + 2) []) b 200000 _ cols hc hx.1 hb.1 (by omega) hx.2
    have := nbrs_near hc hs.1
    show (chp (X.getD (k + 2) []) b (colAt b cols X first (k + 1)) cols).1 = (((chp (X.getD (k + 2) []) b (colAt b cols X first (k + 1)) cols).1.toNat : Nat) : Int)
    omega

set_option maxRecDepth 100000 in
set_option maxHeartbeats 4000000 in
theorem pathAlong_any (sv : Value) (A : Option Addr) (n cols first : Nat) (X : List (List Int)) (b : Int) (w : World) (hr : RdG w A n X) (hn : 0 < n ∧ n ≤ 40) (hcols : 0 < cols ∧ cols ≤ 12) (hf : first < cols) (hb : 0 ≤ b ∧ b ≤ 1000)
    (hX : ∀ j, j < n → (X.getD j []).length = cols ∧ ∀ x ∈ X.getD j [], 0 ≤ x ∧ x ≤ 200000) :
    Calls Tryd.prog 69 #[.agg #[sv, .int .i64 b, .int .i64 cols], .slice A n n, .int .i64 first] w (OwnS w (pathL b cols X first n)) := by
  have HG := Lib.hid hr
  have HX := Lib.hid hX
  have HST := Lib.hid (colAt_step hf hb hX)
  have hcut := cutRows_run A n n 1 (n - 1) (n - 1) 1 rfl (by omega) rfl rfl
  obtain ⟨A1, hA1⟩ : ∃ A1, cutA A 1 n = A1 := ⟨_, rfl⟩
  rw [hA1] at hcut
  have HA1 := Lib.hid hA1
  clear hr hX hA1
  obtain ⟨i0, hi0, hz0, hz1, hz2⟩ := info_parts intInfo'
  go_enter Tryd.func69, Tryd.ntmps69
  go_wp2
  go_loopw [7, 17] (fun p i wr => ∃ k : Nat, k ≤ n - 1 ∧ i = .int .i64 k ∧ Hid (wr.ownsRow (w.heap.size + 1) 3 1 p (k + 1) ((pathL b cols X first (k + 1)).map (Value.int .i64)) ∧ Bk wr w.heap.size 95 #[sv, .int .i64 b, .int .i64 cols] ∧ Below w.heap.size w wr)) (fun _ i _ => n - (intOf i).toNat)
  case atStart =>
    refine ⟨0, Nat.zero_le _, rfl, ?_, (Bk.new w _ _).alloc _, ((Below.refl _ w).alloc (Nat.le_refl _) _).alloc (by simp) _⟩
    have := own_of_bk (w := (w.alloc (.cells #[sv, .int .i64 b, .int .i64 cols] 95)).alloc (.cells #[.int .i64 first] 3)) (base := w.heap.size + 1) (g := w.heap.size + 1) (xs := [(first : Int)]) 1 (by
      have := Bk.new (w.alloc (.cells #[sv, .int .i64 b, .int .i64 cols] 95)) 3 #[.int .i64 (first : Int)]
      simpa [iArr] using this) rfl (Nat.le_refl _) (by omega)
    exact this
  case round =>
    obtain ⟨k, hk, rfl, HI⟩ := hrel
    by_cases hlt : k < n - 1
    · have hkI : (k : Int) < ((n - 1 : Nat) : Int) := by omega
      obtain ⟨g, cap, hp⟩ := ownsRow_succ HI.out.1
      subst hp
      obtain ⟨ad, hA, hadb, hca⟩ := HG.out.2 (by omega)
      subst hA
      have hA1' : A1 = some (ad.add 1) := by rw [← HA1.out]; unfold cutA; rw [if_neg (by omega)]; rfl
      obtain ⟨ad1, had1⟩ : ∃ a1, ad.add 1 = a1 := ⟨_, rfl⟩
      rw [had1] at hA1'
      subst hA1'
      have HAD1 := Lib.hid had1
      clear had1
      obtain ⟨Bj, m, cj, hck0, hrd, _⟩ := hca (k + 1) (by omega)
      clear hca
      have hXk := HX.out (k + 1) (by omega)
      obtain rfl : m = cols := by rw [← hrd.1]; exact hXk.1
      have hck : wr.cell? (ad1.add k) = some (.slice Bj m cj) := by
        rw [← HAD1.out, add_add', Nat.add_comm 1 k]
        exact (HI.out.2.2.cell (by rw [addBlock]; exact hadb)).trans hck0
      have hst := HST.out k (by omega)
      have hpc : wr.cell? ⟨g, k, none⟩ = some (.int .i64 (colAt b m X first k)) := by
        have := HI.out.1.cells (g := g) rfl k (.int .i64 (colAt b m X first k)) (by
          rw [List.getElem?_map]
          have : (pathL b m X first (k + 1))[k]? = some (colAt b m X first k : Int) := by simp [pathL]
          rw [this]; rfl)
        rw [addOff] at this
        exact this
      obtain ⟨q, hq⟩ : ∃ q, colAt b m X first k = q := ⟨_, rfl⟩
      have HQ := Lib.hid hq
      have hsucc := pathL_succ b m X first (k + 1)
      rw [← hst.2 (by omega), hq] at hsucc
      rw [hq] at hpc hst
      clear hq
      have hqm := hst.1
      have d0 : wr.cell? ⟨w.heap.size, 0, none⟩ = some sv := by rw [HI.out.2.1.cell]; rfl
      have d1 : wr.cell? ⟨w.heap.size, 1, none⟩ = some (.int .i64 b) := by rw [HI.out.2.1.cell]; rfl
      have d2 : wr.cell? ⟨w.heap.size, 2, none⟩ = some (.int .i64 m) := by rw [HI.out.2.1.cell]; rfl
      have HRDI : Hid (RdI wr Bj m (X.getD (k + 1) [])) := hrd.below HI.out.2.2
      have HC : Hid (∀ W', Below wr.heap.size wr W' → Calls Tryd.prog 77 #[.agg #[sv, .int .i64 b, .int .i64 m], .slice Bj m cj, .int .i64 q] W' fun e w' =>
          e = .returned (.tuple #[.int .i64 (chp (X.getD (k + 1) []) b q m).1, .int .i64 (chp (X.getD (k + 1) []) b q m).2]) ∧ Below W'.heap.size W' w') := fun W' hW' =>
        cheapest_any _ b m q _ cj (X.getD (k + 1) []) W' hqm (by omega) (HRDI.out.below hW') ⟨hb.1, by omega⟩ (fun x hx => by have := hXk.2 x hx; omega)
      obtain ⟨⟨y, a⟩, hya⟩ : ∃ p, chp (X.getD (k + 1) []) b q m = p := ⟨_, rfl⟩
      rw [hya] at HC hsucc
      dsimp only at HC hsucc
      have HSU := Lib.hid hsucc
      have HS0 : Hid ((fun w' : World => w'.cell? ⟨w.heap.size, 0, none⟩ = some sv ∧ w'.cell? ⟨w.heap.size, 1, none⟩ = some (.int .i64 b) ∧ w'.cell? ⟨w.heap.size, 2, none⟩ = some (.int .i64 m) ∧ w'.cell? ⟨g, k, none⟩ = some (.int .i64 q) ∧ Below wr.heap.size wr w') wr.drew) := ⟨d0, d1, d2, hpc, (Below.refl _ _).drew⟩
      have HSB : Hid (∀ (W W' : World), (fun w' : World => w'.cell? ⟨w.heap.size, 0, none⟩ = some sv ∧ w'.cell? ⟨w.heap.size, 1, none⟩ = some (.int .i64 b) ∧ w'.cell? ⟨w.heap.size, 2, none⟩ = some (.int .i64 m) ∧ w'.cell? ⟨g, k, none⟩ = some (.int .i64 q) ∧ Below wr.heap.size wr w') W → Below W.heap.size W W' → (fun w' : World => w'.cell? ⟨w.heap.size, 0, none⟩ = some sv ∧ w'.cell? ⟨w.heap.size, 1, none⟩ = some (.int .i64 b) ∧ w'.cell? ⟨w.heap.size, 2, none⟩ = some (.int .i64 m) ∧ w'.cell? ⟨g, k, none⟩ = some (.int .i64 q) ∧ Below wr.heap.size wr w') W') := by
        rintro W W' ⟨e1, e2, e3, e4, e5⟩ hb'
        have k1 := World.block_lt_of_cell? _ _ e1
        have k2 := World.block_lt_of_cell? _ _ e4
        exact ⟨(hb'.cell k1).trans e1, (hb'.cell (p := ⟨w.heap.size, 1, none⟩) k1).trans e2, (hb'.cell (p := ⟨w.heap.size, 2, none⟩) k1).trans e3, (hb'.cell k2).trans e4, e5.trans (hb'.mono e5.size)⟩
      have hz2 : IntKind.i64.wrap (((k + 1 : Nat) : Int) - 1) = (k : Int) := by rw [show ((k + 1 : Nat) : Int) - 1 = (k : Int) by omega]; exact IntWalk.i64_in _ (by omega)
      have hz3 : IntKind.i64.wrap ((k : Int) + 1 - 1) = (k : Int) := by rw [show (k : Int) + 1 - 1 = (k : Int) by omega]; exact IntWalk.i64_in _ (by omega)
      have hz4 : IntKind.i64.wrap (k : Int) = (k : Int) := IntWalk.i64_in _ (by omega)
      have hz5 : (k : Int) < (k : Int) + 1 := by omega
      clear hst hya hXk hrd hck0 hpc d0 d1 d2 hsucc HRDI
      go_wp2_with fail
      refine wp_region_held_drew (S := (fun w' : World => w'.cell? ⟨w.heap.size, 0, none⟩ = some sv ∧ w'.cell? ⟨w.heap.size, 1, none⟩ = some (.int .i64 b) ∧ w'.cell? ⟨w.heap.size, 2, none⟩ = some (.int .i64 m) ∧ w'.cell? ⟨g, k, none⟩ = some (.int .i64 q) ∧ Below wr.heap.size wr w')) (by kernel_rfl) ?_ ?_
      · first | (with_reducible assumption) | exact HSB.out _ _ hHeldOld hbc | exact HS0.out
      intro hHeld
      refine wpAnyH_take (i := 0) (v := ?_) rfl (by kernel_rfl) (by kernel_rfl) (by kernel_rfl) (fun _ _ _ h => h) (Or.inl ⟨by rfl, ?_⟩) (by assumption) ?_
      rotate_left
      · intro w hSw; (try dsimp only at hSw); go_simp; (try (with_reducible rfl))
      try simp only [List.getElem_toArray, List.getElem_cons_succ, List.getElem_cons_zero, Act.put, List.setIfInBounds_toArray, List.set_cons_zero, List.set_cons_succ]
      refine wpAnyH_take (i := 1) (v := ?_) rfl (by kernel_rfl) (by kernel_rfl) (by kernel_rfl) (fun _ _ _ h => h) (Or.inl ⟨by rfl, ?_⟩) (by assumption) ?_
      rotate_left
      · intro w hSw; (try dsimp only at hSw); go_simp; (try (with_reducible rfl))
      try simp only [List.getElem_toArray, List.getElem_cons_succ, List.getElem_cons_zero, Act.put, List.setIfInBounds_toArray, List.set_cons_zero, List.set_cons_succ]
      refine wpAnyH_take (i := 2) (v := ?_) rfl (by kernel_rfl) (by kernel_rfl) (by kernel_rfl) (fun _ _ _ h => h) (Or.inl ⟨by rfl, ?_⟩) (by assumption) ?_
      rotate_left
      · intro w hSw; (try dsimp only at hSw); go_simp; (try (with_reducible rfl))
      try simp only [List.getElem_toArray, List.getElem_cons_succ, List.getElem_cons_zero, Act.put, List.setIfInBounds_toArray, List.set_cons_zero, List.set_cons_succ]
      refine wpAnyH_take (i := 3) (v := ?_) rfl (by kernel_rfl) (by kernel_rfl) (by kernel_rfl) (fun _ _ _ h => h) (Or.inl ⟨by rfl, ?_⟩) (by assumption) ?_
      rotate_left
      · intro w hSw; (try dsimp only at hSw); go_simp; (try (with_reducible rfl))
      try simp only [List.getElem_toArray, List.getElem_cons_succ, List.getElem_cons_zero, Act.put, List.setIfInBounds_toArray, List.set_cons_zero, List.set_cons_succ]
      refine wpAnyH_take (i := 4) (v := ?_) rfl (by kernel_rfl) (by kernel_rfl) (by kernel_rfl) (fun _ _ _ h => h) (Or.inl ⟨by rfl, ?_⟩) (by assumption) ?_
      rotate_left
      · intro w hSw; (try dsimp only at hSw); go_simp; (try (with_reducible rfl))
      try simp only [List.getElem_toArray, List.getElem_cons_succ, List.getElem_cons_zero, Act.put, List.setIfInBounds_toArray, List.set_cons_zero, List.set_cons_succ]
      refine wpAnyH_take (i := 5) (v := ?_) rfl (by kernel_rfl) (by kernel_rfl) (by kernel_rfl) (fun _ _ _ h => h) (Or.inl ⟨by rfl, ?_⟩) (by assumption) ?_
      rotate_left
      · intro w hSw; (try dsimp only at hSw); go_simp; (try (with_reducible rfl))
      try simp only [List.getElem_toArray, List.getElem_cons_succ, List.getElem_cons_zero, Act.put, List.setIfInBounds_toArray, List.set_cons_zero, List.set_cons_succ]
      refine wpAnyH_take (i := 6) (v := ?_) rfl (by kernel_rfl) (by kernel_rfl) (by kernel_rfl) (fun _ _ _ h => h) (Or.inl ⟨by rfl, ?_⟩) (by assumption) ?_
      rotate_left
      · intro w hSw; (try dsimp only at hSw); go_simp; (try (with_reducible rfl))
      try simp only [List.getElem_toArray, List.getElem_cons_succ, List.getElem_cons_zero, Act.put, List.setIfInBounds_toArray, List.set_cons_zero, List.set_cons_succ]
      refine wpAnyH_take (i := 7) (v := ?_) rfl (by kernel_rfl) (by kernel_rfl) (by kernel_rfl) (fun _ _ _ h => h) (Or.inl ⟨by rfl, ?_⟩) (by assumption) ?_
      rotate_left
      · intro w hSw; (try dsimp only at hSw); go_simp; (try (with_reducible rfl))
      try simp only [List.getElem_toArray, List.getElem_cons_succ, List.getElem_cons_zero, Act.put, List.setIfInBounds_toArray, List.set_cons_zero, List.set_cons_succ]
      refine wpAnyH_ready (rs := [8]) (by kernel_rfl) (by simp) ?_
      refine AllReadyH.cons rfl (fun K hK => ?_) AllReadyH.nil
      go_simp
      have hHeldOld := hHeld; go_at_call 77; refine (HC.out _ hHeldOld.2.2.2.2).mono ?_; rintro e w' ⟨rfl, hbc⟩
      go_wp2_with fail
      refine hK.out _ _ ?_ (fun hHeld => ?_)
      · clear hK K; first | (with_reducible assumption) | exact HSB.out _ _ hHeldOld hbc | exact HS0.out
      clear hK K
      try simp only [List.getElem_toArray, List.getElem_cons_succ, List.getElem_cons_zero, Act.put, List.setIfInBounds_toArray, List.set_cons_zero, List.set_cons_succ]
      refine wpAnyH_take (i := 9) (v := ?_) rfl (by kernel_rfl) (by kernel_rfl) (by kernel_rfl) (fun _ _ _ h => h) (Or.inl ⟨by rfl, ?_⟩) (by assumption) ?_
      rotate_left
      · intro w hSw; (try dsimp only at hSw); go_simp; (try (with_reducible rfl))
      try simp only [List.getElem_toArray, List.getElem_cons_succ, List.getElem_cons_zero, Act.put, List.setIfInBounds_toArray, List.set_cons_zero, List.set_cons_succ]
      refine wpAnyH_take (i := 10) (v := ?_) rfl (by kernel_rfl) (by kernel_rfl) (by kernel_rfl) (fun _ _ _ h => h) (Or.inl ⟨by rfl, ?_⟩) (by assumption) ?_
      rotate_left
      · intro w hSw; (try dsimp only at hSw); go_simp; (try (with_reducible rfl))
      try simp only [List.getElem_toArray, List.getElem_cons_succ, List.getElem_cons_zero, Act.put, List.setIfInBounds_toArray, List.set_cons_zero, List.set_cons_succ]
      refine wpAnyH_take (i := 11) (v := ?_) rfl (by kernel_rfl) (by kernel_rfl) (by kernel_rfl) (fun _ _ _ h => h) (Or.inl ⟨by rfl, ?_⟩) (by assumption) ?_
      rotate_left
      · intro w hSw; (try dsimp only at hSw); go_simp; (try (with_reducible rfl))
      try simp only [List.getElem_toArray, List.getElem_cons_succ, List.getElem_cons_zero, Act.put, List.setIfInBounds_toArray, List.set_cons_zero, List.set_cons_succ]
      refine wpAnyH_take (i := 12) (v := ?_) rfl (by kernel_rfl) (by kernel_rfl) (by kernel_rfl) (fun _ _ _ h => h) (Or.inl ⟨by rfl, ?_⟩) (by assumption) ?_
      rotate_left
      · intro w hSw; (try dsimp only at hSw); go_simp; (try (with_reducible rfl))
      try simp only [List.getElem_toArray, List.getElem_cons_succ, List.getElem_cons_zero, Act.put, List.setIfInBounds_toArray, List.set_cons_zero, List.set_cons_succ]
      refine wpAnyH_take (i := 13) (v := ?_) rfl (by kernel_rfl) (by kernel_rfl) (by kernel_rfl) (fun _ _ _ h => h) (Or.inl ⟨by rfl, ?_⟩) (by assumption) ?_
      rotate_left
      · intro w hSw; (try dsimp only at hSw); go_simp; (try (with_reducible rfl))
      try simp only [List.getElem_toArray, List.getElem_cons_succ, List.getElem_cons_zero, Act.put, List.setIfInBounds_toArray, List.set_cons_zero, List.set_cons_succ]
      refine wpAnyH_done (by kernel_rfl) ?_ _
      have HBW := Lib.hid hHeld.2.2.2.2
      have HO : Hid (w'.ownsRow (w.heap.size + 1) 3 1 (.slice (some ⟨g, 0, none⟩) (k + 1) cap) (k + 1) ((pathL b m X first (k + 1)).map (Value.int .i64))) := ownBelow HI.out.1 HBW.out
      have HBX : Hid (Bk w' w.heap.size 95 #[sv, .int .i64 b, .int .i64 m]) := HI.out.2.1.later HBW.out
      have HBL : Hid (Below w.heap.size w w') := HI.out.2.2.trans (HBW.out.mono HI.out.2.2.size)
      clear hHeld HC HS0 HSB hz2 hz3 hz4 hz5 hck
      have hszw : w.heap.size + 1 ≤ w'.heap.size := HBX.out.lt
      go_wp2_with (at_builtin; refine wpList_append_own _ rfl (.tmp 33) (.tmp 35) 28 rfl (w.heap.size + 1) 3 i0 _ 1 8 Tryd.underlying28 hi0 hz0 hz1 hz2 rfl (by decide) _ _ _ rfl (HO.out.alloc _) ⟨w'.heap.size, 0, none⟩ 1 1 [.int .i64 y] rfl rfl (cell_one_new _ _ _) (by simp [Value.oneCell']) (by unfold maxLen; omega) (by omega) (by simp; omega) ?_)
      intro v' w1 hown' hgrow _
      have hlt' := (HO.out.lt _ rfl)
      have HF : Hid (w1.ownsRow (w.heap.size + 1) 3 1 v' (k + 1 + 1) ((pathL b m X first (k + 1 + 1)).map (Value.int .i64)) ∧ Bk w1 w.heap.size 95 #[sv, .int .i64 b, .int .i64 m] ∧ Below w.heap.size w w1) := by
        refine ⟨by rw [HSU.out, List.map_append]; exact hown', (HBX.out.alloc _).grown hgrow (by intro e; have h1 : w.heap.size + 1 ≤ g := hlt'.1; have e2 : w.heap.size = g := Option.some.inj e; omega), (HBL.out.alloc HBL.out.size _).grown hgrow (by have := HBL.out.size; simp; omega) (fun z e => by have h1 := (HO.out.lt z e).1; omega)⟩
      clear hown' hgrow hlt'
      go_wp2
      go_roundw
      case rel => exact ⟨k + 1, by omega, by go_num, HF.out⟩
      case measure => simp [intOf]; omega
    · obtain rfl : k = n - 1 := by omega
      have e1 : n - 1 + 1 = n := by omega
      have HE1 := Lib.hid e1
      clear e1
      go_wp2
      go_ret
      exact ⟨⟨_, rfl, by have h1 := ownMono HI.out.1 (Nat.le_succ w.heap.size); rw [HE1.out] at h1; rw [pathL_length]; exact h1⟩, HI.out.2.2⟩

end Go.Proofs.YtpkjkegcdddimaaDoor
