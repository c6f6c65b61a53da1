import Derived.Test.YtpkjkegcdddimaaDoorP4
import Derived.RangeFuncBox
namespace Go.Proofs.YtpkjkegcdddimaaDoor
open Go.RowKit

theorem lp1_best (first last : Int) (W : World) (p1 p2 : Addr) (h1 : W.cell? p1 = some (.func (.func 45) #[] #[])) (h2 : W.cell? p2 = some (.int .i64 first)) :
    Calls Tryd.prog 68 #[.int .i64 last, .pointer (some p1), .pointer (some p2)] W fun e w' => e = .returned (.bool true) ∧ W = w' := by
  have C : ∀ a b W, Calls Tryd.prog 45 #[.int .i64 a, .int .i64 b] W fun e w' => e = .returned (.bool true) ∧ W = w' := by
    intro a b W
    go_enter Tryd.func45, Tryd.ntmps45
    go_wp2
    go_ret
    exact ⟨rfl, rfl⟩
  have HC := Lib.hid C
  clear C
  go_enter Tryd.func68, Tryd.ntmps68
  go_wp2_with (go_at_call 45; refine (HC.out _ _ _).mono ?_; rintro e w' ⟨rfl, rfl⟩)
  go_ret
  exact ⟨rfl, rfl⟩
theorem lp1_turn (first last pitch : Int) (W : World) (p1 p2 p3 : Addr) (h1 : W.cell? p1 = some (.func (.func 47) #[] #[.pointer (some p3)])) (h2 : W.cell? p2 = some (.int .i64 first)) (h3 : W.cell? p3 = some (.int .i64 pitch))
    (hf : -1000000 ≤ first ∧ first ≤ 1000000) (hp : -1000000 ≤ pitch ∧ pitch ≤ 1000000) :
    Calls Tryd.prog 68 #[.int .i64 last, .pointer (some p1), .pointer (some p2)] W fun e w' => e = .returned (.bool (decide (last = first + pitch))) ∧ W = w' := by
  have hw : IntKind.i64.wrap (first + pitch) = first + pitch := IntWalk.i64_in _ (by omega)
  have C : ∀ a b W, W.cell? p3 = some (.int .i64 pitch) → IntKind.i64.wrap (a + pitch) = a + pitch → Calls Tryd.prog 47 #[.int .i64 a, .int .i64 b, .pointer (some p3)] W fun e w' => e = .returned (.bool (decide (b = a + pitch))) ∧ W = w' := by
    intro a b W h3 hw
    go_enter Tryd.func47, Tryd.ntmps47
    go_wp2
    go_ret
    refine ⟨?_, rfl⟩
    simp
    rw [Bool.eq_iff_iff]
    simp
  have HC := Lib.hid (C first last W h3 hw)
  clear C h3 hw
  go_enter Tryd.func68, Tryd.ntmps68
  go_wp2_with (go_at_call 47; refine HC.out.mono ?_; rintro e w' ⟨rfl, rfl⟩)
  go_ret
  exact ⟨rfl, rfl⟩

/-- The best path whose first column is less than k, and its cost. -/
def bestStep (mf : Nat → Nat → Bool) (b : Int) (cols : Nat) (rows : List (List Int)) (s : List Int × Int) (k : Nat) : List Int × Int :=
  if ((restsL (mf k) b cols rows).getD 0 []).getD k 0 < s.2 then (pathL b cols (restsL (mf k) b cols rows) k rows.length, ((restsL (mf k) b cols rows).getD 0 []).getD k 0) else s
def bestTo (mf : Nat → Nat → Bool) (b : Int) (cols : Nat) (rows : List (List Int)) : Nat → List Int × Int
  | 0 => ([], 50200)
  | k + 1 => bestStep mf b cols rows (bestTo mf b cols rows k) k
def LeastI (w : World) (A : Option Addr) (n c cols : Nat) (b : Int) (MF p : Value) (xs : List Int) (wr : World) : Prop :=
  wr.ownsRow (w.heap.size + 2) 3 1 p xs.length (xs.map (Value.int .i64)) ∧ Bk wr w.heap.size 95 #[.slice A n c, .int .i64 b, .int .i64 cols] ∧ Boxed wr (w.heap.size + 1) 99 MF ∧ Below w.heap.size w wr
theorem boxedLater {W W' : World} {B : Nat} {t : TypeId} {v : Value} (h : Boxed W B t v) (hb : Below W.heap.size W W') : Boxed W' B t v := (hb.block B h.lt).trans h
theorem LeastI.later {w : World} {A : Option Addr} {n c cols : Nat} {b : Int} {MF p : Value} {xs : List Int} {wr w' : World} (h : LeastI w A n c cols b MF p xs wr) (hb : Below wr.heap.size wr w') : LeastI w A n c cols b MF p xs w' :=
  ⟨ownBelow h.1 hb, h.2.1.later hb, boxedLater h.2.2.1 hb, h.2.2.2.trans (hb.mono h.2.2.2.size)⟩
theorem LeastI.swap {w : World} {A : Option Addr} {n c cols : Nat} {b : Int} {MF p p' : Value} {xs ys : List Int} {wr : World} (h : LeastI w A n c cols b MF p xs wr) {base : Nat} (ho : wr.ownsRow base 3 1 p' ys.length (ys.map (Value.int .i64))) (hb : w.heap.size + 2 ≤ base) : LeastI w A n c cols b MF p' ys wr :=
  ⟨ownMono ho hb, h.2⟩

set_option maxRecDepth 100000 in
set_option maxHeartbeats 4000000 in
theorem leastPath_any (A : Option Addr) (n c cols : Nat) (rows : List (List Int)) (b : Int) (gg : Nat) (cp : Array Value) (mf : Nat → Nat → Bool) (w : World) (hr : RdG w A n rows) (hn : 0 < n ∧ n ≤ 40) (hcols : 0 < cols ∧ cols ≤ 12)
    (hrow : ∀ r ∈ rows, r.length = cols ∧ ∀ x ∈ r, 0 ≤ x ∧ x ≤ 255) (hb : 0 ≤ b ∧ b ≤ 1000)
    (hlp : ∀ (first last : Nat) (W : World) (p1 p2 : Addr), first < cols → last < cols → Below w.heap.size w W → W.cell? p1 = some (.func (.func gg) #[] cp) → W.cell? p2 = some (.int .i64 first) →
      Calls Tryd.prog 68 #[.int .i64 last, .pointer (some p1), .pointer (some p2)] W fun e w' => e = .returned (.bool (mf first last)) ∧ W = w') :
    Calls Tryd.prog 44 #[.agg #[.slice A n c, .int .i64 b, .int .i64 cols], (.func (.func gg) #[] cp)] w (OwnRes w (bestTo mf b cols rows cols).2 (bestTo mf b cols rows cols).1) := by
  have HG := Lib.hid hr
  have HR := Lib.hid hrow
  have HLP := Lib.hid hlp
  have HLen : Hid (rows.length = n) := hr.1
  clear hr hrow hlp
  go_enter Tryd.func44, Tryd.ntmps44
  go_wp2
  go_loopw [6, 7, 13] (fun p ls i wr => ∃ k : Nat, k ≤ cols ∧ i = .int .i64 k ∧ ls = .int .i64 (bestTo mf b cols rows k).2 ∧ Hid (LeastI w A n c cols b (.func (.func gg) #[] cp) p (bestTo mf b cols rows k).1 wr)) (fun _ _ i _ => cols - (intOf i).toNat)
  case atStart =>
    refine ⟨0, Nat.zero_le _, rfl, rfl, World.ownsRow_nil _ _ _ _, (Bk.new w _ _).alloc _, ?_, ((Below.refl _ w).alloc (Nat.le_refl _) _).alloc (by simp) _⟩
    have := Boxed.new (w.alloc (.cells #[.slice A n c, .int .i64 b, .int .i64 cols] 95)) 99 (.func (.func gg) #[] cp)
    simpa using this
  case round =>
    obtain ⟨k, hk, rfl, rfl, HI⟩ := hrel
    obtain ⟨⟨xs, ls⟩, hbt⟩ : ∃ s, bestTo mf b cols rows k = s := ⟨_, rfl⟩
    rw [hbt] at HI
    dsimp only at HI
    have hstep : bestTo mf b cols rows (k + 1) = bestStep mf b cols rows (xs, ls) k := by rw [← hbt]; rfl
    simp only [hbt]
    have HBT := Lib.hid hbt
    clear hbt
    by_cases hlt : k < cols
    · have hkI : (k : Int) < (cols : Int) := by omega
      have d0 : (wr.alloc (.cells #[.int .i64 k] 3)).cell? ⟨w.heap.size, 0, none⟩ = some (.slice A n c) := cellA _ (by rw [HI.out.2.1.cell]; rfl)
      have d1 : (wr.alloc (.cells #[.int .i64 k] 3)).cell? ⟨w.heap.size, 1, none⟩ = some (.int .i64 b) := cellA _ (by rw [HI.out.2.1.cell]; rfl)
      have d2 : (wr.alloc (.cells #[.int .i64 k] 3)).cell? ⟨w.heap.size, 2, none⟩ = some (.int .i64 cols) := cellA _ (by rw [HI.out.2.1.cell]; rfl)
      have hM0 : (wr.alloc (.cells #[.int .i64 k] 3)).cell? ⟨w.heap.size + 1, 0, none⟩ = some (.func (.func gg) #[] cp) := cellA _ HI.out.2.2.1.cell
      have hK0 : (wr.alloc (.cells #[.int .i64 k] 3)).cell? ⟨wr.heap.size, 0, none⟩ = some (.int .i64 k) := by simp [go_sem]
      have HI1 := Lib.hid (HI.out.later (w' := wr.alloc (.cells #[.int .i64 k] 3)) ((Below.refl _ wr).alloc (Nat.le_refl _) _))
      have HSTEP := Lib.hid hstep
      clear hstep
      have HCR : Hid (Calls Tryd.prog 67 #[.agg #[.slice A n c, .int .i64 b, .int .i64 cols], .func (.func 68) #[] #[.pointer (some ⟨w.heap.size + 1, 0, none⟩), .pointer (some ⟨wr.heap.size, 0, none⟩)]] (wr.alloc (.cells #[.int .i64 k] 3)) (RestRes (wr.alloc (.cells #[.int .i64 k] 3)) n (restsL (mf k) b cols rows))) :=
        restsTo_any A n c cols rows b _ _ (mf k) _ (HG.out.below HI1.out.2.2.2) hn hcols HR.out hb (fun last W hl hbW =>
          HLP.out k last W _ _ hlt hl (HI1.out.2.2.2.trans (hbW.mono HI1.out.2.2.2.size)) ((hbW.cell (p := ⟨w.heap.size + 1, 0, none⟩) (World.block_lt_of_cell? _ _ hM0)).trans hM0) ((hbW.cell (p := ⟨wr.heap.size, 0, none⟩) (World.block_lt_of_cell? _ _ hK0)).trans hK0))
      have HK0 := Lib.hid hK0
      clear hM0 hK0
      go_wp2_with fail
      refine HCR.out.mono ?_
      rintro e w2 ⟨⟨A', rfl, hrd⟩, hb2⟩
      have HI2 := Lib.hid (HI1.out.later hb2)
      have hbx := (hb2.cell (p := ⟨wr.heap.size, 0, none⟩) (World.block_lt_of_cell? _ _ HK0.out)).trans HK0.out
      obtain ⟨ad2, rfl, _, hca⟩ := hrd.2 (by omega)
      obtain ⟨B2, m, c2, hk2, hrd0, _⟩ := hca 0 (by omega)
      clear hca
      rw [addZ] at hk2
      obtain rfl : m = cols := by rw [← hrd0.1]; exact restsL_rowlen (mf k) b _ rows (fun r h => (HR.out r h).1) 0 (by rw [HLen.out]; omega)
      obtain ⟨ad3, rfl, _, hcb⟩ := hrd0.2 (by omega)
      have hkc := hcb k hlt
      clear hcb
      obtain ⟨cost, hcost⟩ : ∃ x, ((restsL (mf k) b m rows).getD 0 []).getD k 0 = x := ⟨_, rfl⟩
      rw [hcost] at hkc
      have HST2 : Hid (bestTo mf b m rows (k + 1) = if cost < ls then (pathL b m (restsL (mf k) b m rows) k n, cost) else (xs, ls)) := by
        show _ = _
        rw [HSTEP.out]; unfold bestStep; rw [hcost, HLen.out]
      have HRD := Lib.hid hrd
      have HB2 := Lib.hid hb2
      clear hrd hrd0 hb2 hcost d0 d1 d2 HI1 HSTEP HCR HI HK0
      go_wp2_with fail
      refine wp_region_held_drew (S := (fun w' : World => w'.cell? ad2 = some (.slice (some ad3) m c2) ∧ w'.cell? ⟨wr.heap.size, 0, none⟩ = some (.int .i64 k) ∧ w'.cell? (ad3.add k) = some (.int .i64 cost))) (by kernel_rfl) ?_ ?_
      · exact ⟨hk2, hbx, hkc⟩
      intro hHeld
      refine wpAnyH_take (i := 0) (v := ?_) rfl (by kernel_rfl) (by kernel_rfl) (by kernel_rfl) (fun _ _ _ h => h) (Or.inl ⟨by rfl, ?_⟩) (by assumption) ?_
      rotate_left
      · intro w hSw; (try dsimp only at hSw); go_simp; (try (with_reducible rfl))
      try simp only [List.getElem_toArray, List.getElem_cons_succ, List.getElem_cons_zero, Act.put, List.setIfInBounds_toArray, List.set_cons_zero, List.set_cons_succ]
      refine wpAnyH_take (i := 1) (v := ?_) rfl (by kernel_rfl) (by kernel_rfl) (by kernel_rfl) (fun _ _ _ h => h) (Or.inl ⟨by rfl, ?_⟩) (by assumption) ?_
      rotate_left
      · intro w hSw; (try dsimp only at hSw); go_simp; (try (with_reducible rfl))
      try simp only [List.getElem_toArray, List.getElem_cons_succ, List.getElem_cons_zero, Act.put, List.setIfInBounds_toArray, List.set_cons_zero, List.set_cons_succ]
      refine wpAnyH_take (i := 2) (v := ?_) rfl (by kernel_rfl) (by kernel_rfl) (by kernel_rfl) (fun _ _ _ h => h) (Or.inl ⟨by rfl, ?_⟩) (by assumption) ?_
      rotate_left
      · intro w hSw; (try dsimp only at hSw); go_simp; (try (with_reducible rfl))
      try simp only [List.getElem_toArray, List.getElem_cons_succ, List.getElem_cons_zero, Act.put, List.setIfInBounds_toArray, List.set_cons_zero, List.set_cons_succ]
      refine wpAnyH_take (i := 3) (v := ?_) rfl (by kernel_rfl) (by kernel_rfl) (by kernel_rfl) (fun _ _ _ h => h) (Or.inl ⟨by rfl, ?_⟩) (by assumption) ?_
      rotate_left
      · intro w hSw; (try dsimp only at hSw); go_simp; (try (with_reducible rfl))
      try simp only [List.getElem_toArray, List.getElem_cons_succ, List.getElem_cons_zero, Act.put, List.setIfInBounds_toArray, List.set_cons_zero, List.set_cons_succ]
      refine wpAnyH_take (i := 4) (v := ?_) rfl (by kernel_rfl) (by kernel_rfl) (by kernel_rfl) (fun _ _ _ h => h) (Or.inl ⟨by rfl, ?_⟩) (by assumption) ?_
      rotate_left
      · intro w hSw; (try dsimp only at hSw); go_simp; (try (with_reducible rfl))
      try simp only [List.getElem_toArray, List.getElem_cons_succ, List.getElem_cons_zero, Act.put, List.setIfInBounds_toArray, List.set_cons_zero, List.set_cons_succ]
      refine wpAnyH_take (i := 5) (v := ?_) rfl (by kernel_rfl) (by kernel_rfl) (by kernel_rfl) (fun _ _ _ h => h) (Or.inl ⟨by rfl, ?_⟩) (by assumption) ?_
      rotate_left
      · intro w hSw; (try dsimp only at hSw); go_simp; (try (with_reducible rfl))
      try simp only [List.getElem_toArray, List.getElem_cons_succ, List.getElem_cons_zero, Act.put, List.setIfInBounds_toArray, List.set_cons_zero, List.set_cons_succ]
      refine wpAnyH_take (i := 6) (v := ?_) rfl (by kernel_rfl) (by kernel_rfl) (by kernel_rfl) (fun _ _ _ h => h) (Or.inl ⟨by rfl, ?_⟩) (by assumption) ?_
      rotate_left
      · intro w hSw; (try dsimp only at hSw); go_simp; (try (with_reducible rfl))
      try simp only [List.getElem_toArray, List.getElem_cons_succ, List.getElem_cons_zero, Act.put, List.setIfInBounds_toArray, List.set_cons_zero, List.set_cons_succ]
      refine wpAnyH_done (by kernel_rfl) ?_ _
      clear hHeld hk2 hkc
      by_cases hc : cost < ls
      · have d0 : w2.cell? ⟨w.heap.size, 0, none⟩ = some (.slice A n c) := by rw [HI2.out.2.1.cell]; rfl
        have d1 : w2.cell? ⟨w.heap.size, 1, none⟩ = some (.int .i64 b) := by rw [HI2.out.2.1.cell]; rfl
        have d2 : w2.cell? ⟨w.heap.size, 2, none⟩ = some (.int .i64 m) := by rw [HI2.out.2.1.cell]; rfl
        have HP : Hid (Calls Tryd.prog 69 #[.agg #[.slice A n c, .int .i64 b, .int .i64 m], .slice (some ad2) n n, .int .i64 k] w2.drew (OwnS w2.drew (pathL b m (restsL (mf k) b m rows) k n))) :=
          pathAlong_any _ (some ad2) n m k _ b w2.drew HRD.out hn hcols hlt hb (fun j hj => ⟨restsL_rowlen (mf k) b m rows (fun r h => (HR.out r h).1) j (by rw [HLen.out]; exact hj), fun x hx => by
            have hmem : (restsL (mf k) b m rows).getD j [] ∈ restsL (mf k) b m rows := by
              rw [List.getD_eq_getElem?_getD, List.getElem?_eq_getElem (by rw [restsL_length, HLen.out]; exact hj)]
              exact List.getElem_mem _
            have := restsL_bd (mf k) b m hb rows HR.out (by rw [HLen.out]; omega) _ hmem x hx
            have := HLen.out
            omega⟩)
        have HE : Hid (bestTo mf b m rows (k + 1) = (pathL b m (restsL (mf k) b m rows) k n, cost)) := by show _ = _; rw [HST2.out, if_pos hc]
        clear HST2
        have hz := HI2.out.2.2.1.lt
        go_wp2_with fail
        refine HP.out.mono ?_
        rintro e w3 ⟨⟨v, rfl, hown⟩, hb3⟩
        have HF : Hid (LeastI w A n c m b (.func (.func gg) #[] cp) v (pathL b m (restsL (mf k) b m rows) k n) w3) := ((HI2.out.later ((Below.refl _ w2).drew)).later hb3).swap hown (by show w.heap.size + 2 ≤ w2.heap.size; omega)
        clear d0 d1 d2 hown hb3 HP hbx
        go_wp2
        go_roundw
        case rel => exact ⟨k + 1, by omega, by go_num, by rw [HE.out], by rw [HE.out]; exact HF.out⟩
        case measure => simp [intOf]; omega
      · have HE : Hid (bestTo mf b m rows (k + 1) = (xs, ls)) := by show _ = _; rw [HST2.out, if_neg hc]
        clear HST2 hbx
        go_wp2
        go_roundw
        case rel => exact ⟨k + 1, by omega, by go_num, by rw [HE.out], by rw [HE.out]; exact HI2.out.later ((Below.refl _ w2).drew)⟩
        case measure => simp [intOf]; omega
    · obtain rfl : k = cols := by omega
      have d2 : wr.cell? ⟨w.heap.size, 2, none⟩ = some (.int .i64 k) := by rw [HI.out.2.1.cell]; rfl
      clear hstep
      go_wp2
      go_ret2
      rw [HBT.out]
      exact ⟨⟨_, rfl, ownMono HI.out.1 (by omega)⟩, HI.out.2.2.2⟩

end Go.Proofs.YtpkjkegcdddimaaDoor
