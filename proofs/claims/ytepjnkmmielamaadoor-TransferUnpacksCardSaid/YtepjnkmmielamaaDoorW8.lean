import Derived.Test.YtepjnkmmielamaaDoorW7
import Derived.Test.YtepjnkmmielamaaDoorGA
import Derived.Deep.RegionHeld3
import Derived.Laws.CopyOwn
namespace Go.Proofs.YtepjnkmmielamaaDoor
open Go.RowKit

/-- Block g is just the cells cs of type t. -/
def Bk (w : World) (g : Nat) (t : TypeId) (cs : Array Value) : Prop := w.heap[g]? = some (.cells cs t (0, 0))
theorem Bk.heap {w : World} {g : Nat} {t : TypeId} {cs : Array Value} (h : Bk w g t cs) : w.heap[g]? = some (.cells cs t (0, 0)) := h
theorem Bk.lt {w : World} {g : Nat} {t : TypeId} {cs : Array Value} (h : Bk w g t cs) : g < w.heap.size := by
  rcases Nat.lt_or_ge g w.heap.size with h1 | h1
  · exact h1
  · unfold Bk at h; rw [Array.getElem?_eq_none h1] at h; cases h
theorem Bk.cell {w : World} {g : Nat} {t : TypeId} {cs : Array Value} (h : Bk w g t cs) (i : Nat) : w.cell? ⟨g, i, none⟩ = cs[i]? := cell_of_row w g i cs t (0, 0) h
theorem Bk.frozen {w : World} {g : Nat} {t : TypeId} {cs : Array Value} (h : Bk w g t cs) (i : Nat) : w.frozen? ⟨g, i, none⟩ = false := frozen_of_row w g i cs t h
theorem Bk.below {w w' : World} {g B : Nat} {t : TypeId} {cs : Array Value} (h : Bk w g t cs) (hb : Below B w w') (hg : g < B) : Bk w' g t cs := (hb.block g hg).trans h
theorem Bk.new (w : World) (t : TypeId) (cs : Array Value) : Bk (w.alloc (.cells cs t)) w.heap.size t cs := heap_alloc_new w _
theorem Bk.alloc {w : World} {g : Nat} {t : TypeId} {cs : Array Value} (h : Bk w g t cs) (o : Obj) : Bk (w.alloc o) g t cs := (Below.heap_alloc w o g h.lt).trans h
theorem Bk.set_ {w : World} {g : Nat} {t : TypeId} {cs : Array Value} (h : Bk w g t cs) (i : Nat) (v : Value) : Bk (w.setCell ⟨g, i, none⟩ v) g t (cs.setIfInBounds i v) := heap_setCell_same w g i cs t v h
theorem Bk.far {w : World} {g : Nat} {t : TypeId} {cs : Array Value} (h : Bk w g t cs) (p : Addr) (hp : g ≠ p.block) (v : Value) : Bk (w.setCell p v) g t cs := (heap_setCell_other w p g v hp).trans h
theorem Bk.drewN {w : World} {g : Nat} {t : TypeId} {cs : Array Value} (h : Bk w g t cs) (n : Nat) : Bk (w.drewN n) g t cs := h
theorem Bk.drew {w : World} {g : Nat} {t : TypeId} {cs : Array Value} (h : Bk w g t cs) : Bk w.drew g t cs := h

/-- The package's table of predictors is laid. -/
structure Laid (w : World) : Prop where
  lt : 1 < w.heap.size
  c0 : ∀ p, p < 3 → w.cell? ⟨1, p * 2, none⟩ = some (.int .i64 (pred0 p))
  c1 : ∀ p, p < 3 → w.cell? ⟨1, p * 2 + 1, none⟩ = some (.int .i64 (pred1 p))
theorem Laid.below {w w' : World} {B : Nat} (h : Laid w) (hb : Below B w w') (hB : 1 < B) : Laid w' :=
  ⟨Nat.lt_of_lt_of_le h.lt hb.size, fun p hp => (hb.cell hB).trans (h.c0 p hp), fun p hp => (hb.cell hB).trans (h.c1 p hp)⟩
theorem Laid.later {w w' : World} (h : Laid w) (hb : Below w.heap.size w w') : Laid w' := h.below hb h.lt

theorem Laid.drew {w : World} (h : Laid w) : Laid w.drew := ⟨h.lt, h.c0, h.c1⟩
theorem Laid.drewN {w : World} (h : Laid w) (n : Nat) : Laid (w.drewN n) := ⟨h.lt, h.c0, h.c1⟩

theorem expected_any (arr : Array Value) (xs : List Int) (i p : Nat) (M : Int) (w : World) (hw : Laid w) (h : Is8 arr xs) (hb : Bnd xs M) (hM : 0 ≤ M) (hM2 : M ≤ 1000000000000) (hi : i < 8) (hp : p < 3) :
    Calls Tryd.prog 151 #[.agg arr, .int .i64 i, .int .i64 p] w fun e w' => e = .returned (.int .i64 (expd xs i p)) ∧ Below w.heap.size w w' :=
  expected_core arr xs i p _ _ M w h hb hM hM2 hi hp hw.lt (by unfold pred0; split <;> (try split) <;> omega) (by unfold pred1; split <;> (try split) <;> omega) (hw.c0 p hp) (hw.c1 p hp)

theorem Is8.lit {arr : Array Value} {xs : List Int} (h : Is8 arr xs) : arr = #[.int .i64 (xs.getD 0 0), .int .i64 (xs.getD 1 0), .int .i64 (xs.getD 2 0), .int .i64 (xs.getD 3 0), .int .i64 (xs.getD 4 0), .int .i64 (xs.getD 5 0), .int .i64 (xs.getD 6 0), .int .i64 (xs.getD 7 0)] := by
  apply Array.ext_getElem?
  intro j
  rcases Nat.lt_or_ge j 8 with hj | hj
  · rw [h.at_ j hj]
    match j, hj with
    | 0, _ => rfl
    | 1, _ => rfl
    | 2, _ => rfl
    | 3, _ => rfl
    | 4, _ => rfl
    | 5, _ => rfl
    | 6, _ => rfl
    | 7, _ => rfl
  · rw [Array.getElem?_eq_none (by rw [h.size]; exact hj), Array.getElem?_eq_none (by simpa using hj)]

theorem Is8.set_ {arr : Array Value} {xs : List Int} (h : Is8 arr xs) (k : Nat) (v : Int) : Is8 (arr.setIfInBounds k (.int .i64 v)) (xs.set k v) := by
  refine ⟨by simp [h.size], by simp [h.len], fun j hj => ?_⟩
  rw [Array.getElem?_setIfInBounds]
  by_cases hkj : k = j
  · subst hkj
    simp [h.size, hj, List.getD_eq_getElem?_getD, h.len]
  · rw [if_neg hkj, h.at_ j hj]
    simp [List.getD_eq_getElem?_getD, List.getElem?_set, hkj]
theorem Is8.one {arr : Array Value} {xs : List Int} (h : Is8 arr xs) : arr.all (·.oneCell') = true := by
  rw [h.lit]; simp [Value.oneCell']

abbrev zero8 : Array Value := #[.int .i64 0, .int .i64 0, .int .i64 0, .int .i64 0, .int .i64 0, .int .i64 0, .int .i64 0, .int .i64 0]
theorem Is8.zsize {arr : Array Value} {xs : List Int} (h : Is8 arr xs) : zero8.size = arr.size := by rw [h.size]; rfl
theorem zero8_is (xs : List Int) (p : Nat) : Is8 zero8 (upto (foldeds xs p) 0) := by
  refine ⟨rfl, by rw [upto_length, foldeds_length], fun j hj => ?_⟩
  rw [upto_at _ _ _ (by rw [foldeds_length]; exact hj), if_neg (by omega)]
  match j, hj with
  | 0, _ => rfl
  | 1, _ => rfl
  | 2, _ => rfl
  | 3, _ => rfl
  | 4, _ => rfl
  | 5, _ => rfl
  | 6, _ => rfl
  | 7, _ => rfl

set_option maxRecDepth 100000 in
theorem foldedOf_any (arr : Array Value) (xs : List Int) (p : Nat) (w : World) (hw : Laid w) (h : Is8 arr xs) (hb : Bnd xs 32767) (hp : p < 3) :
    Calls Tryd.prog 101 #[.agg arr, .int .i64 p] w fun e w' => ∃ us, e = .returned (.agg us) ∧ Is8 us (foldeds xs p) ∧ Below w.heap.size w w' := by
  have HW := Lib.hid hw; clear hw
  have H := Lib.hid h; clear h
  have HB := Lib.hid hb; clear hb
  go_enter Tryd.func101, Tryd.ntmps101
  go_wp2
  go_loopw [8] (fun i wr => ∃ (k : Nat) (cur : Array Value), k ≤ 8 ∧ i = .int .i64 k ∧ Hid (Bk wr w.heap.size 35 arr) ∧ Hid (Bk wr (w.heap.size + 1 + 1) 35 cur) ∧ Hid (Is8 cur (upto (foldeds xs p) k)) ∧ Hid (Below w.heap.size w wr) ∧ Hid (∃ z, Bk wr (w.heap.size + 1) 35 z ∧ z.size = 8) ∧ w.heap.size + 1 + 1 < wr.heap.size) (fun i _ => 8 - (intOf i).toNat)
  case atStart =>
    refine ⟨0, zero8, Nat.zero_le _, rfl, ((Bk.new _ _ _).alloc _).alloc _, ?_, ?_, ((((Below.refl _ _).alloc (Nat.le_refl _) _).alloc (by simp) _).alloc (by simp; omega) _), ⟨zero8, ?_, rfl⟩, by simp⟩
    · exact (by simpa using Bk.new ((w.alloc (.cells arr 35)).alloc (.cells zero8 35)) 35 zero8 : Bk (((w.alloc (.cells arr 35)).alloc (.cells zero8 35)).alloc (.cells zero8 35)) (w.heap.size + 1 + 1) 35 zero8)
    · exact zero8_is xs p
    · exact (by simpa using (Bk.new (w.alloc (.cells arr 35)) 35 zero8).alloc (.cells zero8 35) : Bk (((w.alloc (.cells arr 35)).alloc (.cells zero8 35)).alloc (.cells zero8 35)) (w.heap.size + 1) 35 zero8)
  case round =>
    obtain ⟨k, cur, hk, rfl, hx, hc, hcur, hbw, hz, hsz⟩ := hrel
    by_cases hlt : k < 8
    · obtain ⟨x, hxk⟩ : ∃ x, xs.getD k 0 = x := ⟨_, rfl⟩
      have hcell : wr.cell? ⟨w.heap.size, k, none⟩ = some (.int .i64 x) := by rw [hx.out.cell, H.out.at_ k hlt, hxk]
      have HXK := Lib.hid hxk
      clear hxk
      have hwr : Hid (Laid wr) := HW.out.later hbw.out
      obtain ⟨a0, a1, a2, a3, a4, a5, a6, a7, harr⟩ : ∃ a0 a1 a2 a3 a4 a5 a6 a7 : Int, arr = #[.int .i64 a0, .int .i64 a1, .int .i64 a2, .int .i64 a3, .int .i64 a4, .int .i64 a5, .int .i64 a6, .int .i64 a7] := ⟨_, _, _, _, _, _, _, _, H.out.lit⟩
      have c0 : wr.cell? ⟨w.heap.size, 0, none⟩ = some (.int .i64 a0) := by rw [hx.out.cell, harr]; rfl
      have c1 : wr.cell? ⟨w.heap.size, 1, none⟩ = some (.int .i64 a1) := by rw [hx.out.cell, harr]; rfl
      have c2 : wr.cell? ⟨w.heap.size, 2, none⟩ = some (.int .i64 a2) := by rw [hx.out.cell, harr]; rfl
      have c3 : wr.cell? ⟨w.heap.size, 3, none⟩ = some (.int .i64 a3) := by rw [hx.out.cell, harr]; rfl
      have c4 : wr.cell? ⟨w.heap.size, 4, none⟩ = some (.int .i64 a4) := by rw [hx.out.cell, harr]; rfl
      have c5 : wr.cell? ⟨w.heap.size, 5, none⟩ = some (.int .i64 a5) := by rw [hx.out.cell, harr]; rfl
      have c6 : wr.cell? ⟨w.heap.size, 6, none⟩ = some (.int .i64 a6) := by rw [hx.out.cell, harr]; rfl
      have c7 : wr.cell? ⟨w.heap.size, 7, none⟩ = some (.int .i64 a7) := by rw [hx.out.cell, harr]; rfl
      have H8 : Hid (Is8 #[.int .i64 a0, .int .i64 a1, .int .i64 a2, .int .i64 a3, .int .i64 a4, .int .i64 a5, .int .i64 a6, .int .i64 a7] xs) := by show Is8 _ _; rw [← harr]; exact H.out
      have hblk : w.heap.size < wr.heap.size := by omega
      clear harr
      obtain ⟨E, hE⟩ : ∃ E, expd xs k p = E := ⟨_, rfl⟩
      have hEb := expd_bd xs k p 32767 HB.out (by omega)
      rw [hE] at hEb
      have hxb := HB.out k
      rw [HXK.out] at hxb
      have C : Hid (∀ W, Laid W → Calls Tryd.prog 151 #[.agg #[.int .i64 a0, .int .i64 a1, .int .i64 a2, .int .i64 a3, .int .i64 a4, .int .i64 a5, .int .i64 a6, .int .i64 a7], .int .i64 k, .int .i64 p] W fun e w' => e = .returned (.int .i64 E) ∧ Below W.heap.size W w') :=
        fun W hW => by rw [← hE]; exact expected_any _ xs k p 32767 W hW H8.out HB.out (by omega) (by omega) hlt hp
      have HE := Lib.hid hE
      clear hE
      go_wp2_with fail
      go_region_held3 (fun w' => w'.cell? ⟨w.heap.size, k, none⟩ = some (.int .i64 x) ∧ w'.cell? ⟨w.heap.size, 0, none⟩ = some (.int .i64 a0) ∧ w'.cell? ⟨w.heap.size, 1, none⟩ = some (.int .i64 a1) ∧ w'.cell? ⟨w.heap.size, 2, none⟩ = some (.int .i64 a2) ∧ w'.cell? ⟨w.heap.size, 3, none⟩ = some (.int .i64 a3) ∧ w'.cell? ⟨w.heap.size, 4, none⟩ = some (.int .i64 a4) ∧ w'.cell? ⟨w.heap.size, 5, none⟩ = some (.int .i64 a5) ∧ w'.cell? ⟨w.heap.size, 6, none⟩ = some (.int .i64 a6) ∧ w'.cell? ⟨w.heap.size, 7, none⟩ = some (.int .i64 a7))
        (first | go_keep | (go_split_ands; refine ⟨?_, ?_, ?_, ?_, ?_, ?_, ?_, ?_, ?_⟩ <;> (rw [hb.cell (by simpa using hblk)]; assumption)))
        (first | (go_at_call 151; refine (C.out _ hwr.out.drew).mono ?_; rintro e w' ⟨rfl, hb⟩))
      have hwrap : IntKind.i64.wrap (x - E) = x - E := IntWalk.i64_in _ (by omega)
      rw [hwrap]
      clear hwrap
      have hf8 := foldeds_at xs p k hlt
      rw [HXK.out, HE.out] at hf8
      obtain ⟨r, hr⟩ : ∃ r, x - E = r := ⟨_, rfl⟩
      rw [hr] at hf8 ⊢
      have hrb : -200000 ≤ r ∧ r ≤ 200000 := by omega
      have HF8 := Lib.hid hf8
      clear hf8 hr hEb hxb c0 c1 c2 c3 c4 c5 c6 c7 hcell
      have hc' : Hid (Bk w' (w.heap.size + 1 + 1) 35 cur) := (hc.out.drew).below hb (by simpa using hsz)
      have hx' : Hid (Bk w' w.heap.size 35 arr) := (hx.out.drew).below hb (by simpa using hblk)
      obtain ⟨z, hz1, hz2⟩ := hz.out
      have hz' : Hid (∃ z, Bk w' (w.heap.size + 1) 35 z ∧ z.size = 8) := ⟨z, (hz1.drew).below hb (by simp; omega), hz2⟩
      have hb' : Hid (Below w.heap.size w w') := (hbw.out.drew).trans (hb.mono (by simp; omega))
      have hsz' : w.heap.size + 1 + 1 < w'.heap.size := Nat.lt_of_lt_of_le hsz (by simpa using hb.size)
      clear hb hz1 hz2 hz hx hc hbw
      have hold : w'.cell? ⟨w.heap.size + 1 + 1, k, none⟩ = some (.int .i64 ((upto (foldeds xs p) k).getD k 0)) := by rw [hc'.out.cell]; exact hcur.out.at_ k hlt
      have hfr : w'.frozen? ⟨w.heap.size + 1 + 1, k, none⟩ = false := hc'.out.frozen k
      obtain ⟨o, ho⟩ : ∃ o, (upto (foldeds xs p) k).getD k 0 = o := ⟨_, rfl⟩
      rw [ho] at hold
      clear ho
      have fin : ∀ v, v = fold1 r → (Bk (w'.setCell ⟨w.heap.size + 1 + 1, k, none⟩ (.int .i64 v)) (w.heap.size + 1 + 1) 35 (cur.setIfInBounds k (.int .i64 v)) ∧ Is8 (cur.setIfInBounds k (.int .i64 v)) (upto (foldeds xs p) (k + 1))) := by
        intro v hv
        refine ⟨hc'.out.set_ _ _, ?_⟩
        rw [upto_step _ _ (by rw [foldeds_length]; exact hlt), HF8.out, ← hv]
        exact hcur.out.set_ k v
      have FIN := Lib.hid fin
      clear fin
      by_cases hr0 : 0 ≤ r
      · have h1 : ¬ (2 * r < -2 * r - 1) := by omega
        go_wp2
        go_roundw
        case rel =>
          obtain ⟨f1, f2⟩ := FIN.out (2 * r) (by unfold fold1; rw [if_pos hr0])
          obtain ⟨z, hz1, hz2⟩ := hz'.out
          exact ⟨k + 1, _, by omega, by go_num, hx'.out.far _ (by simp; omega) _, f1, f2, hb'.out.setCell (by simp; omega) _, ⟨z, hz1.far _ (by simp) _, hz2⟩, by simpa [World.setCell] using hsz'⟩
        case measure => simp [intOf]; omega
      · have h1 : (2 * r < -2 * r - 1) := by omega
        go_wp2
        go_roundw
        case rel =>
          obtain ⟨f1, f2⟩ := FIN.out (-2 * r - 1) (by unfold fold1; rw [if_neg hr0])
          obtain ⟨z, hz1, hz2⟩ := hz'.out
          exact ⟨k + 1, _, by omega, by go_num, hx'.out.far _ (by simp; omega) _, f1, f2, hb'.out.setCell (by simp; omega) _, ⟨z, hz1.far _ (by simp) _, hz2⟩, by simpa [World.setCell] using hsz'⟩
        case measure => simp [intOf]; omega
    · obtain rfl : k = 8 := by omega
      obtain ⟨z, hz1, hz2⟩ := hz.out
      have HZ := Lib.hid hz1
      have HZ2 := Lib.hid hz2
      clear hz1 hz2 hz
      go_wp2_with (first
        | (with_reducible refine wpList_load_row rfl 35 (.tmp 5) rfl (w.heap.size + 1 + 1) rfl 35 cur (0, 0) _ hc.out.heap arrUnder rfl hcur.out.info ?_)
        | (with_reducible refine wpList_store_row rfl 35 (.tmp 4) (.tmp 28) rfl (w.heap.size + 1) cur rfl rfl 35 z HZ.out.heap hcur.out.info (by rw [HZ2.out, hcur.out.size]) hcur.out.one ?_))
      have hg : Bk (wr.setRow (w.heap.size + 1) cur) (w.heap.size + 1) 35 cur := setRow_heap _ _ _ _ _ _ HZ.out
      refine bodyPost_ret (v := .agg cur) ?_ rfl ⟨cur, rfl, ?_, below_setRow hbw.out (by omega) _⟩
      · exact results_cell_row (fn := Tryd.f101) rfl _ _ (w.heap.size + 1) 35 cur (0, 0) _ rfl hg arrUnder rfl hcur.out.info
      have e := hcur.out
      have e2 := upto_all (foldeds xs p)
      rw [foldeds_length] at e2
      rw [e2] at e
      exact e

end Go.Proofs.YtepjnkmmielamaaDoor
