import Derived.Maps.AppendAt
import Derived.Test.YtjjflbnopphciabDoorTgai
import Derived.Test.YtjjflbnopphciabDoorTgah
namespace Go.Proofs.YtjjflbnopphciabDoor
open Go.RowKit

/-- Block gR holds n slices, of rows of n + 1 numbers in blocks of their own: F's. -/
def MatB (W : World) (gR : Nat) (bs : Nat → Nat) (n : Nat) (F : Nat → Nat → Int) : Prop :=
  (∃ arr, Bk W gR 31 arr ∧ n ≤ arr.size ∧ ∀ r, r < n → arr[r]? = some (.slice (some ⟨bs r, 0, none⟩) (n + 1) (n + 1))) ∧
  (∀ r, r < n → ∃ arr, Bk W (bs r) 3 arr ∧ n + 1 ≤ arr.size ∧ ∀ k, k ≤ n → arr[k]? = some (.int .i64 (F r k))) ∧
  (∀ r, r < n → bs r ≠ gR) ∧ (∀ r s, r < n → s < n → bs r = bs s → r = s)
theorem MatB.slot {W : World} {gR : Nat} {bs : Nat → Nat} {n : Nat} {F : Nat → Nat → Int} (h : MatB W gR bs n F) {r : Nat} (hr : r < n) : W.cell? ⟨gR, r, none⟩ = some (.slice (some ⟨bs r, 0, none⟩) (n + 1) (n + 1)) := by
  obtain ⟨⟨a, hb, _, hc⟩, _⟩ := h; rw [hb.cell]; exact hc r hr
theorem MatB.slotf {W : World} {gR : Nat} {bs : Nat → Nat} {n : Nat} {F : Nat → Nat → Int} (h : MatB W gR bs n F) (i : Nat) : W.frozen? ⟨gR, i, none⟩ = false := by
  obtain ⟨⟨a, hb, _⟩, _⟩ := h; exact hb.frozen i
theorem MatB.cell {W : World} {gR : Nat} {bs : Nat → Nat} {n : Nat} {F : Nat → Nat → Int} (h : MatB W gR bs n F) {r k : Nat} (hr : r < n) (hk : k ≤ n) : W.cell? ⟨bs r, k, none⟩ = some (.int .i64 (F r k)) := by
  obtain ⟨a, hb, _, hc⟩ := h.2.1 r hr; rw [hb.cell]; exact hc k hk
theorem MatB.cellf {W : World} {gR : Nat} {bs : Nat → Nat} {n : Nat} {F : Nat → Nat → Int} (h : MatB W gR bs n F) {r : Nat} (hr : r < n) (i : Nat) : W.frozen? ⟨bs r, i, none⟩ = false := by
  obtain ⟨a, hb, _⟩ := h.2.1 r hr; exact hb.frozen i
theorem MatB.congr {W : World} {gR : Nat} {bs : Nat → Nat} {n : Nat} {F G : Nat → Nat → Int} (h : MatB W gR bs n F) (e : ∀ r k, r < n → k ≤ n → F r k = G r k) : MatB W gR bs n G :=
  ⟨h.1, fun r hr => by obtain ⟨a, h1, h2, h3⟩ := h.2.1 r hr; exact ⟨a, h1, h2, fun k hk => by rw [← e r k hr hk]; exact h3 k hk⟩, h.2.2⟩
theorem MatB.set1 {W : World} {gR : Nat} {bs : Nat → Nat} {n : Nat} {F : Nat → Nat → Int} (h : MatB W gR bs n F) {r k : Nat} (hr : r < n) (hk : k ≤ n) (v : Int) : MatB (W.setCell ⟨bs r, k, none⟩ (.int .i64 v)) gR bs n (fun r' k' => if r' = r ∧ k' = k then v else F r' k') := by
  refine ⟨?_, fun r' hr' => ?_, h.2.2⟩
  · obtain ⟨a, h1, h2⟩ := h.1
    exact ⟨a, h1.far _ (h.2.2.1 r hr).symm _, h2⟩
  · obtain ⟨a, h1, h2, h3⟩ := h.2.1 r' hr'
    by_cases e : r' = r
    · subst e
      refine ⟨a.setIfInBounds k (.int .i64 v), h1.set_ _ _, by simp [h2], fun k' hk' => ?_⟩
      dsimp only
      rw [Array.getElem?_setIfInBounds]
      by_cases e2 : k' = k
      · subst e2; rw [if_pos rfl, if_pos (by omega), if_pos ⟨rfl, rfl⟩]
      · rw [if_neg (by omega), if_neg (fun h => e2 h.2)]; exact h3 k' hk'
    · refine ⟨a, h1.far _ (fun e2 => e (h.2.2.2 r' r hr' hr e2)) _, h2, fun k' hk' => ?_⟩
      dsimp only
      rw [if_neg (fun h => e h.1)]; exact h3 k' hk'
theorem MatB.setR {W : World} {gR : Nat} {bs : Nat → Nat} {n : Nat} {F : Nat → Nat → Int} (h : MatB W gR bs n F) {r : Nat} (hr : r < n) : MatB (W.setCell ⟨gR, r, none⟩ (.slice (some ⟨bs r, 0, none⟩) (n + 1) (n + 1))) gR bs n F := by
  refine ⟨?_, fun r' hr' => ?_, h.2.2⟩
  · obtain ⟨a, h1, h2, h3⟩ := h.1
    refine ⟨a.setIfInBounds r (.slice (some ⟨bs r, 0, none⟩) (n + 1) (n + 1)), h1.set_ _ _, by simp [h2], fun r' hr' => ?_⟩
    rw [Array.getElem?_setIfInBounds]
    by_cases e : r' = r
    · subst e; rw [if_pos rfl, if_pos (by omega)]
    · rw [if_neg (by omega)]; exact h3 r' hr'
  · obtain ⟨a, h1, h2⟩ := h.2.1 r' hr'
    exact ⟨a, h1.far _ (h.2.2.1 r' hr') _, h2⟩
theorem MatB.below {W W' : World} {gR X : Nat} {bs : Nat → Nat} {n : Nat} {F : Nat → Nat → Int} (h : MatB W gR bs n F) (hb : Below X W W') (h1 : gR < X) (h2 : ∀ r, r < n → bs r < X) : MatB W' gR bs n F := by
  obtain ⟨⟨a, q1, q2⟩, q3, q4⟩ := h
  exact ⟨⟨a, q1.below hb h1, q2⟩, fun r hr => by obtain ⟨a, p1, p2⟩ := q3 r hr; exact ⟨a, p1.below hb (h2 r hr), p2⟩, q4⟩
theorem MatB.drew {W : World} {gR : Nat} {bs : Nat → Nat} {n : Nat} {F : Nat → Nat → Int} (h : MatB W gR bs n F) : MatB W.drew gR bs n F := h
theorem MatB.ltR {W : World} {gR : Nat} {bs : Nat → Nat} {n : Nat} {F : Nat → Nat → Int} (h : MatB W gR bs n F) : gR < W.heap.size := by obtain ⟨⟨a, q1, _⟩, _⟩ := h; exact q1.lt
theorem MatB.ltC {W : World} {gR : Nat} {bs : Nat → Nat} {n : Nat} {F : Nat → Nat → Int} (h : MatB W gR bs n F) {r : Nat} (hr : r < n) : bs r < W.heap.size := by obtain ⟨a, q1, _⟩ := h.2.1 r hr; exact q1.lt
theorem ownMono {w : World} {base base' : Nat} {e : TypeId} {size : Nat} {v : Value} {n : Nat} {xs : List Value} (h : w.ownsRow base e size v n xs) (hb : base' ≤ base) : w.ownsRow base' e size v n xs :=
  ⟨h.1, h.2.imp id fun ⟨g, cap, cur, h1, h2, h3⟩ => ⟨g, cap, cur, h1, Nat.le_trans hb h2, h3⟩⟩
/-- A column of a matrix. -/
def colL (G : Nat → Nat → Int) (c n : Nat) : List Int := (List.range n).map fun r => G r c
theorem colL_snoc (G : Nat → Nat → Int) (c n : Nat) : (colL G c (n + 1)).map (Value.int .i64) = (colL G c n).map (Value.int .i64) ++ [.int .i64 (G n c)] := by unfold colL; rw [List.range_succ, List.map_append, List.map_append]; rfl
/-- Row c while it is divided. -/
def sclF (c : Nat) (G : Nat → Nat → Int) (iv : Int) (k0 r k : Nat) : Int := if r = c ∧ k < k0 then G c k * iv % 65537 else G r k
theorem sclF_step (c : Nat) (G : Nat → Nat → Int) (iv : Int) (k0 r k : Nat) : (if r = c ∧ k = k0 then G c k0 * iv % 65537 else sclF c G iv k0 r k) = sclF c G iv (k0 + 1) r k := by
  unfold sclF
  by_cases e : r = c
  · by_cases e2 : k = k0
    · subst e2; rw [if_pos ⟨e, rfl⟩, if_pos ⟨e, by omega⟩]
    · rw [if_neg (fun h => e2 h.2)]
      by_cases e3 : k < k0
      · rw [if_pos ⟨e, e3⟩, if_pos ⟨e, by omega⟩]
      · rw [if_neg (fun h => e3 h.2), if_neg (by omega)]
  · rw [if_neg (fun h => e h.1), if_neg (fun h => e h.1), if_neg (fun h => e h.1)]
/-- The rows while row c is taken from them: those below i. -/
def tkF (c : Nat) (G : Nat → Nat → Int) (y : Nat → Int) (i r k : Nat) : Int := if r = c then y k else if r < i then (G r k - G r c * y k) % 65537 else G r k
/-- Row i while row c is taken from it. -/
def tkR (c : Nat) (G : Nat → Nat → Int) (y : Nat → Int) (i k0 r k : Nat) : Int := if r = i ∧ k < k0 then (G i k - G i c * y k) % 65537 else tkF c G y i r k
theorem tkR_step (c : Nat) (G : Nat → Nat → Int) (y : Nat → Int) (i k0 r k : Nat) : (if r = i ∧ k = k0 then (G i k0 - G i c * y k0) % 65537 else tkR c G y i k0 r k) = tkR c G y i (k0 + 1) r k := by
  unfold tkR
  by_cases e : r = i
  · by_cases e2 : k = k0
    · subst e2; rw [if_pos ⟨e, rfl⟩, if_pos ⟨e, by omega⟩]
    · rw [if_neg (fun h => e2 h.2)]
      by_cases e3 : k < k0
      · rw [if_pos ⟨e, e3⟩, if_pos ⟨e, by omega⟩]
      · rw [if_neg (fun h => e3 h.2), if_neg (by omega)]
  · rw [if_neg (fun h => e h.1), if_neg (fun h => e h.1), if_neg (fun h => e h.1)]
theorem tkR_zero (c : Nat) (G : Nat → Nat → Int) (y : Nat → Int) (i r k : Nat) : tkR c G y i 0 r k = tkF c G y i r k := if_neg (by omega)
theorem tkR_done (c : Nat) (G : Nat → Nat → Int) (y : Nat → Int) (i n r k : Nat) (hi : i ≠ c) (hk : k ≤ n) : tkR c G y i (n + 1) r k = tkF c G y (i + 1) r k := by
  unfold tkR tkF
  by_cases e : r = i
  · subst e
    rw [if_pos ⟨rfl, by omega⟩, if_neg hi, if_pos (by omega)]
  · rw [if_neg (fun h => e h.1)]
    by_cases e1 : r = c
    · rw [if_pos e1, if_pos e1]
    · rw [if_neg e1, if_neg e1]
      by_cases e2 : r < i
      · rw [if_pos e2, if_pos (by omega)]
      · rw [if_neg e2, if_neg (by omega)]
theorem tkF_own (c : Nat) (G : Nat → Nat → Int) (y : Nat → Int) (r k : Nat) : tkF c G y c r k = tkF c G y (c + 1) r k := by
  unfold tkF
  by_cases e1 : r = c
  · rw [if_pos e1, if_pos e1]
  · rw [if_neg e1, if_neg e1]
    by_cases e2 : r < c
    · rw [if_pos e2, if_pos (by omega)]
    · rw [if_neg e2, if_neg (by omega)]
theorem tkF_start (c : Nat) (G : Nat → Nat → Int) (iv : Int) (n r k : Nat) (hk : k ≤ n) : sclF c G iv (n + 1) r k = tkF c G (fun k => G c k * iv % 65537) 0 r k := by
  unfold sclF tkF
  by_cases e : r = c
  · rw [if_pos ⟨e, by omega⟩, if_pos e]
  · rw [if_neg (fun h => e h.1), if_neg e, if_neg (by omega)]
theorem tkF_end (c : Nat) (G : Nat → Nat → Int) (n r k : Nat) (hr : r < n) : tkF c G (fun k => G c k * invT (G c c) % 65537) n r k = stpF c G r k := by
  unfold tkF stpF
  by_cases e : r = c
  · rw [if_pos e, if_pos e]
  · rw [if_neg e, if_neg e, if_pos hr]
    rw [Int.mul_comm (G r c)]
    generalize G c k * invT (G c c) % 65537 * G r c = b
    omega
set_option maxRecDepth 100000 in
set_option maxHeartbeats 16000000 in
theorem refSolved_pos (gR : Nat) (bs : Nat → Nat) (n cR base : Nat) (F : Nat → Nat → Int) (w : World) (hM : MatB w gR bs n F) (hb : base ≤ gR ∧ ∀ r, r < n → base ≤ bs r) (hbd : ∀ r k, 0 ≤ F r k ∧ F r k ≤ 65536) (hp : ∀ c, c < n → slvF F c c c ≠ 0) (hn : n ≤ 4) (hbw : base ≤ w.heap.size) :
    Calls Tryd.prog 44 #[.slice (some ⟨gR, 0, none⟩) n cR] w fun e w' => (∃ v, e = .returned v ∧ w'.ownsRow w.heap.size 3 1 v n ((colL (slvF F n) n n).map (Value.int .i64))) ∧ Below base w w' := by
  obtain ⟨i0, hi, hz0, hz1, hz2⟩ := info_parts intInfo
  have HM := Lib.hid hM
  have HBS := Lib.hid hb
  have HBD : Hid (∀ c r k, 0 ≤ slvF F c r k ∧ slvF F c r k ≤ 65536) := fun c r k => slvF_bd F hbd c r k
  have HP := Lib.hid hp
  clear hM hb hbd hp
  go_enter Tryd.func44, Tryd.ntmps44
  go_upto_region 3 with fail
  go_loopw [4] (fun iv wr => ∃ c : Nat, c ≤ n ∧ iv = .int .i64 c ∧ Hid (MatB wr gR bs n (slvF F c)) ∧ Hid (Below base w wr)) (fun iv _ => n - (intOf iv).toNat)
  case atStart => exact ⟨0, Nat.zero_le _, rfl, HM.out, Below.refl _ _⟩
  case round =>
    clear HM
    obtain ⟨c, hc, rfl, HM, HB⟩ := hrel
    by_cases hlt : c < n
    · have hcI : (c : Int) < (n : Int) := by omega
      have HGN : Hid (slvF F (c + 1) = stpF c (slvF F c)) := rfl
      have HGb := Lib.hid (HBD.out c)
      have hg0 := HP.out c hlt
      obtain ⟨G, hG⟩ : ∃ G, slvF F c = G := ⟨_, rfl⟩
      rw [hG] at HM HGN HGb hg0
      clear hG
      obtain ⟨g, hg⟩ : ∃ g, G c c = g := ⟨_, rfl⟩
      have hgb := HGb.out c c
      rw [hg] at hg0 hgb
      have s1 := HM.out.slot hlt
      have v1 := HM.out.cell hlt (Nat.le_of_lt hlt)
      have f1 := HM.out.slotf c
      rw [hg] at v1
      have HGG := Lib.hid hg
      have hgz : (g == 0) = false := by simpa using hg0
      have hc1 : (c : Int) < (n : Int) + 1 := by omega
      obtain ⟨wA, hwA⟩ : ∃ X, X = wr := ⟨_, rfl⟩
      subst hwA
      clear hg
      go_upto_region 6 with fail
      go_loopw [5] (fun i W => i = .int .i64 c ∧ W = wA) (fun _ _ => 0)
      case atStart => exact ⟨rfl, rfl⟩
      case round =>
        obtain ⟨rfl, rfl⟩ := hrel
        go_upto_region 8 with fail
        have hne := HM.out.2.2.1 c hlt
        have hne2 : gR ≠ bs c := hne.symm
        have M1 : Hid (MatB (wr.setCell ⟨gR, c, none⟩ (.slice (some ⟨bs c, 0, none⟩) (n + 1) (n + 1))) gR bs n G) := HM.out.setR hlt
        have M2 : Hid (MatB ((wr.setCell ⟨gR, c, none⟩ (.slice (some ⟨bs c, 0, none⟩) (n + 1) (n + 1))).setCell ⟨gR, c, none⟩ (.slice (some ⟨bs c, 0, none⟩) (n + 1) (n + 1))).drew gR bs n G) := (M1.out.setR hlt).drew
        have B2 : Hid (Below base w ((wr.setCell ⟨gR, c, none⟩ (.slice (some ⟨bs c, 0, none⟩) (n + 1) (n + 1))).setCell ⟨gR, c, none⟩ (.slice (some ⟨bs c, 0, none⟩) (n + 1) (n + 1))).drew) := ((HB.out.setCell HBS.out.1 _).setCell HBS.out.1 _).drew
        go_upto_region 8 with fail
        refine wp_region_held_drew (S := (fun W : World => W.cell? ⟨gR, c, none⟩ = some (.slice (some ⟨bs c, 0, none⟩) (n + 1) (n + 1)))) (by kernel_rfl) (s1) ?_
        intro hHeld
        refine wpAnyH_take (i := 0) (v := ?_) rfl (by kernel_rfl) (by kernel_rfl) (by kernel_rfl) (fun _ _ _ h => h) (Or.inl ⟨by rfl, ?_⟩) (by assumption) ?_
        rotate_left
        · intro w hSw; (try dsimp only at hSw); go_simp; (try (with_reducible rfl))
        try simp only [List.getElem_toArray, List.getElem_cons_succ, List.getElem_cons_zero, Act.put, List.setIfInBounds_toArray, List.set_cons_zero, List.set_cons_succ]
        refine wpAnyH_take (i := 1) (v := ?_) rfl (by kernel_rfl) (by kernel_rfl) (by kernel_rfl) (fun _ _ _ h => h) (Or.inl ⟨by rfl, ?_⟩) (by assumption) ?_
        rotate_left
        · intro w hSw; (try dsimp only at hSw); go_simp; (try (with_reducible rfl))
        try simp only [List.getElem_toArray, List.getElem_cons_succ, List.getElem_cons_zero, Act.put, List.setIfInBounds_toArray, List.set_cons_zero, List.set_cons_succ]
        refine wpAnyH_take (i := 2) (v := ?_) rfl (by kernel_rfl) (by kernel_rfl) (by kernel_rfl) (fun _ _ _ h => h) (Or.inl ⟨by rfl, ?_⟩) (by assumption) ?_
        rotate_left
        · intro w hSw; (try dsimp only at hSw); go_simp; (try (with_reducible rfl))
        try simp only [List.getElem_toArray, List.getElem_cons_succ, List.getElem_cons_zero, Act.put, List.setIfInBounds_toArray, List.set_cons_zero, List.set_cons_succ]
        refine wpAnyH_take (i := 3) (v := ?_) rfl (by kernel_rfl) (by kernel_rfl) (by kernel_rfl) (fun _ _ _ h => h) (Or.inl ⟨by rfl, ?_⟩) (by assumption) ?_
        rotate_left
        · intro w hSw; (try dsimp only at hSw); go_simp; (try (with_reducible rfl))
        try simp only [List.getElem_toArray, List.getElem_cons_succ, List.getElem_cons_zero, Act.put, List.setIfInBounds_toArray, List.set_cons_zero, List.set_cons_succ]
        refine wpAnyH_take (i := 4) (v := ?_) rfl (by kernel_rfl) (by kernel_rfl) (by kernel_rfl) (fun _ _ _ h => h) (Or.inl ⟨by rfl, ?_⟩) (by assumption) ?_
        rotate_left
        · intro w hSw; (try dsimp only at hSw); go_simp; (try (with_reducible rfl))
        try simp only [List.getElem_toArray, List.getElem_cons_succ, List.getElem_cons_zero, Act.put, List.setIfInBounds_toArray, List.set_cons_zero, List.set_cons_succ]
        refine wpAnyH_take (i := 5) (v := ?_) rfl (by kernel_rfl) (by kernel_rfl) (by kernel_rfl) (fun _ _ _ h => h) (Or.inl ⟨by rfl, ?_⟩) (by assumption) ?_
        rotate_left
        · intro w hSw; (try dsimp only at hSw); go_simp; (try (with_reducible rfl))
        try simp only [List.getElem_toArray, List.getElem_cons_succ, List.getElem_cons_zero, Act.put, List.setIfInBounds_toArray, List.set_cons_zero, List.set_cons_succ]
        refine wpAnyH_take (i := 6) (v := ?_) rfl (by kernel_rfl) (by kernel_rfl) (by kernel_rfl) (fun _ _ _ h => h) (Or.inl ⟨by rfl, ?_⟩) (by assumption) ?_
        rotate_left
        · intro w hSw; (try dsimp only at hSw); go_simp; (try (with_reducible rfl))
        try simp only [List.getElem_toArray, List.getElem_cons_succ, List.getElem_cons_zero, Act.put, List.setIfInBounds_toArray, List.set_cons_zero, List.set_cons_succ]
        refine wpAnyH_take (i := 7) (v := ?_) rfl (by kernel_rfl) (by kernel_rfl) (by kernel_rfl) (fun _ _ _ h => h) (Or.inl ⟨by rfl, ?_⟩) (by assumption) ?_
        rotate_left
        · intro w hSw; (try dsimp only at hSw); go_simp; (try (with_reducible rfl))
        try simp only [List.getElem_toArray, List.getElem_cons_succ, List.getElem_cons_zero, Act.put, List.setIfInBounds_toArray, List.set_cons_zero, List.set_cons_succ]
        refine wpAnyH_take (i := 8) (v := ?_) rfl (by kernel_rfl) (by kernel_rfl) (by kernel_rfl) (fun _ _ _ h => h) (Or.inl ⟨by rfl, ?_⟩) (by assumption) ?_
        rotate_left
        · intro w hSw; (try dsimp only at hSw); go_simp; (try (with_reducible rfl))
        try simp only [List.getElem_toArray, List.getElem_cons_succ, List.getElem_cons_zero, Act.put, List.setIfInBounds_toArray, List.set_cons_zero, List.set_cons_succ]
        refine wpAnyH_take (i := 9) (v := ?_) rfl (by kernel_rfl) (by kernel_rfl) (by kernel_rfl) (fun _ _ _ h => h) (Or.inl ⟨by rfl, ?_⟩) (by assumption) ?_
        rotate_left
        · intro w hSw; (try dsimp only at hSw); go_simp; (try (with_reducible rfl))
        try simp only [List.getElem_toArray, List.getElem_cons_succ, List.getElem_cons_zero, Act.put, List.setIfInBounds_toArray, List.set_cons_zero, List.set_cons_succ]
        refine wpAnyH_take (i := 10) (v := ?_) rfl (by kernel_rfl) (by kernel_rfl) (by kernel_rfl) (fun _ _ _ h => h) (Or.inl ⟨by rfl, ?_⟩) (by assumption) ?_
        rotate_left
        · intro w hSw; (try dsimp only at hSw); go_simp; (try (with_reducible rfl))
        try simp only [List.getElem_toArray, List.getElem_cons_succ, List.getElem_cons_zero, Act.put, List.setIfInBounds_toArray, List.set_cons_zero, List.set_cons_succ]
        refine wpAnyH_take (i := 11) (v := ?_) rfl (by kernel_rfl) (by kernel_rfl) (by kernel_rfl) (fun _ _ _ h => h) (Or.inl ⟨by rfl, ?_⟩) (by assumption) ?_
        rotate_left
        · intro w hSw; (try dsimp only at hSw); go_simp; (try (with_reducible rfl))
        try simp only [List.getElem_toArray, List.getElem_cons_succ, List.getElem_cons_zero, Act.put, List.setIfInBounds_toArray, List.set_cons_zero, List.set_cons_succ]
        refine wpAnyH_take (i := 12) (v := ?_) rfl (by kernel_rfl) (by kernel_rfl) (by kernel_rfl) (fun _ _ _ h => h) (Or.inl ⟨by rfl, ?_⟩) (by assumption) ?_
        rotate_left
        · intro w hSw; (try dsimp only at hSw); go_simp; (try (with_reducible rfl))
        try simp only [List.getElem_toArray, List.getElem_cons_succ, List.getElem_cons_zero, Act.put, List.setIfInBounds_toArray, List.set_cons_zero, List.set_cons_succ]
        refine wpAnyH_ready (rs := [13]) (by kernel_rfl) (by simp) ?_
        refine AllReadyH.cons rfl (fun K hK => ?_) AllReadyH.nil
        go_simp
        refine hK.out _ _ (M1.out.slot hlt) (fun hHeld => ?_)
        clear hK K
        try simp only [List.getElem_toArray, List.getElem_cons_succ, List.getElem_cons_zero, Act.put, List.setIfInBounds_toArray, List.set_cons_zero, List.set_cons_succ]
        refine wpAnyH_take (i := 14) (v := ?_) rfl (by kernel_rfl) (by kernel_rfl) (by kernel_rfl) (fun _ _ _ h => h) (Or.inl ⟨by rfl, ?_⟩) (by assumption) ?_
        rotate_left
        · intro w hSw; (try dsimp only at hSw); go_simp; (try (with_reducible rfl))
        try simp only [List.getElem_toArray, List.getElem_cons_succ, List.getElem_cons_zero, Act.put, List.setIfInBounds_toArray, List.set_cons_zero, List.set_cons_succ]
        refine wpAnyH_ready (rs := [15]) (by kernel_rfl) (by simp) ?_
        refine AllReadyH.cons rfl (fun K hK => ?_) AllReadyH.nil
        go_simp
        refine hK.out _ _ (M2.out.slot hlt) (fun hHeld => ?_)
        clear hK K
        try simp only [List.getElem_toArray, List.getElem_cons_succ, List.getElem_cons_zero, Act.put, List.setIfInBounds_toArray, List.set_cons_zero, List.set_cons_succ]
        refine wpAnyH_done (by kernel_rfl) ?_ _
        clear s1 v1 f1
        obtain ⟨w2, hw2⟩ : ∃ W, ((wr.setCell ⟨gR, c, none⟩ (.slice (some ⟨bs c, 0, none⟩) (n + 1) (n + 1))).setCell ⟨gR, c, none⟩ (.slice (some ⟨bs c, 0, none⟩) (n + 1) (n + 1))).drew = W := ⟨_, rfl⟩
        rw [hw2] at M2 B2 ⊢
        clear hw2 M1 HM HB
        have s2 := M2.out.slot hlt
        have v2 := M2.out.cell hlt (Nat.le_of_lt hlt)
        rw [HGG.out] at v2
        go_wp2_with fail
        refine (refInverse_any g hgb.1 hgb.2 w2).mono ?_
        rintro e w' ⟨rfl, rfl⟩
        obtain ⟨iv, hiv⟩ : ∃ v, invT g = v := ⟨_, rfl⟩
        have hivb := invT_bd g
        rw [hiv] at hivb ⊢
        have HIV : Hid (invT (G c c) = iv) := by show _ = _; rw [HGG.out, hiv]
        clear hiv s2 v2
        go_upto_region 11 with fail
        go_loopw [7] (fun x W => ∃ k : Nat, k ≤ n + 1 ∧ x = .int .i64 k ∧ Hid (MatB W gR bs n (sclF c G iv k)) ∧ Hid (Below base w W)) (fun x _ => n + 1 - (intOf x).toNat)
        case atStart => exact ⟨0, Nat.zero_le _, rfl, M2.out.congr (fun r k _ _ => (if_neg (by omega)).symm), B2.out⟩
        case round =>
          clear M2 B2
          obtain ⟨k, hk, rfl, HM, HB⟩ := hrel
          by_cases hkn : k ≤ n
          · have hkI : (k : Int) ≤ (n : Int) := by omega
            have hkJ : (k : Int) < (n : Int) + 1 := by omega
            have s3 := HM.out.slot hlt
            have v3 := HM.out.cell hlt hkn
            have f3 := HM.out.cellf hlt k
            rw [show sclF c G iv k c k = G c k from if_neg (by omega)] at v3
            have hxb := HGb.out c k
            have HST := Lib.hid (sclF_step c G iv k)
            obtain ⟨x, hx⟩ : ∃ x, G c k = x := ⟨_, rfl⟩
            rw [hx] at v3 hxb HST
            have hmul := mul_bd2 x iv 65536 65536 (by omega) (by omega) (by omega) (by omega)
            have q1 : IntKind.i64.wrap (x * iv) = x * iv := IntWalk.i64_in _ (by omega)
            have q2 : (x * iv).tmod 65537 = x * iv % 65537 := Int.tmod_eq_emod_of_nonneg hmul.1
            obtain ⟨z, hz⟩ : ∃ z, x * iv % 65537 = z := ⟨_, rfl⟩
            rw [hz] at q2 HST
            have FM : Hid (MatB (wr.drew.setCell ⟨bs c, k, none⟩ (.int .i64 z)) gR bs n (sclF c G iv (k + 1))) := (HM.out.drew.set1 hlt hkn z).congr (fun r k' _ _ => HST.out r k')
            have FB : Hid (Below base w (wr.drew.setCell ⟨bs c, k, none⟩ (.int .i64 z))) := HB.out.drew.setCell (HBS.out.2 c hlt) _
            have s4 : wr.drew.cell? ⟨gR, c, none⟩ = some (.slice (some ⟨bs c, 0, none⟩) (n + 1) (n + 1)) := s3
            have v4 : wr.drew.cell? ⟨bs c, k, none⟩ = some (.int .i64 x) := v3
            have f4 : wr.drew.frozen? ⟨bs c, k, none⟩ = false := f3
            clear hx hmul hz
            go_upto_region 13 with fail
            go_still_tail 16, (by kernel_rfl)
            repeat still_step
            change wpList _ _ _ _ _ wr.drew
            clear s3 v3 f3 HM HB
            generalize wr.drew = w9 at *
            go_wp2
            go_roundw
            case rel => exact ⟨k + 1, by omega, by go_num, FM.out, FB.out⟩
            case measure => simp [intOf]; omega
          · obtain rfl : k = n + 1 := by omega
            have HM2 : Hid (MatB wr gR bs n (tkF c G (fun k => G c k * iv % 65537) 0)) := HM.out.congr (fun r k _ hk => tkF_start c G iv n r k hk)
            have HB2 := Lib.hid HB.out
            have hnI : ¬ (n : Int) + 1 ≤ (n : Int) := by omega
            have hnJ : ¬ ((n + 1 : Nat) : Int) ≤ (n : Int) := by omega
            obtain ⟨y, hy⟩ : ∃ y : Nat → Int, (fun k => G c k * iv % 65537) = y := ⟨_, rfl⟩
            have HY : Hid (∀ k, 0 ≤ y k ∧ y k ≤ 65536) := fun k => by rw [← hy]; exact emod_bd _
            have HYE : Hid ((fun k => G c k * invT (G c c) % 65537) = y) := by show _ = _; rw [HIV.out]; exact hy
            rw [hy] at HM2
            clear hy HM HB HIV
            obtain ⟨wB, hwB⟩ : ∃ X, X = wr := ⟨_, rfl⟩
            subst hwB
            go_upto_region 15 with fail
            go_loopw [8] (fun x W => ∃ i : Nat, i ≤ n ∧ x = .int .i64 i ∧ Hid (MatB W gR bs n (tkF c G y i)) ∧ Hid (Below base w W)) (fun x _ => n - (intOf x).toNat)
            case atStart => exact ⟨0, Nat.zero_le _, rfl, HM2.out, HB2.out⟩
            case round =>
              clear HM2 HB2
              obtain ⟨i, hi2, rfl, HM, HB⟩ := hrel
              by_cases hin : i < n
              · have hiI : (i : Int) < (n : Int) := by omega
                have s3 := HM.out.slot hin
                have v3 := HM.out.cell hin (Nat.le_of_lt hlt)
                obtain ⟨f, hf⟩ : ∃ f, tkF c G y i i c = f := ⟨_, rfl⟩
                rw [hf] at v3
                have HF := Lib.hid hf
                clear hf
                go_upto_region 19 with fail
                clear s3 v3
                by_cases hic : i = c
                · subst hic
                  obtain ⟨wC, hwC⟩ : ∃ X, X = wr := ⟨_, rfl⟩
                  subst hwC
                  go_loopw [10] (fun x W => x = .int .i64 0 ∧ W = wC) (fun _ _ => 0)
                  case atStart => exact ⟨rfl, rfl⟩
                  case round =>
                    obtain ⟨rfl, rfl⟩ := hrel
                    have h0n : (0 : Int) ≤ (n : Int) := by omega
                    go_wp2
                    go_roundw
                    case rel => exact ⟨i + 1, by omega, by go_num, HM.out.congr (fun r k _ _ => tkF_own i G y r k), HB.out⟩
                    case measure => simp [intOf]; omega
                · have HF2 : Hid (f = G i c) := by show f = _; rw [← HF.out]; unfold tkF; rw [if_neg hic, if_neg (by omega)]
                  have hicI : ((i : Int) != (c : Int)) = true := by simp; omega
                  have hicJ : ¬ (i : Int) = (c : Int) := by omega
                  obtain ⟨wC, hwC⟩ : ∃ X, X = wr := ⟨_, rfl⟩
                  subst hwC
                  go_loopw [10] (fun x W => ∃ k : Nat, k ≤ n + 1 ∧ x = .int .i64 k ∧ Hid (MatB W gR bs n (tkR c G y i k)) ∧ Hid (Below base w W)) (fun x _ => n + 1 - (intOf x).toNat)
                  case atStart => exact ⟨0, Nat.zero_le _, rfl, HM.out.congr (fun r k _ _ => (tkR_zero c G y i r k).symm), HB.out⟩
                  case round =>
                    clear HM HB
                    obtain ⟨k, hk, rfl, HM, HB⟩ := hrel
                    by_cases hkn : k ≤ n
                    · have hkI : (k : Int) ≤ (n : Int) := by omega
                      have hkJ : (k : Int) < (n : Int) + 1 := by omega
                      have s3 := HM.out.slot hin
                      have s5 := HM.out.slot hlt
                      have v3 := HM.out.cell hin hkn
                      have v5 := HM.out.cell hlt hkn
                      have f3 := HM.out.cellf hin k
                      rw [show tkR c G y i k i k = G i k by unfold tkR tkF; rw [if_neg (by omega), if_neg hic, if_neg (by omega)]] at v3
                      rw [show tkR c G y i k c k = y k by unfold tkR tkF; rw [if_neg (by omega), if_pos rfl]] at v5
                      have hfb := HGb.out i c
                      rw [← HF2.out] at hfb
                      have hxb := HGb.out i k
                      have hyb := HY.out k
                      have HST := Lib.hid (tkR_step c G y i k)
                      rw [← HF2.out] at HST
                      obtain ⟨x, hx⟩ : ∃ x, G i k = x := ⟨_, rfl⟩
                      obtain ⟨u, hu⟩ : ∃ u, y k = u := ⟨_, rfl⟩
                      rw [hx] at v3 hxb HST
                      rw [hu] at v5 hyb HST
                      have hmul := mul_bd2 f u 65536 65536 (by omega) (by omega) (by omega) (by omega)
                      have q1 : IntKind.i64.wrap (f * u) = f * u := IntWalk.i64_in _ (by omega)
                      have q2 : IntKind.i64.wrap (x - f * u) = x - f * u := IntWalk.i64_in _ (by omega)
                      have CM : Hid (∀ W, Calls Tryd.prog 12 #[.int .i64 (x - f * u), .int .i64 65537] W fun e w' => e = .returned (.int .i64 ((x - f * u) % 65537)) ∧ W = w') := fun W => mod_any _ 65537 (by omega) (by omega) (by omega) (by omega) W
                      obtain ⟨z, hz⟩ : ∃ z, (x - f * u) % 65537 = z := ⟨_, rfl⟩
                      rw [hz] at HST CM
                      have FM : Hid (MatB (wr.drew.setCell ⟨bs i, k, none⟩ (.int .i64 z)) gR bs n (tkR c G y i (k + 1))) := (HM.out.drew.set1 hin hkn z).congr (fun r k' _ _ => HST.out r k')
                      have FB : Hid (Below base w (wr.drew.setCell ⟨bs i, k, none⟩ (.int .i64 z))) := HB.out.drew.setCell (HBS.out.2 i hin) _
                      have s4 : wr.drew.cell? ⟨gR, i, none⟩ = some (.slice (some ⟨bs i, 0, none⟩) (n + 1) (n + 1)) := s3
                      have f4 : wr.drew.frozen? ⟨bs i, k, none⟩ = false := f3
                      have v4 : wr.drew.cell? ⟨bs i, k, none⟩ = some (.int .i64 x) := v3
                      clear hx hu hmul hz
                      go_upto_region 21 with fail
                      go_still_tail 24, (by kernel_rfl)
                      repeat still_step
                      refine wpStill_step (fun K hK => ?_)
                      go_simp
                      refine ⟨_, (CM.out _).mono (fun e w'' h => ⟨h.1, h.2.symm⟩), hK _ ?_⟩
                      clear hK K
                      repeat still_step
                      refine wpStill_nil ?_
                      change wpList _ _ _ _ _ wr.drew
                      clear s3 s5 v3 v5 f3 HM HB
                      generalize wr.drew = w9 at *
                      go_wp2
                      go_roundw
                      case rel => exact ⟨k + 1, by omega, by go_num, FM.out, FB.out⟩
                      case measure => simp [intOf]; omega
                    · obtain rfl : k = n + 1 := by omega
                      have FM : Hid (MatB wr gR bs n (tkF c G y (i + 1))) := HM.out.congr (fun r k _ hk => tkR_done c G y i n r k hic hk)
                      have hnI : ¬ (n : Int) + 1 ≤ (n : Int) := by omega
                      have hnJ : ¬ ((n + 1 : Nat) : Int) ≤ (n : Int) := by omega
                      go_wp2
                      go_roundw
                      case rel => exact ⟨i + 1, by omega, by go_num, FM.out, HB.out⟩
                      case measure => simp [intOf]; omega
              · obtain rfl : i = n := by omega
                have FM : Hid (MatB wr gR bs i (slvF F (c + 1))) := by
                  show MatB _ _ _ _ _
                  rw [HGN.out]
                  exact HM.out.congr (fun r k hr _ => by rw [← HYE.out]; exact tkF_end c G i r k hr)
                go_wp2
                go_roundw
                case rel => exact ⟨c + 1, by omega, by go_num, FM.out, HB.out⟩
                case measure => simp [intOf]; omega
    · obtain rfl : c = n := by omega
      have HF := Lib.hid HM.out
      have hsz : base ≤ wr.heap.size := Nat.le_trans hbw HB.out.size
      have hszw : w.heap.size ≤ wr.heap.size := HB.out.size
      have HBE := Lib.hid HB.out
      obtain ⟨G, hG⟩ : ∃ G, slvF F c = G := ⟨_, rfl⟩
      rw [hG] at HF
      have HLR : Hid (gR < wr.heap.size ∧ ∀ r, r < c → bs r < wr.heap.size) := ⟨HF.out.ltR, fun r hr => HF.out.ltC hr⟩
      have HGE : Hid (slvF F c = G) := hG
      clear hG HM HB HP HBD
      obtain ⟨wE, hwE⟩ : ∃ X, X = wr := ⟨_, rfl⟩
      subst hwE
      go_upto_region 24 with fail
      go_loopw [11, 12] (fun s iv wr => ∃ k : Nat, k ≤ c ∧ iv = .int .i64 k ∧ Hid (wr.ownsRow wE.heap.size 3 1 s k ((colL G c k).map (Value.int .i64))) ∧ Hid (Below wE.heap.size wE wr)) (fun _ iv _ => c - (intOf iv).toNat)
      case atStart => exact ⟨0, Nat.zero_le _, rfl, World.ownsRow_nil _ _ _ _, Below.refl _ _⟩
      case round =>
        obtain ⟨k, hk, rfl, HO, HB⟩ := hrel
        by_cases hlt : k < c
        · have hkI : (k : Int) < (c : Int) := by omega
          have HFR : Hid (MatB wr gR bs c G) := HF.out.below HB.out HLR.out.1 HLR.out.2
          have s3 := HFR.out.slot hlt
          have v3 := HFR.out.cell hlt (Nat.le_refl c)
          have hsz2 : wE.heap.size ≤ wr.heap.size := HB.out.size
          have HST := Lib.hid (colL_snoc G c k)
          obtain ⟨x, hx⟩ : ∃ x, G k c = x := ⟨_, rfl⟩
          rw [hx] at v3 HST
          clear hx HFR
          go_wp2_with (at_builtin; refine wpList_append_own _ rfl (.tmp 125) (.tmp 133) 31 rfl wE.heap.size 3 i0 (.int .i64 0) 1 8 intsUnder hi hz0 hz1 hz2 rfl (by decide) _ _ _ rfl (HO.out.alloc _) ⟨wr.heap.size, 0, none⟩ 1 1 [.int .i64 x] rfl rfl (litKept wr x) (by intro u hu; rw [List.mem_singleton.1 hu]; rfl) (by unfold maxLen; omega) (by omega) (by simp; omega) ?_)
          intro v' w1 hown' hgrow _
          have hb1 : Below wE.heap.size wE w1 := (HB.out.alloc hsz2 _).grown hgrow (by simp; omega) (fun z hz => (HO.out.lt z hz).1)
          have O1 : Hid (w1.ownsRow wE.heap.size 3 1 v' (k + 1) ((colL G c (k + 1)).map (Value.int .i64))) := by
            show w1.ownsRow _ _ _ _ _ _
            rw [HST.out]
            exact hown'
          have B1 := Lib.hid hb1
          clear hown' hgrow hb1 s3 v3
          go_wp2
          go_roundw
          case rel => exact ⟨k + 1, by omega, by go_num, O1.out, B1.out⟩
          case measure => simp [intOf]; omega
        · obtain rfl : k = c := by omega
          go_wp2
          go_ret
          exact ⟨⟨_, rfl, by rw [HGE.out]; exact ownMono HO.out hszw⟩, HBE.out.trans (HB.out.mono hsz)⟩
end Go.Proofs.YtjjflbnopphciabDoor

namespace Go.Proofs.YtjjflbnopphciabDoor
open Go.RowKit

theorem slvF_zcol (M : Nat → Nat → Int) (s : Nat) (h : ∀ r, M r s = 0) : ∀ c r, slvF M c r s = 0 := by
  intro c
  induction c with
  | zero => exact h
  | succ c ih =>
    intro r
    show stpF c (slvF M c) r s = 0
    unfold stpF
    rw [ih c, ih r]
    split
    · rw [Int.zero_mul]; rfl
    · rw [Int.zero_mul]
      have : (0 : Int) % 65537 * slvF M c r c % 65537 = 0 := by
        have e : (0 : Int) % 65537 = 0 := rfl
        rw [e, Int.zero_mul]; rfl
      rw [this]; rfl
theorem filter_len (xs : List Int) (a : Int) (count last : Int) (h : AscI count last xs) : xs.length ≤ (xs.filter fun x => decide (x ≠ a)).length + 1 := by
  induction xs generalizing last with
  | nil => simp
  | cons x t ih =>
    rw [List.filter_cons]
    by_cases e : x = a
    · have : decide (x ≠ a) = false := by simp [e]
      rw [if_neg (by rw [this]; decide)]
      -- no other one is a
      have hall : ∀ (ys : List Int) (z : Int), AscI count z ys → z ≥ a → ys.filter (fun x => decide (x ≠ a)) = ys := by
        intro ys
        induction ys with
        | nil => intro z _ _; rfl
        | cons y u ihu =>
          intro z hz hza
          have hy : y ≠ a := by have := hz.2.2.1; omega
          rw [List.filter_cons, if_pos (by simpa using hy), ihu y hz.2.2.2 (by have := hz.2.2.1; omega)]
      rw [hall t x h.2.2.2 (by omega)]
      simp
    · have : decide (x ≠ a) = true := by simp [e]
      rw [if_pos this, List.length_cons, List.length_cons]
      have := ih x h.2.2.2
      omega

set_option maxHeartbeats 1000000 in
/-- A changed number of a parity is noticed. -/
theorem exp_changed {n K : Nat} {ds ds' ps' : List (List Int)} {bl bp : Nat → Bool} (g : GrpIn n K ds ds' ps' bl bp) (a kk : Nat) (dl : Int) (hkk : kk < 8) (hd : 0 < dl ∧ dl < 65537)
    (ha : (a : Int) ∈ kepL (lostL bp K) K) (hp : ∀ j, j < K → bp j = false → j ≠ a → ps'.getD j [] = parP ds (j : Int) (List.range n)) (hpa : Cg (dc ps' a kk) (pk ds (a : Int) n kk + dl))
    (hq : (lostL bl n).length < (kepL (lostL bp K) K).length) : expB (resD ds' ps' (lostL bl n) (kepL (lostL bp K) K) (lostL bl n).length n) ps' n (kepL (lostL bp K) K) = false := by
  cases hex : expB (resD ds' ps' (lostL bl n) (kepL (lostL bp K) K) (lostL bl n).length n) ps' n (kepL (lostL bp K) K) with
  | false => rfl
  | true =>
    exfalso
    obtain ⟨ks, hks⟩ : ∃ ks, kepL (lostL bp K) K = ks := ⟨_, rfl⟩
    have hka : AscI K (-1) ks := by rw [← hks]; exact kepL_asc _ K K (Nat.le_refl _)
    have hkm : ∀ x ∈ ks, 0 ≤ x ∧ x < K ∧ bp x.toNat = false := fun x hx => by
      obtain ⟨h0, h1, h2⟩ := (kepL_mem (lostL bp K) K x).1 (by rw [hks]; exact hx)
      obtain ⟨j, hj⟩ := Int.eq_ofNat_of_zero_le h0
      subst hj
      rw [lostL_has bp K j (by omega)] at h2
      exact ⟨by omega, h1, by rw [Int.toNat_natCast]; exact h2⟩
    rw [hks] at hq ha hex
    obtain ⟨l, hl⟩ : ∃ l, (lostL bl n).length = l := ⟨_, rfl⟩
    obtain ⟨DD, hDD⟩ : ∃ D, resD ds' ps' (lostL bl n) ks (lostL bl n).length n = D := ⟨_, rfl⟩
    rw [hDD] at hex
    have hkl : ks.length ≤ K := by rw [← hks]; exact kepL_len _ _
    have hl4 : l ≤ 4 := by have := g.k4; omega
    unfold expB at hex
    rw [Bool.and_eq_true, List.all_eq_true] at hex
    obtain ⟨_, hall⟩ := hex
    have hpar : ∀ x ∈ ks, parP DD x (List.range n) = ps'.getD x.toNat [] := fun x hx => of_decide_eq_true (hall x hx)
    have hkept : ∀ i, i < n → bl i = false → dc DD i kk = dc ds i kk := fun i hi hb => by
      rw [← hDD]; unfold resD
      rw [listD_dc n _ i kk hi hkk]; exact res_kept g ks i kk hi hb
    obtain ⟨y, hy⟩ : ∃ y : Nat → Int, (fun r => dc DD ((lostL bl n).getD r 0).toNat kk - dc ds ((lostL bl n).getD r 0).toNat kk) = y := ⟨_, rfl⟩
    have hdiff : ∀ j : Int, Cg (pk DD j n kk - pk ds j n kk) (smF (fun r => invT (4 + (lostL bl n).getD r 0 - j) * y r) l) := fun j => by
      have := par_diff DD ds bl n kk hkk j (fun i hi hb => (hkept i hi hb).symm)
      rw [hl] at this
      rw [← hy]; exact this
    have hzero : ∀ x ∈ ks, x ≠ (a : Int) → Cg (smF (fun r => invT (4 + (lostL bl n).getD r 0 - x) * y r) l) 0 := fun x hx hne => by
      refine (hdiff x).symm.trans ?_
      obtain ⟨h0, h1, h2⟩ := hkm x hx
      have e : pk DD x n kk = pk ds x n kk := by
        unfold pk
        rw [hpar x hx, hp x.toNat (by omega) h2 (by omega), Int.toNat_of_nonneg h0]
      rw [e, Int.sub_self]; exact Cg.refl _
    have hdel : Cg (smF (fun r => invT (4 + (lostL bl n).getD r 0 - (a : Int)) * y r) l) dl := by
      refine (hdiff a).symm.trans ?_
      have e : pk DD (a : Int) n kk = dc ps' a kk := by
        unfold pk dc
        rw [hpar a ha, Int.toNat_natCast]
      rw [e]
      have := hpa.sub (Cg.refl (pk ds (a : Int) n kk))
      rwa [show pk ds (a : Int) n kk + dl - pk ds (a : Int) n kk = dl by omega] at this
    -- other parities than a are enough for all differences
    obtain ⟨os, hos⟩ : ∃ os, (ks.filter fun x => decide (x ≠ (a : Int))).take l = os := ⟨_, rfl⟩
    have hoa : AscI K (-1) os := by rw [← hos]; exact (hka.filter _).take l
    have hol : os.length = l := by
      rw [← hos, List.length_take]
      have := filter_len ks a K (-1) hka
      omega
    have hom : ∀ r, r < l → os.getD r 0 ∈ ks ∧ os.getD r 0 ≠ (a : Int) := fun r hr => by
      have h1 := getD_mem' os r (by omega)
      have h2 : os.getD r 0 ∈ (ks.filter fun x => decide (x ≠ (a : Int))).take l := by rw [hos]; exact h1
      have h3 := List.mem_filter.1 (List.mem_of_mem_take h2)
      exact ⟨h3.1, of_decide_eq_true h3.2⟩
    have hys : ∀ r, r < l → Cg (y r) 0 := fun r hr => by
      have hW := wt_solved ((lostL bl n).map Int.toNat) (os.map Int.toNat) l (((lostL_asc bl n n (Nat.le_refl _)).mono (by have := g.n12; omega : (n : Int) ≤ (12 : Nat))).nat 0 (by omega)) ((hoa.mono (by have := g.k4; omega : (K : Int) ≤ (4 : Nat))).nat 0 (by omega)) (by simp [hl]) (by simp [hol]) hl4
        (fun r k => if k < l then invT (4 + (lostL bl n).getD k 0 - os.getD r 0) else 0) (fun r k hr hk => by
          (try dsimp only)
          unfold wtF
          rw [if_pos hk, map_toNat_getD _ _ (lostL_asc bl n n (Nat.le_refl _)).nonneg, map_toNat_getD _ _ hoa.nonneg])
        y l (fun r hr => by
          (try dsimp only)
          rw [if_neg (show ¬ l < l by omega)]
          have e : smF (fun k => (if k < l then invT (4 + (lostL bl n).getD k 0 - os.getD r 0) else 0) * y k) l = smF (fun k => invT (4 + (lostL bl n).getD k 0 - os.getD r 0) * y k) l := smF_congr fun k hk => by rw [if_pos hk]
          rw [e]
          exact hzero _ (hom r hr).1 (hom r hr).2) r hr
      rw [slvF_zcol _ l (fun r => if_neg (by omega))] at hW
      exact hW
    have hz : Cg (smF (fun r => invT (4 + (lostL bl n).getD r 0 - (a : Int)) * y r) l) (smF (fun _ => 0) l) := smF_cg fun k hk => by
      have := (Cg.refl (invT (4 + (lostL bl n).getD k 0 - (a : Int)))).mul (hys k hk)
      rwa [Int.mul_zero] at this
    have hs0 : ∀ m, smF (fun _ => 0) m = 0 := fun m => by
      induction m with
      | zero => rfl
      | succ m ih => show smF _ m + 0 = 0; rw [ih]; rfl
    rw [hs0] at hz
    have := hdel.symm.trans hz
    unfold Cg at this
    omega
theorem rst_changed {n K : Nat} {ds ds' ps' : List (List Int)} {bl bp : Nat → Bool} (g : GrpIn n K ds ds' ps' bl bp) (a kk : Nat) (dl : Int) (hkk : kk < 8) (hd : 0 < dl ∧ dl < 65537)
    (ha : (a : Int) ∈ kepL (lostL bp K) K) (hp : ∀ j, j < K → bp j = false → j ≠ a → ps'.getD j [] = parP ds (j : Int) (List.range n)) (hra : rangesE (ps'.getD a []) 0 65536 = 0) (hpa : Cg (dc ps' a kk) (pk ds (a : Int) n kk + dl))
    (hq : (lostL bl n).length < (kepL (lostL bp K) K).length) : rstR n K (lostL bl n).length ds' ps' (lostL bl n) (lostL bp K) = ([], 13) := by
  have hz := grp_zero g (fun j hj hb => by
    by_cases e : j = a
    · rw [e]; exact hra
    · rw [hp j hj hb e]; exact parP_rng _ _ _)
  unfold rstR
  rw [if_pos hz, if_neg (by omega), exp_changed g a kk dl hkk hd ha hp hpa hq]
  rfl
end Go.Proofs.YtjjflbnopphciabDoor

namespace Go.Proofs.YtjjflbnopphciabDoor
open Go.RowKit

set_option maxRecDepth 100000 in
set_option maxHeartbeats 4000000 in
theorem refSolved_zero (w : World) : Calls Tryd.prog 44 #[.slice none 0 0] w fun e w' => e = .returned (.slice none 0 0) ∧ Below w.heap.size w w' := by
  go_enter Tryd.func44, Tryd.ntmps44
  go_upto_region 3 with fail
  go_loopw [4] (fun iv wr => iv = .int .i64 0 ∧ wr = w) (fun _ _ => 0)
  case atStart => exact ⟨rfl, rfl⟩
  case round =>
    obtain ⟨rfl, rfl⟩ := hrel
    go_upto_region 24 with fail
    go_loopw [11, 12] (fun sv iv wr' => sv = .slice none 0 0 ∧ iv = .int .i64 0 ∧ wr' = wr) (fun _ _ _ => 0)
    case atStart => exact ⟨rfl, rfl, rfl⟩
    case round =>
      obtain ⟨rfl, rfl, rfl⟩ := hrel
      go_wp2
      go_ret
      exact ⟨rfl, Below.refl _ _⟩
theorem AscI_of {count last : Int} {xs : List Int} (h : lostE count last xs = 0) : AscI count last xs := by
  induction xs generalizing last with
  | nil => trivial
  | cons y t ih =>
    unfold lostE at h
    by_cases e : ascE count last y = 0
    · rw [if_pos e] at h
      unfold ascE at e
      by_cases e1 : (decide (y < 0) || decide (count ≤ y)) = true
      · rw [if_pos e1] at e; omega
      · rw [if_neg e1] at e
        have e2 := Bool.or_eq_false_iff.1 (by simpa using e1 : (decide (y < 0) || decide (count ≤ y)) = false)
        simp only [decide_eq_false_iff_not] at e2
        have e3 : ¬ y ≤ last := fun h3 => by rw [if_pos h3] at e; omega
        exact ⟨by omega, by omega, by omega, ih h⟩
    · rw [if_neg e] at h; exact absurd h e
/-- What stands behind the sums of one equation, of the data before i. -/
def conE (ld : List Int) (ds : List (List Int)) (p j : Int) (s : Nat) : Nat → Int
  | 0 => p
  | i + 1 => if hasB ld i then conE ld ds p j s i else (conE ld ds p j s i - invT (4 + (i : Int) - j) * (dc ds i s + 32768)) % 65537
theorem conE_bd (ld : List Int) (ds : List (List Int)) (p j : Int) (s : Nat) (hp : 0 ≤ p ∧ p ≤ 65536) : ∀ i, 0 ≤ conE ld ds p j s i ∧ conE ld ds p j s i ≤ 65536 := by
  intro i
  induction i with
  | zero => exact hp
  | succ i ih =>
    unfold conE
    split
    · exact ih
    · exact emod_bd _
theorem conE_eq (ld : List Int) (ds : List (List Int)) (p j : Int) (s n : Nat) (hp : 0 ≤ p ∧ p ≤ 65536) (hs : s < 8) : ∀ i, i ≤ n → conE ld ds p j s i = (p - pk (listD n (clrD ds ld ld.length n)) j i s) % 65537 := by
  intro i
  induction i with
  | zero => intro _; rw [pk_zero]; show p = _; omega
  | succ i ih =>
    intro hi
    have h1 := ih (by omega)
    rw [pk_succ _ _ _ _ hs, listD_dc n _ i s (by omega) hs]
    unfold conE clrD
    rw [updF_const _ _ _ _ _ _ (Nat.le_refl _), List.take_length]
    cases hh : hasB ld i with
    | true =>
      rw [if_pos rfl, if_pos rfl, h1]
      rw [show (-32768 : Int) + 32768 = 0 from rfl, Int.mul_zero]
      unfold clrD
      omega
    | false =>
      rw [if_neg (by decide), if_neg (by decide), h1]
      unfold clrD
      generalize invT (4 + (i : Int) - j) * (dc ds i s + 32768) = t
      generalize pk _ j i s = a
      omega
/-- The reference's equations for the samples s. -/
def refM (l n s : Nat) (ld ks : List Int) (ds ps : List (List Int)) (r k : Nat) : Int := if k < l then invT (4 + ld.getD k 0 - ks.getD r 0) else conE ld ds (dc ps (ks.getD r 0).toNat s) (ks.getD r 0) s n
theorem refM_bd {l n s : Nat} {ld ks : List Int} {ds ps : List (List Int)} (r k : Nat) (hp : 0 ≤ dc ps (ks.getD r 0).toNat s ∧ dc ps (ks.getD r 0).toNat s ≤ 65536) : 0 ≤ refM l n s ld ks ds ps r k ∧ refM l n s ld ks ds ps r k ≤ 65536 := by
  unfold refM
  split
  · have := invT_bd (4 + ld.getD k 0 - ks.getD r 0); omega
  · exact conE_bd _ _ _ _ _ hp _
theorem refM_sol {l n s : Nat} {ld ks : List Int} {ds ps : List (List Int)} (hl : l = ld.length) (hl4 : l ≤ 4) (hs : s < 8) (hp : ∀ r, r < l → 0 ≤ dc ps (ks.getD r 0).toNat s ∧ dc ps (ks.getD r 0).toNat s ≤ 65536) (r : Nat) (hr : r < l) :
    slvF (refM l n s ld ks ds ps) l r l = solE ds ps ld ks l n r (4 + s) := by
  have h1 := slvF_rows (fun r k => eqM l ld ks ps (listD n (clrD ds ld l n)) n r (if k < l then k else 4 + s)) (refM l n s ld ks ds ps) l (fun r k hr => by
    (try dsimp only)
    unfold refM eqM
    by_cases h : k < l
    · rw [if_pos h, if_pos h, if_pos (by omega), if_pos h]
    · rw [if_neg h, if_neg h, if_neg (by omega), conE_eq ld ds _ _ s n (hp r hr) hs n (Nat.le_refl _)]
      rw [show 4 + s - 4 = s by omega, ← hl]
      rfl) l (Nat.le_refl _) r l hr
  rw [h1, slvF_cols (eqM l ld ks ps (listD n (clrD ds ld l n)) n) (fun r k => eqM l ld ks ps (listD n (clrD ds ld l n)) n r (if k < l then k else 4 + s)) (fun k => if k < l then k else 4 + s) l (fun c hc => if_pos hc) (fun _ _ => rfl) l (Nat.le_refl _) r l, if_neg (Nat.lt_irrefl _)]
  rfl
theorem refM_piv {l n s q m : Nat} {ld ks : List Int} {ds ps : List (List Int)} (hl : l = ld.length) (hl4 : l ≤ 4) (hlq : l ≤ ks.length) (hld : AscI 12 (-1) ld) (hks : AscI 4 (-1) ks) : ∀ c, c < l → slvF (refM l n s ld ks ds ps) c c c ≠ 0 :=
  (wt_pivots (ld.map Int.toNat) ((ks.take l).map Int.toNat) l (hld.nat 0 (by omega)) ((hks.take l).nat 0 (by omega)) (by simp [hl]) (by simp; omega) hl4 (refM l n s ld ks ds ps) (fun r k hr hk => by
    unfold refM wtF
    rw [if_pos hk, map_toNat_getD _ _ hld.nonneg, map_toNat_getD _ _ (hks.take l).nonneg]
    congr 2
    rw [List.getD_eq_getElem?_getD, List.getD_eq_getElem?_getD, List.getElem?_take, if_pos hr])).1

/-- A row of n + 1 numbers in a block of its own. -/
def RowB (W : World) (g n : Nat) (f : Nat → Int) : Prop := ∃ arr, Bk W g 3 arr ∧ n + 1 ≤ arr.size ∧ ∀ k, k ≤ n → arr[k]? = some (.int .i64 (f k))
theorem RowB.cell {W : World} {g n : Nat} {f : Nat → Int} (h : RowB W g n f) {k : Nat} (hk : k ≤ n) : W.cell? ⟨g, k, none⟩ = some (.int .i64 (f k)) := by
  obtain ⟨a, hb, _, hc⟩ := h; rw [hb.cell]; exact hc k hk
theorem RowB.frozen {W : World} {g n : Nat} {f : Nat → Int} (h : RowB W g n f) (i : Nat) : W.frozen? ⟨g, i, none⟩ = false := by obtain ⟨a, hb, _⟩ := h; exact hb.frozen i
theorem RowB.lt {W : World} {g n : Nat} {f : Nat → Int} (h : RowB W g n f) : g < W.heap.size := by obtain ⟨a, hb, _⟩ := h; exact hb.lt
theorem RowB.congr {W : World} {g n : Nat} {f f' : Nat → Int} (h : RowB W g n f) (e : ∀ k, k ≤ n → f k = f' k) : RowB W g n f' := by
  obtain ⟨a, h1, h2, h3⟩ := h; exact ⟨a, h1, h2, fun k hk => by rw [← e k hk]; exact h3 k hk⟩
theorem RowB.set1 {W : World} {g n : Nat} {f : Nat → Int} (h : RowB W g n f) {k : Nat} (hk : k ≤ n) (v : Int) : RowB (W.setCell ⟨g, k, none⟩ (.int .i64 v)) g n (fun k' => if k' = k then v else f k') := by
  obtain ⟨a, h1, h2, h3⟩ := h
  refine ⟨a.setIfInBounds k (.int .i64 v), h1.set_ _ _, by simp [h2], fun k' hk' => ?_⟩
  dsimp only
  rw [Array.getElem?_setIfInBounds]
  by_cases e : k' = k
  · subst e; rw [if_pos rfl, if_pos (by omega), if_pos rfl]
  · rw [if_neg (by omega), if_neg e]; exact h3 k' hk'
theorem RowB.block {W W' : World} {g n : Nat} {f : Nat → Int} (h : RowB W g n f) (hg : W'.heap[g]? = W.heap[g]?) : RowB W' g n f := by
  obtain ⟨a, h1, h2⟩ := h; exact ⟨a, hg.trans h1, h2⟩
theorem RowB.below {W W' : World} {g n X : Nat} {f : Nat → Int} (h : RowB W g n f) (hb : Below X W W') (hg : g < X) : RowB W' g n f := h.block (hb.block g hg)
theorem rowsInfo : (Tryd.prog.info? 31).map (fun i => (i.zero, i.size, i.bytes)) = some (some (.slice none 0 0), 1, 24) := by kernel_rfl
theorem RowB.zero (W : World) (l : Nat) : RowB (W.alloc (.cells (arrR (l + 1) 0) 3)) W.heap.size l (fun _ => 0) := by
  refine ⟨arrR (l + 1) 0, Bk.new _ _ _, by simp [arrR, rowR, repL], fun k hk => ?_⟩
  show ((repL (Value.int .i64 1) (Value.int .i64 0) (l + 1) 0).toArray)[k]? = _
  unfold repL
  rw [List.replicate_zero, List.nil_append, Nat.sub_zero, List.getElem?_toArray, List.getElem?_replicate, if_pos (by omega)]
theorem oneCell (W : World) (v : Value) (t : TypeId) : ∀ j u, [v][j]? = some u → (W.alloc (.cells #[v] t)).cell? ((⟨W.heap.size, 0, none⟩ : Addr).add j) = some u := by
  intro j u hj
  cases j with
  | zero => have : v = u := by simpa using hj
            subst this
            simp [go_sem, Addr.add]
  | succ j => simp at hj
/-- The data while they are written over: the samples before s, and those s of the first k0 lost blocks. -/
def dS (R : Nat → Nat → Int) (ds : List (List Int)) (ld : List Int) (s k0 i k' : Nat) : Int := if k' < s ∨ (k' = s ∧ hasB (ld.take k0) i = true) then R i k' else dc ds i k'
theorem dS_zero (R : Nat → Nat → Int) (ds : List (List Int)) (ld : List Int) (i k' : Nat) : dS R ds ld 0 0 i k' = dc ds i k' := by
  unfold dS
  rw [if_neg]
  rintro (h | ⟨_, h⟩)
  · omega
  · simp [hasB] at h
theorem hasB_take (ld : List Int) (k0 i : Nat) (h : k0 < ld.length) : hasB (ld.take (k0 + 1)) i = (decide ((i : Int) = ld.getD k0 0) || hasB (ld.take k0) i) := by
  have e : ld.take (k0 + 1) = ld.take k0 ++ [ld.getD k0 0] := by rw [List.take_add_one, List.getD_eq_getElem?_getD, List.getElem?_eq_getElem h]; rfl
  apply Bool.eq_iff_iff.2
  rw [hasB_mem, e, List.mem_append, List.mem_singleton, Bool.or_eq_true, hasB_mem, decide_eq_true_iff]
  exact Or.comm
theorem dS_step (R : Nat → Nat → Int) (ds : List (List Int)) (ld : List Int) (s k0 x i k' : Nat) (hx : ld.getD k0 0 = (x : Int)) (h : k0 < ld.length) : (if i = x ∧ k' = s then R x s else dS R ds ld s k0 i k') = dS R ds ld s (k0 + 1) i k' := by
  unfold dS
  rw [hasB_take ld k0 i h, hx]
  by_cases e : i = x
  · by_cases e2 : k' = s
    · subst e; subst e2; rw [if_pos ⟨rfl, rfl⟩, if_pos (.inr ⟨rfl, by simp⟩)]
    · rw [if_neg (fun h => e2 h.2)]
      by_cases e3 : k' < s
      · rw [if_pos (.inl e3), if_pos (.inl e3)]
      · rw [if_neg (fun h => h.elim e3 (fun h => e2 h.1)), if_neg (fun h => h.elim e3 (fun h => e2 h.1))]
  · rw [if_neg (fun h => e h.1), decide_eq_false (show ¬ (i : Int) = (x : Int) by omega), Bool.false_or]
theorem dS_done (R : Nat → Nat → Int) (ds : List (List Int)) (ld : List Int) (s i k' : Nat) (hR : hasB ld i = false → R i s = dc ds i s) : dS R ds ld s ld.length i k' = dS R ds ld (s + 1) 0 i k' := by
  unfold dS
  rw [List.take_length]
  by_cases e3 : k' < s
  · rw [if_pos (.inl e3), if_pos (.inl (by omega))]
  · by_cases e2 : k' = s
    · subst e2
      rw [if_pos (show k' < k' + 1 ∨ _ from .inl (by omega))]
      cases hh : hasB ld i with
      | true => rw [if_pos (.inr ⟨rfl, rfl⟩)]
      | false => rw [if_neg (fun h => h.elim e3 (fun h => by cases h.2)), hR hh]
    · rw [if_neg (fun h => h.elim e3 (fun h => e2 h.1)), if_neg (fun h => h.elim (fun h => by omega) (fun h => by simp [hasB] at h))]
/-- What was not lost stays. -/
theorem resF_kept {n l : Nat} {ds ps : List (List Int)} {ld ks : List Int} (hl : l = ld.length) (h : AscI n (-1) ld) (i k : Nat) (hh : hasB ld i = false) : resF ds ps ld ks l n i k = dc ds i k := by
  subst hl
  have hne : ∀ r, r < ld.length → ld.getD r 0 ≠ (i : Int) := fun r hr e => by
    have h1 := getD_mem' ld r hr
    rw [e] at h1
    have h2 := (hasB_mem ld i).2 h1
    rw [hh] at h2; cases h2
  unfold resF
  rw [(updF_at (fun r k => solE ds ps ld ks ld.length n r (4 + k) - 32768) ld (clrD ds ld ld.length n) ld.length n h (Nat.le_refl _) i k).2 hne]
  unfold clrD
  rw [updF_const _ _ _ _ _ _ (Nat.le_refl _), List.take_length, hh, if_neg (by decide)]
theorem resF_lost {n l : Nat} {ds ps : List (List Int)} {ld ks : List Int} (hl : l = ld.length) (h : AscI n (-1) ld) (r i k : Nat) (hr : r < l) (he : ld.getD r 0 = (i : Int)) : resF ds ps ld ks l n i k = solE ds ps ld ks l n r (4 + k) - 32768 := by
  subst hl
  exact (updF_at (fun r k => solE ds ps ld ks ld.length n r (4 + k) - 32768) ld (clrD ds ld ld.length n) ld.length n h (Nat.le_refl _) i k).1 r hr he
/-- Rows in blocks of their own, and the slice that holds them. -/
def RowsM (W : World) (base : Nat) (v : Value) (r : Nat) (bs : Nat → Nat) (n : Nat) (F : Nat → Nat → Int) : Prop :=
  W.ownsRow base 31 1 v r ((List.range r).map fun i => Value.slice (some ⟨bs i, 0, none⟩) (n + 1) (n + 1)) ∧ (∀ i, i < r → RowB W (bs i) n (F i)) ∧ (∀ i, i < r → base ≤ bs i ∧ v.ownBlock ≠ some (bs i)) ∧ (∀ i j, i < r → j < r → bs i = bs j → i = j)
theorem RowsM.nil (W : World) (base : Nat) (bs : Nat → Nat) (n : Nat) (F : Nat → Nat → Int) : RowsM W base (.slice none 0 0) 0 bs n F :=
  ⟨World.ownsRow_nil _ _ _ _, fun i hi => absurd hi (by omega), fun i hi => absurd hi (by omega), fun i j hi => absurd hi (by omega)⟩
theorem RowsM.below {W W' : World} {base X r n : Nat} {v : Value} {bs : Nat → Nat} {F : Nat → Nat → Int} (h : RowsM W base v r bs n F) (hb : Below X W W') (hX : W.heap.size ≤ X) : RowsM W' base v r bs n F :=
  ⟨h.1.kept (row := none) ⟨hb.os, hb.tape, hb.output, hb.size, fun k hk _ => hb.block k (by omega)⟩ (by cases hq : v.ownBlock with | none => exact .inl rfl | some g => exact .inr (by simp)), fun i hi => (h.2.1 i hi).below hb (by have := (h.2.1 i hi).lt; omega), h.2.2⟩
/-- One row more. -/
theorem RowsM.snoc {W W1 W' : World} {base r n g : Nat} {v v' : Value} {bs : Nat → Nat} {F : Nat → Nat → Int} (h : RowsM W base v r bs n F) (hg : RowB W g n (F r)) (hgb : base ≤ g) (hgv : v.ownBlock ≠ some g) (hgn : ∀ i, i < r → bs i ≠ g)
    (h1 : ∀ k, k < W.heap.size → W1.heap[k]? = W.heap[k]?) (h1s : W.heap.size ≤ W1.heap.size)
    (ho : W'.ownsRow base 31 1 v' (r + 1) (((List.range r).map fun i => Value.slice (some ⟨bs i, 0, none⟩) (n + 1) (n + 1)) ++ [Value.slice (some ⟨g, 0, none⟩) (n + 1) (n + 1)])) (hgr : W1.grownBy W' v.ownBlock) (hat : v'.ownBlock = v.ownBlock ∨ v'.ownBlock = some W1.heap.size) :
    RowsM W' base v' (r + 1) (fun i => if i = r then g else bs i) n F := by
  have hlt := hg.lt
  have kp : ∀ k, k < W.heap.size → v.ownBlock ≠ some k → W'.heap[k]? = W.heap[k]? := fun k hk hv => (hgr.block k (by omega) (fun e => hv e.symm)).trans (h1 k hk)
  refine ⟨?_, fun i hi => ?_, fun i hi => ?_, fun i j hi hj => ?_⟩
  · have e : ((List.range (r + 1)).map fun i => Value.slice (some ⟨if i = r then g else bs i, 0, none⟩) (n + 1) (n + 1)) = ((List.range r).map fun i => Value.slice (some ⟨bs i, 0, none⟩) (n + 1) (n + 1)) ++ [Value.slice (some ⟨g, 0, none⟩) (n + 1) (n + 1)] := by
      rw [List.range_succ, List.map_append]
      congr 1
      · apply List.map_congr_left
        intro i hi
        rw [if_neg (by have := List.mem_range.1 hi; omega)]
      · simp
    rw [e]; exact ho
  · dsimp only
    by_cases e : i = r
    · subst e; rw [if_pos rfl]; exact hg.block (kp g hlt hgv)
    · rw [if_neg e]
      have h2 := h.2.1 i (by omega)
      exact h2.block (kp _ h2.lt (h.2.2.1 i (by omega)).2)
  · dsimp only
    have key : ∀ k, k < W.heap.size → v.ownBlock ≠ some k → v'.ownBlock ≠ some k := fun k hk hv e => by
      rcases hat with h3 | h3
      · rw [h3] at e; exact hv e
      · rw [h3] at e; injection e with e; omega
    by_cases e : i = r
    · subst e; rw [if_pos rfl]; exact ⟨hgb, key g hlt hgv⟩
    · rw [if_neg e]
      have h2 := h.2.2.1 i (by omega)
      exact ⟨h2.1, key _ (h.2.1 i (by omega)).lt h2.2⟩
  · dsimp only
    by_cases e : i = r
    · by_cases e2 : j = r
      · intro _; omega
      · rw [if_pos e, if_neg e2]; intro e3; exact absurd e3.symm (hgn j (by omega))
    · by_cases e2 : j = r
      · rw [if_neg e, if_pos e2]; intro e3; exact absurd e3 (hgn i (by omega))
      · rw [if_neg e, if_neg e2]; exact h.2.2.2 i j (by omega) (by omega)
/-- The rows as solved takes them. -/
theorem RowsM.mat {W : World} {base r n : Nat} {v : Value} {bs : Nat → Nat} {F : Nat → Nat → Int} (h : RowsM W base v r bs n F) (h0 : 0 < r) (hr : r = n) : ∃ gR cR, v = .slice (some ⟨gR, 0, none⟩) r cR ∧ MatB W gR bs n F ∧ base ≤ gR := by
  subst hr
  rcases h.1.2 with ⟨_, e⟩ | ⟨g, cap, cur, e1, e2, e3, e4, e5, e6, e7⟩
  · omega
  · refine ⟨g, cap, e1, ⟨⟨cur, e3, by rw [e6]; omega, fun i hi => ?_⟩, h.2.1, fun i hi => ?_, h.2.2.2⟩, e2⟩
    · have h2 := congrArg (fun x : List Value => x[i]?) e7
      simp only [List.getElem?_take, Nat.mul_one] at h2
      rw [if_pos (by omega)] at h2
      rw [← Array.getElem?_toList, h2]
      simp [hi]
    · have := (h.2.2.1 i hi).2
      intro e
      apply this
      rw [e1, e]
      rfl
end Go.Proofs.YtjjflbnopphciabDoor

namespace Go.Proofs.YtjjflbnopphciabDoor
open Go.RowKit

theorem ownFromT {w : World} {base n c : Nat} {A : Option Addr} {xs : List Value} {t size : Nat} (h : w.ownsRow base t size (.slice A n c) n xs) : ∀ a, A = some a → base ≤ a.block := by
  rintro a rfl
  rcases h.2 with ⟨e, _⟩ | ⟨g, cap, cur, e, hb, _⟩
  · injection e with e1; cases e1
  · injection e with e1; cases e1; exact hb
theorem RdD.far {w : World} {A : Option Addr} {n : Nat} {ds : List (List Int)} (h : RdD w A n ds) (p : Addr) (v : Value) (hp : ∀ a, A = some a → a.block ≠ p.block) : RdD (w.setCell p v) A n ds := by
  refine ⟨h.1, h.2.1, fun h0 => ?_⟩
  obtain ⟨ad, e, hb, hc⟩ := h.2.2 h0
  refine ⟨ad, e, by rw [World.size_setCell]; exact hb, fun i k hi hk => ?_⟩
  rw [World.cell?_setCell_far _ _ _ _ (by rw [addBlock, addBlock]; exact fun e2 => hp ad e e2.symm)]
  exact hc i k hi hk
theorem RdI.far {w : World} {A : Option Addr} {n : Nat} {xs : List Int} (h : RdI w A n xs) (p : Addr) (v : Value) (hp : ∀ a, A = some a → a.block ≠ p.block) : RdI (w.setCell p v) A n xs := by
  refine ⟨h.1, fun h0 => ?_⟩
  obtain ⟨ad, e, hb, hc⟩ := h.2 h0
  refine ⟨ad, e, by rw [World.size_setCell]; exact hb, fun j hj => ?_⟩
  rw [World.cell?_setCell_far _ _ _ _ (by rw [addBlock]; exact fun e2 => hp ad e e2.symm)]
  exact hc j hj
theorem far4 (W : World) (g : Nat) (a b c d : Value) (p : Addr) (hp : g ≠ p.block) : ((((W.setCell ⟨g, 0, none⟩ a).setCell ⟨g, 1, none⟩ b).setCell ⟨g, 2, none⟩ c).setCell ⟨g, 3, none⟩ d).cell? p = W.cell? p := by
  rw [World.cell?_setCell_far _ _ _ _ hp, World.cell?_setCell_far _ _ _ _ hp, World.cell?_setCell_far _ _ _ _ hp, World.cell?_setCell_far _ _ _ _ hp]
theorem copyData_fr (A : Option Addr) (n c : Nat) (ds : List (List Int)) (w : World) (hA : A = none → n = 0 ∧ c = 0) (hr : RdD w A n ds) (hn : n ≤ 100000) :
    Calls Tryd.prog 8 #[.slice A n c] w fun e w' => ∃ A3 c3, e = .returned (.slice A3 n c3) ∧ RdD w' A3 n ds ∧ (∀ a, A3 = some a → w.heap.size ≤ a.block) ∧ Below w.heap.size w w' :=
  (copyData_own A n c ds w hA hr hn).mono (by
    rintro e w' ⟨v, rfl, ho, hb⟩
    obtain ⟨A3, c3, rfl, _, _, h3⟩ := own_form8 ho
    exact ⟨A3, c3, rfl, RdD.of_own ho hr.1 hr.2.1, ownFromT ho, hb⟩)
theorem copyInts_fr (A : Option Addr) (n c : Nat) (l : List Int) (w : World) (hA : A = none → n = 0 ∧ c = 0) (hr : RdI w A n l) (hn : n ≤ 1000000) :
    Calls Tryd.prog 35 #[.slice A n c] w fun e w' => ∃ A3 c3, e = .returned (.slice A3 n c3) ∧ RdI w' A3 n l ∧ (∀ a, A3 = some a → w.heap.size ≤ a.block) ∧ Below w.heap.size w w' :=
  (copyInts_any A n c l w hA hr hn).mono (by
    rintro e w' ⟨v, rfl, ho, hb⟩
    obtain ⟨A3, c3, rfl, h1, h2, h3⟩ := rd_own_c ho
    exact ⟨A3, c3, rfl, h3, ownFromT ho, hb⟩)
/-- A group that is copied. -/
def CpG (w : World) (n m l r0 : Nat) (ds ps : List (List Int)) (ld lp : List Int) (e : Ending) (w' : World) : Prop :=
  (∃ A B C D ca cb cc cd, e = .returned (.agg #[.slice A n ca, .slice B m cb, .slice C l cc, .slice D r0 cd]) ∧ RdD w' A n ds ∧ RdD w' B m ps ∧ RdI w' C l ld ∧ RdI w' D r0 lp) ∧ Below w.heap.size w w'
set_option maxRecDepth 100000 in
set_option maxHeartbeats 8000000 in
theorem copyGroup_any (A B C D : Option Addr) (n m l r0 ca cb cc cd : Nat) (ds ps : List (List Int)) (ld lp : List Int) (w : World)
    (hA : RdD w A n ds) (hB : RdD w B m ps) (hC : RdI w C l ld) (hD : RdI w D r0 lp) (nA : A = none → n = 0 ∧ ca = 0) (nB : B = none → m = 0 ∧ cb = 0) (nC : C = none → l = 0 ∧ cc = 0) (nD : D = none → r0 = 0 ∧ cd = 0) (hn : n ≤ 100000) (hm : m ≤ 100000) (hl : l ≤ 100000) (hr : r0 ≤ 100000) :
    Calls Tryd.prog 10 #[.agg #[.slice A n ca, .slice B m cb, .slice C l cc, .slice D r0 cd]] w (CpG w n m l r0 ds ps ld lp) := by
  obtain ⟨w1, hw1⟩ : ∃ W, ((w.alloc (.cells #[.slice A n ca, .slice B m cb, .slice C l cc, .slice D r0 cd] 33)).alloc (.cells #[.slice none 0 0, .slice none 0 0, .slice none 0 0, .slice none 0 0] 33)) = W := ⟨_, rfl⟩
  have b1 : Below w.heap.size w w1 := by rw [← hw1]; exact ((Below.refl _ _).alloc (Nat.le_refl _) _).alloc (by simp) _
  have HBK : Hid (Bk w1 w.heap.size 33 #[.slice A n ca, .slice B m cb, .slice C l cc, .slice D r0 cd]) := by show Bk _ _ _ _; rw [← hw1]; exact (Bk.new _ _ _).alloc _
  have HZ : Hid (Bk w1 (w.heap.size + 1) 33 #[.slice none 0 0, .slice none 0 0, .slice none 0 0, .slice none 0 0]) := by show Bk _ _ _ _; rw [← hw1]; simpa using Bk.new (w.alloc (.cells #[.slice A n ca, .slice B m cb, .slice C l cc, .slice D r0 cd] 33)) 33 #[.slice none 0 0, .slice none 0 0, .slice none 0 0, .slice none 0 0]
  have HB1 := Lib.hid b1
  have HW1 := Lib.hid hw1
  have KEEP : Hid (∀ W, Below w1.heap.size w1 W → W.cell? ⟨w.heap.size, 0, none⟩ = some (.slice A n ca) ∧ W.cell? ⟨w.heap.size, 1, none⟩ = some (.slice B m cb) ∧ W.cell? ⟨w.heap.size, 2, none⟩ = some (.slice C l cc) ∧ W.cell? ⟨w.heap.size, 3, none⟩ = some (.slice D r0 cd)) := fun W hW => bk4 (HBK.out.below hW HBK.out.lt)
  have CA : Hid (∀ W, Below w1.heap.size w1 W → Calls Tryd.prog 8 #[.slice A n ca] W fun e w' => ∃ A3 c3, e = .returned (.slice A3 n c3) ∧ RdD w' A3 n ds ∧ (∀ a, A3 = some a → W.heap.size ≤ a.block) ∧ Below W.heap.size W w') := fun W hW => copyData_fr A n ca ds W nA ((hA.below HB1.out).below hW) hn
  have CB : Hid (∀ W, Below w1.heap.size w1 W → Calls Tryd.prog 8 #[.slice B m cb] W fun e w' => ∃ A3 c3, e = .returned (.slice A3 m c3) ∧ RdD w' A3 m ps ∧ (∀ a, A3 = some a → W.heap.size ≤ a.block) ∧ Below W.heap.size W w') := fun W hW => copyData_fr B m cb ps W nB ((hB.below HB1.out).below hW) hm
  have CC : Hid (∀ W, Below w1.heap.size w1 W → Calls Tryd.prog 35 #[.slice C l cc] W fun e w' => ∃ A3 c3, e = .returned (.slice A3 l c3) ∧ RdI w' A3 l ld ∧ (∀ a, A3 = some a → W.heap.size ≤ a.block) ∧ Below W.heap.size W w') := fun W hW => copyInts_fr C l cc ld W nC ((hC.below HB1.out).below hW) (by omega)
  have CD : Hid (∀ W, Below w1.heap.size w1 W → Calls Tryd.prog 35 #[.slice D r0 cd] W fun e w' => ∃ A3 c3, e = .returned (.slice A3 r0 c3) ∧ RdI w' A3 r0 lp ∧ (∀ a, A3 = some a → W.heap.size ≤ a.block) ∧ Below W.heap.size W w') := fun W hW => copyInts_fr D r0 cd lp W nD ((hD.below HB1.out).below hW) (by omega)
  have hlt : w.heap.size + 1 < w1.heap.size := HZ.out.lt
  clear b1 hw1 hA hB hC hD nA nB nC nD
  go_enter Tryd.func10, Tryd.ntmps10
  go_upto_region 1 with fail
  rw [show ((w.alloc (.cells #[.slice A n ca, .slice B m cb, .slice C l cc, .slice D r0 cd] 33)).alloc (.cells #[.slice none 0 0, .slice none 0 0, .slice none 0 0, .slice none 0 0] 33)) = w1 from HW1.out]
  clear HW1
  refine wp_region_held_drew (S := (fun w' : World => w'.cell? ⟨w.heap.size, 0, none⟩ = some (.slice A n ca) ∧ w'.cell? ⟨w.heap.size, 1, none⟩ = some (.slice B m cb) ∧ w'.cell? ⟨w.heap.size, 2, none⟩ = some (.slice C l cc) ∧ w'.cell? ⟨w.heap.size, 3, none⟩ = some (.slice D r0 cd))) (by kernel_rfl) (KEEP.out _ (Below.refl _ _).drew) ?_
  intro hHeld
  refine wpAnyH_take (i := 0) (v := ?_) rfl (by kernel_rfl) (by kernel_rfl) (by kernel_rfl) (fun _ _ _ h => h) (Or.inl ⟨by rfl, ?_⟩) (by assumption) ?_
  rotate_left
  · intro w hSw; (try dsimp only at hSw); go_simp; (try (with_reducible rfl))
  try simp only [List.getElem_toArray, List.getElem_cons_succ, List.getElem_cons_zero, Act.put, List.setIfInBounds_toArray, List.set_cons_zero, List.set_cons_succ]
  refine wpAnyH_take (i := 1) (v := ?_) rfl (by kernel_rfl) (by kernel_rfl) (by kernel_rfl) (fun _ _ _ h => h) (Or.inl ⟨by rfl, ?_⟩) (by assumption) ?_
  rotate_left
  · intro w hSw; (try dsimp only at hSw); go_simp; (try (with_reducible rfl))
  try simp only [List.getElem_toArray, List.getElem_cons_succ, List.getElem_cons_zero, Act.put, List.setIfInBounds_toArray, List.set_cons_zero, List.set_cons_succ]
  refine wpAnyH_take (i := 3) (v := ?_) rfl (by kernel_rfl) (by kernel_rfl) (by kernel_rfl) (fun _ _ _ h => h) (Or.inl ⟨by rfl, ?_⟩) (by assumption) ?_
  rotate_left
  · intro w hSw; (try dsimp only at hSw); go_simp; (try (with_reducible rfl))
  try simp only [List.getElem_toArray, List.getElem_cons_succ, List.getElem_cons_zero, Act.put, List.setIfInBounds_toArray, List.set_cons_zero, List.set_cons_succ]
  refine wpAnyH_take (i := 4) (v := ?_) rfl (by kernel_rfl) (by kernel_rfl) (by kernel_rfl) (fun _ _ _ h => h) (Or.inl ⟨by rfl, ?_⟩) (by assumption) ?_
  rotate_left
  · intro w hSw; (try dsimp only at hSw); go_simp; (try (with_reducible rfl))
  try simp only [List.getElem_toArray, List.getElem_cons_succ, List.getElem_cons_zero, Act.put, List.setIfInBounds_toArray, List.set_cons_zero, List.set_cons_succ]
  refine wpAnyH_take (i := 6) (v := ?_) rfl (by kernel_rfl) (by kernel_rfl) (by kernel_rfl) (fun _ _ _ h => h) (Or.inl ⟨by rfl, ?_⟩) (by assumption) ?_
  rotate_left
  · intro w hSw; (try dsimp only at hSw); go_simp; (try (with_reducible rfl))
  try simp only [List.getElem_toArray, List.getElem_cons_succ, List.getElem_cons_zero, Act.put, List.setIfInBounds_toArray, List.set_cons_zero, List.set_cons_succ]
  refine wpAnyH_take (i := 7) (v := ?_) rfl (by kernel_rfl) (by kernel_rfl) (by kernel_rfl) (fun _ _ _ h => h) (Or.inl ⟨by rfl, ?_⟩) (by assumption) ?_
  rotate_left
  · intro w hSw; (try dsimp only at hSw); go_simp; (try (with_reducible rfl))
  try simp only [List.getElem_toArray, List.getElem_cons_succ, List.getElem_cons_zero, Act.put, List.setIfInBounds_toArray, List.set_cons_zero, List.set_cons_succ]
  refine wpAnyH_take (i := 9) (v := ?_) rfl (by kernel_rfl) (by kernel_rfl) (by kernel_rfl) (fun _ _ _ h => h) (Or.inl ⟨by rfl, ?_⟩) (by assumption) ?_
  rotate_left
  · intro w hSw; (try dsimp only at hSw); go_simp; (try (with_reducible rfl))
  try simp only [List.getElem_toArray, List.getElem_cons_succ, List.getElem_cons_zero, Act.put, List.setIfInBounds_toArray, List.set_cons_zero, List.set_cons_succ]
  refine wpAnyH_take (i := 10) (v := ?_) rfl (by kernel_rfl) (by kernel_rfl) (by kernel_rfl) (fun _ _ _ h => h) (Or.inl ⟨by rfl, ?_⟩) (by assumption) ?_
  rotate_left
  · intro w hSw; (try dsimp only at hSw); go_simp; (try (with_reducible rfl))
  try simp only [List.getElem_toArray, List.getElem_cons_succ, List.getElem_cons_zero, Act.put, List.setIfInBounds_toArray, List.set_cons_zero, List.set_cons_succ]
  refine wpAnyH_ready (rs := [2]) (by kernel_rfl) (by simp) ?_
  refine AllReadyH.cons rfl (fun K hK => ?_) AllReadyH.nil
  go_simp
  go_at_call 8
  refine (CA.out _ (Below.refl _ _).drew).mono ?_
  rintro e w2 ⟨Pa, Pc, rfl, hrr, hfr, hb⟩
  have B2 : Hid (Below w1.heap.size w1 w2) := (Below.refl _ _).drew.trans (hb.mono (Nat.le_refl _))
  have P2 := Lib.hid hrr
  have FP : Hid (∀ a, Pa = some a → a.block ≠ w.heap.size + 1) := fun a h => by have h1 := hfr a h; have h2 : w1.heap.size ≤ _ := Nat.le_refl _; (try simp at h1); omega
  clear hb hrr hfr
  go_wp2_with fail
  refine hK.out _ _ (KEEP.out _ B2.out) (fun hHeld => ?_)
  clear hK K
  try simp only [List.getElem_toArray, List.getElem_cons_succ, List.getElem_cons_zero, Act.put, List.setIfInBounds_toArray, List.set_cons_zero, List.set_cons_succ]
  refine wpAnyH_ready (rs := [5]) (by kernel_rfl) (by simp) ?_
  refine AllReadyH.cons rfl (fun K hK => ?_) AllReadyH.nil
  go_simp
  go_at_call 8
  refine (CB.out _ B2.out).mono ?_
  rintro e w3 ⟨Qa, Qc, rfl, hrr, hfr, hb⟩
  have B3 : Hid (Below w1.heap.size w1 w3) := B2.out.trans (hb.mono B2.out.size)
  have P3 := Lib.hid (P2.out.below hb)
  have Q3 := Lib.hid hrr
  have FQ : Hid (∀ a, Qa = some a → a.block ≠ w.heap.size + 1) := fun a h => by have h1 := hfr a h; have h2 : w1.heap.size ≤ _ := B2.out.size; (try simp at h1); omega
  clear hb hrr hfr P2
  go_wp2_with fail
  refine hK.out _ _ (KEEP.out _ B3.out) (fun hHeld => ?_)
  clear hK K
  try simp only [List.getElem_toArray, List.getElem_cons_succ, List.getElem_cons_zero, Act.put, List.setIfInBounds_toArray, List.set_cons_zero, List.set_cons_succ]
  refine wpAnyH_ready (rs := [8]) (by kernel_rfl) (by simp) ?_
  refine AllReadyH.cons rfl (fun K hK => ?_) AllReadyH.nil
  go_simp
  go_at_call 35
  refine (CC.out _ B3.out).mono ?_
  rintro e w4 ⟨Ra, Rc, rfl, hrr, hfr, hb⟩
  have B4 : Hid (Below w1.heap.size w1 w4) := B3.out.trans (hb.mono B3.out.size)
  have P4 := Lib.hid (P3.out.below hb)
  have Q4 := Lib.hid (Q3.out.below hb)
  have R4 := Lib.hid hrr
  have FR : Hid (∀ a, Ra = some a → a.block ≠ w.heap.size + 1) := fun a h => by have h1 := hfr a h; have h2 : w1.heap.size ≤ _ := B3.out.size; (try simp at h1); omega
  clear hb hrr hfr P3 Q3
  go_wp2_with fail
  refine hK.out _ _ (KEEP.out _ B4.out) (fun hHeld => ?_)
  clear hK K
  try simp only [List.getElem_toArray, List.getElem_cons_succ, List.getElem_cons_zero, Act.put, List.setIfInBounds_toArray, List.set_cons_zero, List.set_cons_succ]
  refine wpAnyH_ready (rs := [11]) (by kernel_rfl) (by simp) ?_
  refine AllReadyH.cons rfl (fun K hK => ?_) AllReadyH.nil
  go_simp
  go_at_call 35
  refine (CD.out _ B4.out).mono ?_
  rintro e w5 ⟨Ta, Tc, rfl, hrr, hfr, hb⟩
  have B5 : Hid (Below w1.heap.size w1 w5) := B4.out.trans (hb.mono B4.out.size)
  have P5 := Lib.hid (P4.out.below hb)
  have Q5 := Lib.hid (Q4.out.below hb)
  have R5 := Lib.hid (R4.out.below hb)
  have T5 := Lib.hid hrr
  have FT : Hid (∀ a, Ta = some a → a.block ≠ w.heap.size + 1) := fun a h => by have h1 := hfr a h; have h2 : w1.heap.size ≤ _ := B4.out.size; (try simp at h1); omega
  clear hb hrr hfr P4 Q4 R4
  go_wp2_with fail
  refine hK.out _ _ (KEEP.out _ B5.out) (fun hHeld => ?_)
  clear hK K
  try simp only [List.getElem_toArray, List.getElem_cons_succ, List.getElem_cons_zero, Act.put, List.setIfInBounds_toArray, List.set_cons_zero, List.set_cons_succ]
  refine wpAnyH_take (i := 12) (v := ?_) rfl (by kernel_rfl) (by kernel_rfl) (by kernel_rfl) (fun _ _ _ h => h) (Or.inl ⟨by rfl, ?_⟩) (by assumption) ?_
  rotate_left
  · intro w hSw; (try dsimp only at hSw); go_simp; (try (with_reducible rfl))
  try simp only [List.getElem_toArray, List.getElem_cons_succ, List.getElem_cons_zero, Act.put, List.setIfInBounds_toArray, List.set_cons_zero, List.set_cons_succ]
  have Z5 : Hid (Bk w5 (w.heap.size + 1) 33 #[.slice none 0 0, .slice none 0 0, .slice none 0 0, .slice none 0 0]) := HZ.out.below B5.out hlt
  have z0 : w5.cell? ⟨w.heap.size + 1, 0, none⟩ = some (.slice none 0 0) := by rw [Z5.out.cell]; rfl
  have z1 : w5.cell? ⟨w.heap.size + 1, 1, none⟩ = some (.slice none 0 0) := by rw [Z5.out.cell]; rfl
  have z2 : w5.cell? ⟨w.heap.size + 1, 2, none⟩ = some (.slice none 0 0) := by rw [Z5.out.cell]; rfl
  have z3 : w5.cell? ⟨w.heap.size + 1, 3, none⟩ = some (.slice none 0 0) := by rw [Z5.out.cell]; rfl
  have f0 : w5.frozen? ⟨w.heap.size + 1, 0, none⟩ = false := Z5.out.frozen 0
  have f1 : w5.frozen? ⟨w.heap.size + 1, 1, none⟩ = false := Z5.out.frozen 1
  have f2 : w5.frozen? ⟨w.heap.size + 1, 2, none⟩ = false := Z5.out.frozen 2
  have f3 : w5.frozen? ⟨w.heap.size + 1, 3, none⟩ = false := Z5.out.frozen 3
  refine wpAnyH_ready (rs := [13]) (by kernel_rfl) (by simp) ?_
  refine AllReadyH.cons rfl (fun K hK => ?_) AllReadyH.nil
  go_simp
  refine hK.out _ _ ((by obtain ⟨h0, h1, h2, h3⟩ := KEEP.out _ B5.out; exact ⟨(far4 _ _ _ _ _ _ _ (by simp)).trans h0, (far4 _ _ _ _ _ _ _ (by simp)).trans h1, (far4 _ _ _ _ _ _ _ (by simp)).trans h2, (far4 _ _ _ _ _ _ _ (by simp)).trans h3⟩)) (fun hHeld => ?_)
  clear hK K
  try simp only [List.getElem_toArray, List.getElem_cons_succ, List.getElem_cons_zero, Act.put, List.setIfInBounds_toArray, List.set_cons_zero, List.set_cons_succ]
  refine wpAnyH_done (by kernel_rfl) ?_ _
  have KN : Bk ((((w5.setCell ⟨w.heap.size + 1, 0, none⟩ (.slice Pa n Pc)).setCell ⟨w.heap.size + 1, 1, none⟩ (.slice Qa m Qc)).setCell ⟨w.heap.size + 1, 2, none⟩ (.slice Ra l Rc)).setCell ⟨w.heap.size + 1, 3, none⟩ (.slice Ta r0 Tc)) (w.heap.size + 1) 33 #[.slice Pa n Pc, .slice Qa m Qc, .slice Ra l Rc, .slice Ta r0 Tc] := by simpa using ((((Z5.out.set_ 0 (.slice Pa n Pc)).set_ 1 (.slice Qa m Qc)).set_ 2 (.slice Ra l Rc)).set_ 3 (.slice Ta r0 Tc))
  have NB : Hid (Below w.heap.size w ((((w5.setCell ⟨w.heap.size + 1, 0, none⟩ (.slice Pa n Pc)).setCell ⟨w.heap.size + 1, 1, none⟩ (.slice Qa m Qc)).setCell ⟨w.heap.size + 1, 2, none⟩ (.slice Ra l Rc)).setCell ⟨w.heap.size + 1, 3, none⟩ (.slice Ta r0 Tc))) := (((((HB1.out.trans (B5.out.mono HB1.out.size)).setCell (by simp) _).setCell (by simp) _).setCell (by simp) _).setCell (by simp) _)
  have NP := Lib.hid ((((P5.out.far ⟨w.heap.size + 1, 0, none⟩ (.slice Pa n Pc) FP.out).far ⟨w.heap.size + 1, 1, none⟩ (.slice Qa m Qc) FP.out).far ⟨w.heap.size + 1, 2, none⟩ (.slice Ra l Rc) FP.out).far ⟨w.heap.size + 1, 3, none⟩ (.slice Ta r0 Tc) FP.out)
  have NQ := Lib.hid ((((Q5.out.far ⟨w.heap.size + 1, 0, none⟩ (.slice Pa n Pc) FQ.out).far ⟨w.heap.size + 1, 1, none⟩ (.slice Qa m Qc) FQ.out).far ⟨w.heap.size + 1, 2, none⟩ (.slice Ra l Rc) FQ.out).far ⟨w.heap.size + 1, 3, none⟩ (.slice Ta r0 Tc) FQ.out)
  have NR := Lib.hid ((((R5.out.far ⟨w.heap.size + 1, 0, none⟩ (.slice Pa n Pc) FR.out).far ⟨w.heap.size + 1, 1, none⟩ (.slice Qa m Qc) FR.out).far ⟨w.heap.size + 1, 2, none⟩ (.slice Ra l Rc) FR.out).far ⟨w.heap.size + 1, 3, none⟩ (.slice Ta r0 Tc) FR.out)
  have NT := Lib.hid ((((T5.out.far ⟨w.heap.size + 1, 0, none⟩ (.slice Pa n Pc) FT.out).far ⟨w.heap.size + 1, 1, none⟩ (.slice Qa m Qc) FT.out).far ⟨w.heap.size + 1, 2, none⟩ (.slice Ra l Rc) FT.out).far ⟨w.heap.size + 1, 3, none⟩ (.slice Ta r0 Tc) FT.out)
  have HKN := Lib.hid KN
  clear hHeld z0 z1 z2 z3 f0 f1 f2 f3 KN
  generalize ((((w5.setCell ⟨w.heap.size + 1, 0, none⟩ (.slice Pa n Pc)).setCell ⟨w.heap.size + 1, 1, none⟩ (.slice Qa m Qc)).setCell ⟨w.heap.size + 1, 2, none⟩ (.slice Ra l Rc)).setCell ⟨w.heap.size + 1, 3, none⟩ (.slice Ta r0 Tc)) = wF at *
  have k0 : wF.cell? ⟨w.heap.size + 1, 0, none⟩ = some (.slice Pa n Pc) := by rw [HKN.out.cell]; rfl
  have k1 : wF.cell? ⟨w.heap.size + 1, 1, none⟩ = some (.slice Qa m Qc) := by rw [HKN.out.cell]; rfl
  have k2 : wF.cell? ⟨w.heap.size + 1, 2, none⟩ = some (.slice Ra l Rc) := by rw [HKN.out.cell]; rfl
  have k3 : wF.cell? ⟨w.heap.size + 1, 3, none⟩ = some (.slice Ta r0 Tc) := by rw [HKN.out.cell]; rfl
  go_wp2
  refine bodyPost_ret (v := .agg #[.slice Pa n Pc, .slice Qa m Qc, .slice Ra l Rc, .slice Ta r0 Tc]) (by simp [results, Tryd.results10, go_sem, k0, k1, k2, k3]) rfl ⟨⟨Pa, Qa, Ra, Ta, Pc, Qc, Rc, Tc, rfl, NP.out, NQ.out, NR.out, NT.out⟩, NB.out⟩
end Go.Proofs.YtjjflbnopphciabDoor

