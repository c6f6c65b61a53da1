import Derived.Test.YtjjflbnopphciaaGreatDoorXG
import Derived.Test.YtjjflbnopphciaaGreatDoorXH
import Derived.Test.YtjjflbnopphciaaGreatDoorXD
import Derived.Deep.QuietTactic
import Derived.BigQuiet
import Derived.Test.YtjjflbnopphciaaGreatDoorD5
import Derived.Test.YtjjflbnopphciaaGreatDoorXE
import Derived.Test.YtjjflbnopphciaaGreatDoorXI
import Derived.Test.YtjjflbnopphciaaGreatDoorR5
import Derived.Test.YtjjflbnopphciaaGreatDoorR6
namespace Go.Proofs.YtjjflbnopphciaaGreatDoor
open Go.RowKit

def OwnR (w : World) (ps : List (Int × Int)) (e : Ending) (w' : World) : Prop :=
  (∃ v, e = .returned v ∧ w'.ownsRow w.heap.size 51 2 v ps.length (pairCells ps)) ∧ Below w.heap.size w w'

end Go.Proofs.YtjjflbnopphciaaGreatDoor

namespace Go.Proofs.YtjjflbnopphciaaGreatDoor
open Go.RowKit

set_option maxRecDepth 100000 in
set_option maxHeartbeats 1000000 in
/-- Two slices that read as the same pairs are equal. -/
theorem ranges_same (A B : Option Addr) (g h n c d : Nat) (ps : List (Int × Int)) (w : World) (hr : RdR w g n ps) (hs : RdR w h n ps) (hn : n ≤ 1000000) (hA : 0 < n → A = some ⟨g, 0, none⟩) (hB : 0 < n → B = some ⟨h, 0, none⟩) :
    Calls Tryz.prog 27 #[.slice A n c, .slice B n d] w fun e w' => e = .returned (.bool true) ∧ Below w.heap.size w w' := by
  have HR := Lib.hid hr
  have HS := Lib.hid hs
  have HA := Lib.hid hA
  have HB := Lib.hid hB
  have hne : ((n : Int) != (n : Int)) = false := bne_self_eq_false' _
  clear hr hs hA hB
  go_enter Tryz.func27, Tryz.ntmps27
  go_wp2
  clear hne
  go_loopw [5] (fun i wr => ∃ k : Nat, k ≤ n ∧ i = .int .i64 k ∧ Hid (∃ j, wr = w.drewN j)) (fun i _ => n - (intOf i).toNat)
  case atStart => exact ⟨0, Nat.zero_le _, rfl, 0, rfl⟩
  case round =>
    obtain ⟨k, hk, rfl, HJ⟩ := hrel
    obtain ⟨j, hj⟩ := HJ.out
    by_cases hlt : k < n
    · have hkI : (k : Int) < (n : Int) := by omega
      have hk0 : (0 : Int) ≤ (k : Int) := by omega
      obtain ⟨h1, h2⟩ := HR.out.2.2 k hlt
      obtain ⟨h3, h4⟩ := HS.out.2.2 k hlt
      have eA := HA.out (by omega)
      have eB := HB.out (by omega)
      subst eA eB
      obtain ⟨⟨x, y⟩, hxy⟩ : ∃ p, ps.getD k (0, 0) = p := ⟨_, rfl⟩
      rw [hxy] at h1 h2 h3 h4
      dsimp only at h1 h2 h3 h4
      have q1 : wr.cell? ⟨g, k * 2, none⟩ = some (.int .i64 x) := by rw [hj]; exact h1
      have q2 : wr.cell? ⟨g, k * 2 + 1, none⟩ = some (.int .i64 y) := by rw [hj]; exact h2
      have q3 : wr.cell? ⟨h, k * 2, none⟩ = some (.int .i64 x) := by rw [hj]; exact h3
      have q4 : wr.cell? ⟨h, k * 2 + 1, none⟩ = some (.int .i64 y) := by rw [hj]; exact h4
      have HJ' := Lib.hid hj
      clear hj HJ h1 h2 h3 h4 hxy
      go_wp2
      go_quiet (fail)
      go_wp2
      go_roundw
      case rel =>
        refine ⟨k + 1, by omega, by go_num, ?_⟩
        show ∃ _, _ = _
        rw [HJ'.out]; exact ⟨_, World.drewN_drewN _ _ _⟩
      case measure => simp [intOf]; omega
    · obtain rfl : n = k := by omega
      clear hj
      go_wp2
      go_ret
      obtain ⟨j, hj⟩ := HJ.out
      exact ⟨rfl, by rw [hj]; exact belowDrewN (Below.refl _ _) _⟩

end Go.Proofs.YtjjflbnopphciaaGreatDoor

namespace Go.Proofs.YtjjflbnopphciaaGreatDoor
open Go.RowKit

theorem RdGN.toG {w : World} {A : Option Addr} {n : Nat} {rows : List (List Int)} (h : RdGN w A n rows) : RdG w A n rows := by
  refine ⟨h.1, fun hn => ?_⟩
  obtain ⟨ad, e, hlt, hc⟩ := h.2 hn
  refine ⟨ad, e, hlt, fun j hj => ?_⟩
  obtain ⟨B, m, c, h1, h2, h3, _⟩ := hc j hj
  exact ⟨B, m, c, h1, h2, h3⟩
/-- A task in a variable. -/
def TaskAt (w : World) (g : Nat) (A : Option Addr) (n c : Nat) (b : Int) : Prop := Bk w g 55 #[.slice A n c, .int .i64 b]
theorem TaskAt.below {w w' : World} {g : Nat} {A : Option Addr} {n c : Nat} {b : Int} (h : TaskAt w g A n c b) (hb : Below w.heap.size w w') : TaskAt w' g A n c b := Bk.later h hb
theorem TaskAt.c0 {w : World} {g : Nat} {A : Option Addr} {n c : Nat} {b : Int} (h : TaskAt w g A n c b) : w.cell? ⟨g, 0, none⟩ = some (.slice A n c) := by rw [Bk.cell h]; rfl
theorem TaskAt.c1 {w : World} {g : Nat} {A : Option Addr} {n c : Nat} {b : Int} (h : TaskAt w g A n c b) : w.cell? ⟨g, 1, none⟩ = some (.int .i64 b) := by rw [Bk.cell h]; rfl
def CellAt (w : World) (a : Addr) (v : Value) : Prop := a.block < w.heap.size ∧ w.cell? a = some v
theorem CellAt.below {w w' : World} {a : Addr} {v : Value} (h : CellAt w a v) (hb : Below w.heap.size w w') : CellAt w' a v := ⟨Nat.lt_of_lt_of_le h.1 hb.size, (hb.cell h.1).trans h.2⟩
theorem gridB_parts {R C : Nat} {rows : List (List Int)} (h : gridB R C rows = true) : rows.length ≤ R + 2 ∧ ∀ j, j < rows.length → (rows.getD j []).length ≤ C + 2 := by
  unfold gridB at h
  rw [Bool.and_eq_true, decide_eq_true_eq, List.all_eq_true] at h
  exact ⟨h.1, fun j hj => by have := h.2 _ (getD_in rows j [] hj); simpa using this⟩
theorem own_ranges {w : World} {base n : Nat} {v : Value} {ps : List (Int × Int)} (h : w.ownsRow base 51 2 v n (pairCells ps)) (hl : ps.length = n) : ∃ A c g, v = .slice A n c ∧ (0 < n → A = some ⟨g, 0, none⟩) ∧ RdR w g n ps := by
  obtain ⟨A, c, rfl, hf⟩ := own_form h
  by_cases h0 : 0 < n
  · obtain ⟨g, rfl⟩ := hf h0
    exact ⟨_, c, g, rfl, fun _ => rfl, rdR_of_own h hl⟩
  · exact ⟨A, c, 0, rfl, fun h => absurd h h0, hl, fun h => absurd h h0, fun j hj => absurd hj (by omega)⟩

end Go.Proofs.YtjjflbnopphciaaGreatDoor

namespace Go.Proofs.YtjjflbnopphciaaGreatDoor
open Go.RowKit

/-- Rows of the call's own, no two of which share memory. -/
def RowsN (W : World) (base : Nat) (L : List (Value × List Int)) : Prop :=
  (∀ p ∈ L, W.ownsRow base 3 1 p.1 p.2.length (p.2.map (Value.int .i64))) ∧ L.Pairwise fun p q => ∀ g, p.1.ownBlock = some g → q.1.ownBlock ≠ some g
theorem RowsN.drew {W : World} {base : Nat} {L : List (Value × List Int)} (h : RowsN W base L) : RowsN W.drew base L := ⟨fun p hp => (h.1 p hp).drew, h.2⟩
theorem RowsN.alloc {W : World} {base : Nat} {L : List (Value × List Int)} (h : RowsN W base L) (o : Obj) : RowsN (W.alloc o) base L := ⟨fun p hp => (h.1 p hp).alloc o, h.2⟩
theorem RowsN.later {W W' : World} {base : Nat} {L : List (Value × List Int)} (h : RowsN W base L) (hb : Below W.heap.size W W') : RowsN W' base L := ⟨fun p hp => ownLater (h.1 p hp) hb, h.2⟩
theorem RowsN.step {W W' : World} {base : Nat} {pre post : List (Value × List Int)} {v v' : Value} {xs : List Int} {u : Int} (h : RowsN W base (pre ++ (v, xs) :: post))
    (ho : W'.ownsRow base 3 1 v' (xs.length + 1) (xs.map (Value.int .i64) ++ [.int .i64 u])) (hg : W.grownBy W' v.ownBlock) (hat : v'.ownBlock = v.ownBlock ∨ v'.ownBlock = some W.heap.size) : RowsN W' base (pre ++ (v', xs ++ [u]) :: post) := by
  obtain ⟨h1, h2⟩ := h
  rw [List.pairwise_append] at h2
  obtain ⟨hp, hc, hx⟩ := h2
  rw [List.pairwise_cons] at hc
  obtain ⟨hc1, hc2⟩ := hc
  have key : ∀ p : Value × List Int, p ∈ pre ∨ p ∈ post → W.ownsRow base 3 1 p.1 p.2.length (p.2.map (Value.int .i64)) ∧ (∀ g, p.1.ownBlock = some g → v.ownBlock ≠ some g) := by
    intro p hpp
    refine ⟨h1 p (by rcases hpp with h | h <;> simp [h]), fun g hg1 hg2 => ?_⟩
    rcases hpp with h | h
    · exact hx p h (v, xs) (List.mem_cons_self ..) g hg1 hg2
    · exact hc1 p h g hg2 hg1
  have kept : ∀ p : Value × List Int, p ∈ pre ∨ p ∈ post → W'.ownsRow base 3 1 p.1 p.2.length (p.2.map (Value.int .i64)) := by
    intro p hpp
    obtain ⟨k1, k2⟩ := key p hpp
    refine k1.kept hg ?_
    cases hb : p.1.ownBlock with
    | none => exact .inl rfl
    | some g => exact .inr fun e => k2 g hb e.symm
  have apart : ∀ p : Value × List Int, p ∈ pre ∨ p ∈ post → ∀ g, p.1.ownBlock = some g → v'.ownBlock ≠ some g := by
    intro p hpp g hb e
    obtain ⟨k1, k2⟩ := key p hpp
    rcases hat with h | h
    · rw [h] at e; exact k2 g hb e
    · rw [h] at e
      have := (k1.lt g hb).2
      injection e with e
      omega
  refine ⟨?_, ?_⟩
  · intro p hpm
    rcases List.mem_append.1 hpm with h | h
    · exact kept p (Or.inl h)
    · rcases List.mem_cons.1 h with rfl | h
      · show W'.ownsRow base 3 1 v' (xs ++ [u]).length ((xs ++ [u]).map (Value.int .i64))
        rw [List.map_append, List.length_append]
        exact ho
      · exact kept p (Or.inr h)
  · rw [List.pairwise_append]
    refine ⟨hp, ?_, ?_⟩
    · rw [List.pairwise_cons]
      refine ⟨fun q hq g hg1 hg2 => apart q (Or.inr hq) g hg2 hg1, hc2⟩
    · intro p hpp q hq
      rcases List.mem_cons.1 hq with rfl | hq
      · exact fun g hb => apart p (Or.inl hpp) g hb
      · exact hx p hpp q (List.mem_cons_of_mem _ hq)
/-- A row of integers lies in no block of slices. -/
theorem row_not {W : World} {base b n : Nat} {v : Value} {xs cs : List Value} (h : W.ownsRow base 3 1 v n xs) (hb : Bk W b 22 cs.toArray) : v.ownBlock ≠ some b := by
  rcases h.2 with ⟨rfl, _⟩ | ⟨g, cap, cur, rfl, _, hg, _⟩
  · simp [Value.ownBlock]
  · simp only [Value.ownBlock]
    intro e
    injection e with e
    subst e
    have hb' : W.heap[g]? = _ := hb
    rw [hg] at hb'
    injection hb' with h1
    injection h1 with _ h2
    exact absurd h2 (by decide)
theorem RowsN.far {W : World} {base b : Nat} {L : List (Value × List Int)} {cs : List Value} (h : RowsN W base L) (hb : Bk W b 22 cs.toArray) (i : Nat) (u : Value) : RowsN (W.setCell ⟨b, i, none⟩ u) base L :=
  ⟨fun p hp => (h.1 p hp).kept (grownBy_setCellG W ⟨b, i, none⟩ u) (by
    cases hv : p.1.ownBlock with
    | none => exact .inl rfl
    | some g => exact .inr (by rw [← hv]; exact row_not (h.1 p hp) hb)), h.2⟩
/-- A strip under way: its rows, in a block of the call's own. -/
def StripR (W : World) (b n : Nat) (L : Nat → List Int) (more : List (Value × List Int)) : Prop :=
  ∃ Ls : List (Value × List Int), Ls.length = n ∧ (∀ k, k < n → (Ls.getD k (undef, [])).2 = L k) ∧ Bk W b 22 (Ls.map Prod.fst).toArray ∧ RowsN W b (Ls ++ more)
theorem StripR.made {W : World} {b n : Nat} (h : Bk W b 22 (List.replicate n (Value.slice none 0 0)).toArray) : StripR W b n (fun _ => []) [] := by
  refine ⟨List.replicate n (Value.slice none 0 0, []), by simp, fun k hk => by simp [List.getD_eq_getElem?_getD, List.getElem?_replicate, hk], by rw [List.map_replicate]; exact h, ?_⟩
  rw [List.append_nil]
  refine ⟨fun p hp => ?_, ?_⟩
  · rw [(List.mem_replicate.1 hp).2]; exact World.ownsRow_nil _ _ _ _
  · rw [List.pairwise_replicate]
    right
    intro g hg
    simp [Value.ownBlock] at hg
theorem StripR.later {W W' : World} {b n : Nat} {L : Nat → List Int} {more : List (Value × List Int)} (h : StripR W b n L more) (hb : Below W.heap.size W W') : StripR W' b n L more := by
  obtain ⟨Ls, h1, h2, h3, h4⟩ := h
  exact ⟨Ls, h1, h2, h3.later hb, h4.later hb⟩
theorem StripR.and {W W' : World} {b n : Nat} {L : Nat → List Int} {v : Value} {xs : List Int} (h : StripR W b n L []) (hb : Below W.heap.size W W') (ho : W'.ownsRow W.heap.size 3 1 v xs.length (xs.map (Value.int .i64))) (hw : b ≤ W.heap.size) : StripR W' b n L [(v, xs)] := by
  obtain ⟨Ls, h1, h2, h3, h4⟩ := h
  rw [List.append_nil] at h4
  refine ⟨Ls, h1, h2, h3.later hb, ?_, ?_⟩
  · intro p hp
    rcases List.mem_append.1 hp with h | h
    · exact ownLater (h4.1 p h) hb
    · rw [List.mem_singleton.1 h]; exact ownMono ho hw
  · rw [List.pairwise_append]
    refine ⟨h4.2, List.pairwise_singleton _ _, fun p hp q hq g hg e => ?_⟩
    rw [List.mem_singleton.1 hq] at e
    have := ((h4.1 p hp).lt g hg).2
    have := (ho.lt g e).1
    omega
theorem StripR.only {W : World} {b n : Nat} {L : Nat → List Int} {more : List (Value × List Int)} (h : StripR W b n L more) : StripR W b n L [] := by
  obtain ⟨Ls, h1, h2, h3, h4⟩ := h
  refine ⟨Ls, h1, h2, h3, ?_⟩
  rw [List.append_nil]
  exact ⟨fun p hp => h4.1 p (List.mem_append_left _ hp), (List.pairwise_append.1 h4.2).1⟩
/-- The row at an index, before it grows. -/
theorem StripR.at_ {W : World} {b n k : Nat} {L : Nat → List Int} {more : List (Value × List Int)} (h : StripR W b n L more) (hk : k < n) :
    ∃ v pre post, W.cell? ⟨b, k, none⟩ = some v ∧ pre.length = k ∧ Bk W b 22 ((pre ++ (v, L k) :: post).map Prod.fst).toArray ∧ (pre ++ (v, L k) :: post).length = n ∧ (∀ j, j < n → ((pre ++ (v, L k) :: post).getD j (undef, [])).2 = L j) ∧ RowsN W b (pre ++ (v, L k) :: (post ++ more)) := by
  obtain ⟨Ls, h1, h2, h3, h4⟩ := h
  have hk1 : k < Ls.length := by omega
  obtain ⟨⟨v, xs⟩, hv⟩ : ∃ p, Ls[k] = p := ⟨_, rfl⟩
  have e : Ls = Ls.take k ++ (v, xs) :: Ls.drop (k + 1) := by
    rw [← hv, ← List.drop_eq_getElem_cons hk1, List.take_append_drop]
  have hx : xs = L k := by
    have := h2 k hk
    rw [List.getD_eq_getElem?_getD, List.getElem?_eq_getElem hk1, Option.getD_some, hv] at this
    exact this
  subst hx
  refine ⟨v, Ls.take k, Ls.drop (k + 1), ?_, by rw [List.length_take]; omega, by rw [← e]; exact h3, by rw [← e]; exact h1, by rw [← e]; exact h2, ?_⟩
  · rw [h3.cell]
    simp [List.getElem?_map, List.getElem?_eq_getElem hk1, hv]
  · rw [show Ls.take k ++ (v, L k) :: (Ls.drop (k + 1) ++ more) = Ls ++ more by conv => rhs; rw [e]; simp]
    exact h4
theorem StripR.put {W : World} {b n k : Nat} {L : Nat → List Int} {more : List (Value × List Int)} {pre post : List (Value × List Int)} {v v' : Value} {x : Int} {W' : World} (hk : k < n) (hpl : pre.length = k) (h3 : Bk W b 22 ((pre ++ (v, L k) :: post).map Prod.fst).toArray) (h1 : (pre ++ (v, L k) :: post).length = n) (h2 : ∀ j, j < n → ((pre ++ (v, L k) :: post).getD j (undef, [])).2 = L j)
    (h4 : RowsN W b (pre ++ (v, L k) :: (post ++ more))) (ho : W'.ownsRow b 3 1 v' ((L k).length + 1) ((L k).map (Value.int .i64) ++ [.int .i64 x])) (hg : W.grownBy W' v.ownBlock) (hat : v'.ownBlock = v.ownBlock ∨ v'.ownBlock = some W.heap.size) :
    StripR (W'.setCell ⟨b, k, none⟩ v') b n (fun j => if j = k then L k ++ [x] else L j) more := by
  have hne : v.ownBlock ≠ some b := row_not (h4.1 (v, L k) (by simp)) h3
  have h5 : Bk W' b 22 ((pre ++ (v, L k) :: post).map Prod.fst).toArray := h3.grown hg (fun e => hne e.symm)
  have h6 := h4.step ho hg hat
  refine ⟨pre ++ (v', L k ++ [x]) :: post, by simpa using h1, fun j hj => ?_, ?_, ?_⟩
  · by_cases e : j = k
    · subst e
      dsimp only
      rw [if_pos rfl, List.getD_eq_getElem?_getD, List.getElem?_append_right (by omega), hpl]
      simp
    · dsimp only
      rw [if_neg e, ← h2 j hj]
      simp only [List.getD_eq_getElem?_getD]
      rcases Nat.lt_or_ge j k with h | h
      · rw [List.getElem?_append_left (by omega), List.getElem?_append_left (by omega)]
      · rw [List.getElem?_append_right (by omega), List.getElem?_append_right (by omega), hpl]
        obtain ⟨t, ht⟩ : ∃ t, j - k = t + 1 := ⟨j - k - 1, by omega⟩
        rw [ht]; simp
  · have h7 := h5.set_ k v'
    have e : (((pre ++ (v, L k) :: post).map Prod.fst).toArray).setIfInBounds k v' = ((pre ++ (v', L k ++ [x]) :: post).map Prod.fst).toArray := by
      simp only [List.setIfInBounds_toArray, List.map_append, List.map_cons]
      rw [List.set_append_right _ _ (by simp [hpl]), List.length_map, hpl, Nat.sub_self, List.set_cons_zero]
    rw [e] at h7
    exact h7
  · rw [show pre ++ (v', L k ++ [x]) :: post ++ more = pre ++ (v', L k ++ [x]) :: (post ++ more) by simp]
    exact h6.far h5 k v'
theorem StripR.read {W : World} {b n : Nat} {L : Nat → List Int} {more : List (Value × List Int)} (h : StripR W b n L more) (hm : ∀ k, k < n → (L k).length ≤ 1000000) : RdGN W (some ⟨b, 0, none⟩) n ((List.range n).map L) := by
  obtain ⟨Ls, h1, h2, h3, h4⟩ := h
  refine ⟨by simp, fun hn => ⟨_, rfl, h3.lt, fun j hj => ?_⟩⟩
  have hj1 : j < Ls.length := by omega
  obtain ⟨⟨v, xs⟩, hv⟩ : ∃ p, Ls[j] = p := ⟨_, rfl⟩
  have hx : xs = L j := by
    have := h2 j hj
    rw [List.getD_eq_getElem?_getD, List.getElem?_eq_getElem hj1, Option.getD_some, hv] at this
    exact this
  subst hx
  have ho : W.ownsRow b 3 1 v (L j).length ((L j).map (Value.int .i64)) := h4.1 (v, L j) (by rw [← hv]; exact List.mem_append_left _ (List.getElem_mem _))
  obtain ⟨B, c, rfl, _, hr, hn'⟩ := rd_ownN ho
  refine ⟨B, _, c, ?_, ?_, by have := hm j hj; omega, hn'⟩
  · rw [addOff, h3.cell]
    simp [List.getElem?_map, List.getElem?_eq_getElem hj1, hv]
  · have e : ((List.range n).map L).getD j [] = L j := by simp [List.getD_eq_getElem?_getD, hj]
    rw [e]; exact hr
theorem make_strip (c : Nat) (hc : c ≤ 1000000) (W : World) :
    (Instr.makeSlice 46 (.int .i64 (c : Int)) (.int .i64 (c : Int))).run Tryz.prog W = .ok (.slice (some ⟨W.heap.size, 0, none⟩) c c) (W.alloc (.cells (List.replicate c (Value.slice none 0 0)).toArray 22)) := by
  obtain ⟨i0, hi, hz0, hz1, hz2⟩ := info_parts sliceInfo
  have hr := run_make (P := Tryz.prog) W 46 22 i0 _ Tryz.underlying46 hi hz0 .i64 .i64 c c (by omega) (by omega) (by rw [hz2]; omega) (by omega)
  rw [hr]
  have e : madeCells (Value.cells (.slice none 0 0)) ((c : Int).toNat * i0.size) = (List.replicate c (Value.slice none 0 0)).toArray := by
    rw [hz1]
    apply Array.ext'
    have := toList_madeCells_one (Value.slice none 0 0) c
    simp only [Int.toNat_natCast, Nat.mul_one]
    show (madeCells #[Value.slice none 0 0] c).toList = _
    rw [this]
  rw [e]
  simp
/-- A row of a strip that is unrolled. -/
def cellU (rows : List (List Int)) (cx cy : Int) (st k r : Nat) : Int := ((ringTo cx cy r 5).map (pix rows)).getD (8 * r * k / st) 0
def rowU (rows : List (List Int)) (cx cy : Int) (st lo k t : Nat) : List Int := (List.range t).map fun i => cellU rows cx cy st k (lo + i)
theorem rowU_succ (rows : List (List Int)) (cx cy : Int) (st lo k t : Nat) : rowU rows cx cy st lo k (t + 1) = rowU rows cx cy st lo k t ++ [cellU rows cx cy st k (lo + t)] := by simp [rowU, List.range_succ]
theorem rowU_length (rows : List (List Int)) (cx cy : Int) (st lo k t : Nat) : (rowU rows cx cy st lo k t).length = t := by simp [rowU]
def unL (rows : List (List Int)) (cx cy : Int) (st lo t : Nat) : List (List Int) := (List.range st).map fun k => rowU rows cx cy st lo k t
/-- A slice of rows that reads as a list, and an error. -/
def ResG (w : World) (E : Int) (rows : List (List Int)) (e : Ending) (w' : World) : Prop :=
  (∃ A c, e = .returned (.tuple #[.slice A rows.length c, .int .i64 E]) ∧ RdGN w' A rows.length rows) ∧ Below w.heap.size w w'
theorem ResG.none_ {w w' : World} {E : Int} (h : Below w.heap.size w w') : ResG w E [] (.returned (.tuple #[.slice none 0 0, .int .i64 E])) w' := ⟨⟨_, _, rfl, rfl, fun h => absurd h (by simp)⟩, h⟩

end Go.Proofs.YtjjflbnopphciaaGreatDoor

namespace Go.Proofs.YtjjflbnopphciaaGreatDoor
open Go.RowKit

theorem hasRing_any (ad : Addr) (n c m c' : Nat) (B : Option Addr) (rows : List (List Int)) (cx cy r : Int) (W : World) (hck : CellAt W ad (.slice B m c')) (hn : 0 < n ∧ n ≤ 24) (hm : 0 < m ∧ m ≤ 24) (hr : 0 ≤ r ∧ r ≤ 24) (hln : rows.length = n) (hlm : (rows.getD 0 []).length = m) :
    Calls Tryz.prog 46 #[.agg #[.slice (some ad) n c], .agg #[.int .i64 cx, .int .i64 cy], .int .i64 r] W fun e w' => e = .returned (.bool (hasB rows cx cy r)) ∧ Below W.heap.size W w' := by
  have hHB : hasB rows cx cy r = (fromB r ((m : Int) - 1 - r) [cx] && fromB r ((n : Int) - 1 - r) [cy]) := by unfold hasB; rw [hlm, hln]
  cases hb : fromB r ((m : Int) - 1 - r) [cx] with
  | true =>
    refine (hasRing_yes ad n c m c' B cx cy r W hck.2 hck.1 hn.1 (by omega) (by omega) (by omega) hb).mono ?_
    rintro e w' ⟨rfl, h⟩
    exact ⟨by rw [hHB, hb, Bool.true_and], h⟩
  | false =>
    refine (hasRing_no ad n c m c' B cx cy r W hck.2 hck.1 hn.1 (by omega) (by omega) (by omega) hb).mono ?_
    rintro e w' ⟨rfl, h⟩
    exact ⟨by rw [hHB, hb, Bool.false_and], h⟩
theorem from_both {lo hi x y : Int} : fromB lo hi [x, y] = true ↔ (lo ≤ x ∧ x ≤ hi) ∧ lo ≤ y ∧ y ≤ hi := by simp [fromB]
/-- What is wrong with a view of a valid image of n rows and m columns. -/
def vwE (rows : List (List Int)) (cx cy lo hi st : Int) : Int :=
  if ((1 ≤ lo ∧ lo ≤ 24) ∧ 1 ≤ hi ∧ hi ≤ 24) ∧ 1 ≤ st ∧ st ≤ 40 then (if lo ≤ hi then (if hi - lo + 1 ≤ 12 then (if hasB rows cx cy hi = true then 0 else 23) else 8) else 9) else 2
def unE (rows : List (List Int)) (cx cy lo hi st : Int) : Int := if gridE 24 24 rows = 0 then vwE rows cx cy lo hi st else gridE 24 24 rows
def unX (rows : List (List Int)) (cx cy lo hi st : Int) : List (List Int) := if unE rows cx cy lo hi st = 0 then unL rows cx cy st.toNat lo.toNat (hi - lo + 1).toNat else []

set_option maxRecDepth 100000 in
set_option maxHeartbeats 2000000 in
theorem un_img (A : Option Addr) (n c : Nat) (rows : List (List Int)) (cx cy lo hi st : Int) (w : World) (hr : RdG w A n rows) (hn : n ≤ 1000000) (E : Int) (hE : gridE 24 24 rows = E) (h0 : E ≠ 0) :
    Calls Tryz.prog 17 #[.agg #[.slice A n c], .agg #[.int .i64 cx, .int .i64 cy, .int .i64 lo, .int .i64 hi, .int .i64 st]] w (ResG w E []) := by
  have hb0 : Below w.heap.size w ((w.alloc (.cells #[.slice A n c] 41)).alloc (.cells #[.int .i64 cx, .int .i64 cy, .int .i64 lo, .int .i64 hi, .int .i64 st] 53)) := ((Below.refl _ w).alloc (Nat.le_refl _) _).alloc (by simp) _
  have HNI : Hid (Bk ((w.alloc (.cells #[.slice A n c] 41)).alloc (.cells #[.int .i64 cx, .int .i64 cy, .int .i64 lo, .int .i64 hi, .int .i64 st] 53)) w.heap.size 41 #[.slice A n c]) := (Bk.new w 41 #[.slice A n c]).alloc _
  have HNV : Hid (Bk ((w.alloc (.cells #[.slice A n c] 41)).alloc (.cells #[.int .i64 cx, .int .i64 cy, .int .i64 lo, .int .i64 hi, .int .i64 st] 53)) (w.heap.size + 1) 53 #[.int .i64 cx, .int .i64 cy, .int .i64 lo, .int .i64 hi, .int .i64 st]) := by
    have := Bk.new (w.alloc (.cells #[.slice A n c] 41)) 53 #[.int .i64 cx, .int .i64 cy, .int .i64 lo, .int .i64 hi, .int .i64 st]
    show Bk _ _ _ _
    simpa using this
  have HB0 := Lib.hid hb0
  have CI := Lib.hid (checkImage_any A n c rows _ (hr.below hb0) (by omega))
  rw [hE] at CI
  have h1 : (E != 0) = true := by simpa using h0
  clear hr hb0 h0 hE
  go_enter Tryz.func17, Tryz.ntmps17
  go_wp2_with fail
  refine CI.out.mono ?_
  rintro e w1 ⟨rfl, hb1⟩
  have HB1 : Hid (Below w.heap.size w w1) := HB0.out.trans (hb1.mono HB0.out.size)
  clear hb1 CI
  go_wp2
  go_ret2
  exact ResG.none_ HB1.out

set_option maxRecDepth 100000 in
set_option maxHeartbeats 2000000 in
theorem un_range1 (A : Option Addr) (n c : Nat) (rows : List (List Int)) (cx cy lo hi st : Int) (w : World) (hr : RdG w A n rows) (hn : n ≤ 1000000) (hg : gridE 24 24 rows = 0) (h1 : ¬ ((1 ≤ lo ∧ lo ≤ 24) ∧ 1 ≤ hi ∧ hi ≤ 24)) :
    Calls Tryz.prog 17 #[.agg #[.slice A n c], .agg #[.int .i64 cx, .int .i64 cy, .int .i64 lo, .int .i64 hi, .int .i64 st]] w (ResG w 2 []) := by
  have hb0 : Below w.heap.size w ((w.alloc (.cells #[.slice A n c] 41)).alloc (.cells #[.int .i64 cx, .int .i64 cy, .int .i64 lo, .int .i64 hi, .int .i64 st] 53)) := ((Below.refl _ w).alloc (Nat.le_refl _) _).alloc (by simp) _
  have HNI : Hid (Bk ((w.alloc (.cells #[.slice A n c] 41)).alloc (.cells #[.int .i64 cx, .int .i64 cy, .int .i64 lo, .int .i64 hi, .int .i64 st] 53)) w.heap.size 41 #[.slice A n c]) := (Bk.new w 41 #[.slice A n c]).alloc _
  have HNV : Hid (Bk ((w.alloc (.cells #[.slice A n c] 41)).alloc (.cells #[.int .i64 cx, .int .i64 cy, .int .i64 lo, .int .i64 hi, .int .i64 st] 53)) (w.heap.size + 1) 53 #[.int .i64 cx, .int .i64 cy, .int .i64 lo, .int .i64 hi, .int .i64 st]) := by
    have := Bk.new (w.alloc (.cells #[.slice A n c] 41)) 53 #[.int .i64 cx, .int .i64 cy, .int .i64 lo, .int .i64 hi, .int .i64 st]
    show Bk _ _ _ _
    simpa using this
  have HB0 := Lib.hid hb0
  have CI := Lib.hid (checkImage_any A n c rows _ (hr.below hb0) (by omega))
  rw [hg] at CI
  have CA2 : Hid (∀ W g, W.cell? ⟨g, 0, none⟩ = some (.int .i64 lo) → W.cell? ⟨g, 1, none⟩ = some (.int .i64 hi) → Calls Tryz.prog 45 #[.int .i64 1, .int .i64 24, .slice (some ⟨g, 0, none⟩) 2 2] W fun e w' => e = .returned (.bool false) ∧ W = w') := fun W g k1 k2 => by
    have h := areFrom_any (some ⟨g, 0, none⟩) 2 2 [lo, hi] 1 24 W (lit2 _ _ _ _ k1 k2) (by omega)
    rw [show fromB 1 24 [lo, hi] = false by rw [Bool.eq_false_iff]; intro e; exact h1 (from_both.1 e)] at h
    exact h
  clear h1
  clear hr hb0 hg
  go_enter Tryz.func17, Tryz.ntmps17
  go_wp2_with fail
  refine CI.out.mono ?_
  rintro e w1 ⟨rfl, hb1⟩
  have HB1 : Hid (Below w.heap.size w w1) := HB0.out.trans (hb1.mono HB0.out.size)
  have HNI1 := Lib.hid (HNI.out.later hb1)
  have HNV1 := Lib.hid (HNV.out.later hb1)
  have hz1 : w.heap.size + 2 ≤ w1.heap.size := by have := hb1.size; simp at this; omega
  have i0 : w1.cell? ⟨w.heap.size, 0, none⟩ = some (.slice A n c) := by rw [HNI1.out.cell]; rfl
  have v0 : w1.cell? ⟨w.heap.size + 1, 0, none⟩ = some (.int .i64 cx) := by rw [HNV1.out.cell]; rfl
  have v1 : w1.cell? ⟨w.heap.size + 1, 1, none⟩ = some (.int .i64 cy) := by rw [HNV1.out.cell]; rfl
  have v2 : w1.cell? ⟨w.heap.size + 1, 2, none⟩ = some (.int .i64 lo) := by rw [HNV1.out.cell]; rfl
  have v3 : w1.cell? ⟨w.heap.size + 1, 3, none⟩ = some (.int .i64 hi) := by rw [HNV1.out.cell]; rfl
  have v4 : w1.cell? ⟨w.heap.size + 1, 4, none⟩ = some (.int .i64 st) := by rw [HNV1.out.cell]; rfl
  have x4 := cellA (.cells #[.int .i64 lo, .int .i64 hi] 3) v4
  have y4 := cellA (.cells #[.int .i64 st] 3) x4
  have yi := cellA (.cells #[.int .i64 st] 3) (cellA (.cells #[.int .i64 lo, .int .i64 hi] 3) i0)
  have y0 := cellA (.cells #[.int .i64 st] 3) (cellA (.cells #[.int .i64 lo, .int .i64 hi] 3) v0)
  have y1 := cellA (.cells #[.int .i64 st] 3) (cellA (.cells #[.int .i64 lo, .int .i64 hi] 3) v1)
  have y2 := cellA (.cells #[.int .i64 st] 3) (cellA (.cells #[.int .i64 lo, .int .i64 hi] 3) v2)
  have y3 := cellA (.cells #[.int .i64 st] 3) (cellA (.cells #[.int .i64 lo, .int .i64 hi] 3) v3)
  clear hb1 CI HNI HNV HB0
  go_wp2_with fail
  refine (CA2.out _ _ (by simp [go_sem]) (by simp [go_sem])).mono ?_
  rintro e w' ⟨rfl, rfl⟩
  go_wp2
  go_ret2
  exact ResG.none_ (HB1.out.alloc (by omega) _)

set_option maxRecDepth 100000 in
set_option maxHeartbeats 2000000 in
theorem un_range2 (A : Option Addr) (n c : Nat) (rows : List (List Int)) (cx cy lo hi st : Int) (w : World) (hr : RdG w A n rows) (hn : n ≤ 1000000) (hg : gridE 24 24 rows = 0) (h1 : (1 ≤ lo ∧ lo ≤ 24) ∧ 1 ≤ hi ∧ hi ≤ 24) (h2 : ¬ (1 ≤ st ∧ st ≤ 40)) :
    Calls Tryz.prog 17 #[.agg #[.slice A n c], .agg #[.int .i64 cx, .int .i64 cy, .int .i64 lo, .int .i64 hi, .int .i64 st]] w (ResG w 2 []) := by
  have hb0 : Below w.heap.size w ((w.alloc (.cells #[.slice A n c] 41)).alloc (.cells #[.int .i64 cx, .int .i64 cy, .int .i64 lo, .int .i64 hi, .int .i64 st] 53)) := ((Below.refl _ w).alloc (Nat.le_refl _) _).alloc (by simp) _
  have HNI : Hid (Bk ((w.alloc (.cells #[.slice A n c] 41)).alloc (.cells #[.int .i64 cx, .int .i64 cy, .int .i64 lo, .int .i64 hi, .int .i64 st] 53)) w.heap.size 41 #[.slice A n c]) := (Bk.new w 41 #[.slice A n c]).alloc _
  have HNV : Hid (Bk ((w.alloc (.cells #[.slice A n c] 41)).alloc (.cells #[.int .i64 cx, .int .i64 cy, .int .i64 lo, .int .i64 hi, .int .i64 st] 53)) (w.heap.size + 1) 53 #[.int .i64 cx, .int .i64 cy, .int .i64 lo, .int .i64 hi, .int .i64 st]) := by
    have := Bk.new (w.alloc (.cells #[.slice A n c] 41)) 53 #[.int .i64 cx, .int .i64 cy, .int .i64 lo, .int .i64 hi, .int .i64 st]
    show Bk _ _ _ _
    simpa using this
  have HB0 := Lib.hid hb0
  have CI := Lib.hid (checkImage_any A n c rows _ (hr.below hb0) (by omega))
  rw [hg] at CI
  have CA2 : Hid (∀ W g, W.cell? ⟨g, 0, none⟩ = some (.int .i64 lo) → W.cell? ⟨g, 1, none⟩ = some (.int .i64 hi) → Calls Tryz.prog 45 #[.int .i64 1, .int .i64 24, .slice (some ⟨g, 0, none⟩) 2 2] W fun e w' => e = .returned (.bool true) ∧ W = w') := fun W g k1 k2 => by
    have h := areFrom_any (some ⟨g, 0, none⟩) 2 2 [lo, hi] 1 24 W (lit2 _ _ _ _ k1 k2) (by omega)
    rw [show fromB 1 24 [lo, hi] = true by rw [from_both]; exact h1] at h
    exact h
  have CA1 : Hid (∀ W g, W.cell? ⟨g, 0, none⟩ = some (.int .i64 st) → Calls Tryz.prog 45 #[.int .i64 1, .int .i64 40, .slice (some ⟨g, 0, none⟩) 1 1] W fun e w' => e = .returned (.bool false) ∧ W = w') := fun W g k1 => by
    have h := areFrom_any (some ⟨g, 0, none⟩) 1 1 [st] 1 40 W (lit1 _ _ _ k1) (by omega)
    rw [show fromB 1 40 [st] = false by rw [Bool.eq_false_iff]; intro e; exact h2 (fromB_one.1 e)] at h
    exact h
  clear h1 h2
  clear hr hb0 hg
  go_enter Tryz.func17, Tryz.ntmps17
  go_wp2_with fail
  refine CI.out.mono ?_
  rintro e w1 ⟨rfl, hb1⟩
  have HB1 : Hid (Below w.heap.size w w1) := HB0.out.trans (hb1.mono HB0.out.size)
  have HNI1 := Lib.hid (HNI.out.later hb1)
  have HNV1 := Lib.hid (HNV.out.later hb1)
  have hz1 : w.heap.size + 2 ≤ w1.heap.size := by have := hb1.size; simp at this; omega
  have i0 : w1.cell? ⟨w.heap.size, 0, none⟩ = some (.slice A n c) := by rw [HNI1.out.cell]; rfl
  have v0 : w1.cell? ⟨w.heap.size + 1, 0, none⟩ = some (.int .i64 cx) := by rw [HNV1.out.cell]; rfl
  have v1 : w1.cell? ⟨w.heap.size + 1, 1, none⟩ = some (.int .i64 cy) := by rw [HNV1.out.cell]; rfl
  have v2 : w1.cell? ⟨w.heap.size + 1, 2, none⟩ = some (.int .i64 lo) := by rw [HNV1.out.cell]; rfl
  have v3 : w1.cell? ⟨w.heap.size + 1, 3, none⟩ = some (.int .i64 hi) := by rw [HNV1.out.cell]; rfl
  have v4 : w1.cell? ⟨w.heap.size + 1, 4, none⟩ = some (.int .i64 st) := by rw [HNV1.out.cell]; rfl
  have x4 := cellA (.cells #[.int .i64 lo, .int .i64 hi] 3) v4
  have y4 := cellA (.cells #[.int .i64 st] 3) x4
  have yi := cellA (.cells #[.int .i64 st] 3) (cellA (.cells #[.int .i64 lo, .int .i64 hi] 3) i0)
  have y0 := cellA (.cells #[.int .i64 st] 3) (cellA (.cells #[.int .i64 lo, .int .i64 hi] 3) v0)
  have y1 := cellA (.cells #[.int .i64 st] 3) (cellA (.cells #[.int .i64 lo, .int .i64 hi] 3) v1)
  have y2 := cellA (.cells #[.int .i64 st] 3) (cellA (.cells #[.int .i64 lo, .int .i64 hi] 3) v2)
  have y3 := cellA (.cells #[.int .i64 st] 3) (cellA (.cells #[.int .i64 lo, .int .i64 hi] 3) v3)
  clear hb1 CI HNI HNV HB0
  go_wp2_with fail
  refine (CA2.out _ _ (by simp [go_sem]) (by simp [go_sem])).mono ?_
  rintro e w' ⟨rfl, rfl⟩
  go_wp2_with fail
  refine (CA1.out _ _ ?_).mono ?_
  · simp [go_sem]
  rintro e w' ⟨rfl, rfl⟩
  go_wp2
  go_ret2
  exact ResG.none_ ((HB1.out.alloc (by omega) _).alloc (by simp; omega) _)

set_option maxRecDepth 100000 in
set_option maxHeartbeats 2000000 in
theorem un_order (A : Option Addr) (n c : Nat) (rows : List (List Int)) (cx cy lo hi st : Int) (w : World) (hr : RdG w A n rows) (hn : n ≤ 1000000) (hg : gridE 24 24 rows = 0) (h1 : (1 ≤ lo ∧ lo ≤ 24) ∧ 1 ≤ hi ∧ hi ≤ 24) (h2 : 1 ≤ st ∧ st ≤ 40) (h3 : ¬ lo ≤ hi) :
    Calls Tryz.prog 17 #[.agg #[.slice A n c], .agg #[.int .i64 cx, .int .i64 cy, .int .i64 lo, .int .i64 hi, .int .i64 st]] w (ResG w 9 []) := by
  have hb0 : Below w.heap.size w ((w.alloc (.cells #[.slice A n c] 41)).alloc (.cells #[.int .i64 cx, .int .i64 cy, .int .i64 lo, .int .i64 hi, .int .i64 st] 53)) := ((Below.refl _ w).alloc (Nat.le_refl _) _).alloc (by simp) _
  have HNI : Hid (Bk ((w.alloc (.cells #[.slice A n c] 41)).alloc (.cells #[.int .i64 cx, .int .i64 cy, .int .i64 lo, .int .i64 hi, .int .i64 st] 53)) w.heap.size 41 #[.slice A n c]) := (Bk.new w 41 #[.slice A n c]).alloc _
  have HNV : Hid (Bk ((w.alloc (.cells #[.slice A n c] 41)).alloc (.cells #[.int .i64 cx, .int .i64 cy, .int .i64 lo, .int .i64 hi, .int .i64 st] 53)) (w.heap.size + 1) 53 #[.int .i64 cx, .int .i64 cy, .int .i64 lo, .int .i64 hi, .int .i64 st]) := by
    have := Bk.new (w.alloc (.cells #[.slice A n c] 41)) 53 #[.int .i64 cx, .int .i64 cy, .int .i64 lo, .int .i64 hi, .int .i64 st]
    show Bk _ _ _ _
    simpa using this
  have HB0 := Lib.hid hb0
  have CI := Lib.hid (checkImage_any A n c rows _ (hr.below hb0) (by omega))
  rw [hg] at CI
  have CA2 : Hid (∀ W g, W.cell? ⟨g, 0, none⟩ = some (.int .i64 lo) → W.cell? ⟨g, 1, none⟩ = some (.int .i64 hi) → Calls Tryz.prog 45 #[.int .i64 1, .int .i64 24, .slice (some ⟨g, 0, none⟩) 2 2] W fun e w' => e = .returned (.bool true) ∧ W = w') := fun W g k1 k2 => by
    have h := areFrom_any (some ⟨g, 0, none⟩) 2 2 [lo, hi] 1 24 W (lit2 _ _ _ _ k1 k2) (by omega)
    rw [show fromB 1 24 [lo, hi] = true by rw [from_both]; exact h1] at h
    exact h
  have CA1 : Hid (∀ W g, W.cell? ⟨g, 0, none⟩ = some (.int .i64 st) → Calls Tryz.prog 45 #[.int .i64 1, .int .i64 40, .slice (some ⟨g, 0, none⟩) 1 1] W fun e w' => e = .returned (.bool true) ∧ W = w') := fun W g k1 => by
    have h := areFrom_any (some ⟨g, 0, none⟩) 1 1 [st] 1 40 W (lit1 _ _ _ k1) (by omega)
    rw [show fromB 1 40 [st] = true by rw [fromB_one]; exact h2] at h
    exact h
  obtain ⟨⟨a1, a2⟩, a3, a4⟩ := h1
  obtain ⟨a5, a6⟩ := h2
  have h4 : hi < lo := by omega
  clear h3
  clear hr hb0 hg
  go_enter Tryz.func17, Tryz.ntmps17
  go_wp2_with fail
  refine CI.out.mono ?_
  rintro e w1 ⟨rfl, hb1⟩
  have HB1 : Hid (Below w.heap.size w w1) := HB0.out.trans (hb1.mono HB0.out.size)
  have HNI1 := Lib.hid (HNI.out.later hb1)
  have HNV1 := Lib.hid (HNV.out.later hb1)
  have hz1 : w.heap.size + 2 ≤ w1.heap.size := by have := hb1.size; simp at this; omega
  have i0 : w1.cell? ⟨w.heap.size, 0, none⟩ = some (.slice A n c) := by rw [HNI1.out.cell]; rfl
  have v0 : w1.cell? ⟨w.heap.size + 1, 0, none⟩ = some (.int .i64 cx) := by rw [HNV1.out.cell]; rfl
  have v1 : w1.cell? ⟨w.heap.size + 1, 1, none⟩ = some (.int .i64 cy) := by rw [HNV1.out.cell]; rfl
  have v2 : w1.cell? ⟨w.heap.size + 1, 2, none⟩ = some (.int .i64 lo) := by rw [HNV1.out.cell]; rfl
  have v3 : w1.cell? ⟨w.heap.size + 1, 3, none⟩ = some (.int .i64 hi) := by rw [HNV1.out.cell]; rfl
  have v4 : w1.cell? ⟨w.heap.size + 1, 4, none⟩ = some (.int .i64 st) := by rw [HNV1.out.cell]; rfl
  have x4 := cellA (.cells #[.int .i64 lo, .int .i64 hi] 3) v4
  have y4 := cellA (.cells #[.int .i64 st] 3) x4
  have yi := cellA (.cells #[.int .i64 st] 3) (cellA (.cells #[.int .i64 lo, .int .i64 hi] 3) i0)
  have y0 := cellA (.cells #[.int .i64 st] 3) (cellA (.cells #[.int .i64 lo, .int .i64 hi] 3) v0)
  have y1 := cellA (.cells #[.int .i64 st] 3) (cellA (.cells #[.int .i64 lo, .int .i64 hi] 3) v1)
  have y2 := cellA (.cells #[.int .i64 st] 3) (cellA (.cells #[.int .i64 lo, .int .i64 hi] 3) v2)
  have y3 := cellA (.cells #[.int .i64 st] 3) (cellA (.cells #[.int .i64 lo, .int .i64 hi] 3) v3)
  clear hb1 CI HNI HNV HB0
  go_wp2_with fail
  refine (CA2.out _ _ (by simp [go_sem]) (by simp [go_sem])).mono ?_
  rintro e w' ⟨rfl, rfl⟩
  go_wp2_with fail
  refine (CA1.out _ _ ?_).mono ?_
  · simp [go_sem]
  rintro e w' ⟨rfl, rfl⟩
  go_wp2
  go_ret2
  exact ResG.none_ ((HB1.out.alloc (by omega) _).alloc (by simp; omega) _)

set_option maxRecDepth 100000 in
set_option maxHeartbeats 2000000 in
theorem un_large (A : Option Addr) (n c : Nat) (rows : List (List Int)) (cx cy lo hi st : Int) (w : World) (hr : RdG w A n rows) (hn : n ≤ 1000000) (hg : gridE 24 24 rows = 0) (h1 : (1 ≤ lo ∧ lo ≤ 24) ∧ 1 ≤ hi ∧ hi ≤ 24) (h2 : 1 ≤ st ∧ st ≤ 40) (h3 : lo ≤ hi) (h4 : ¬ hi - lo + 1 ≤ 12) :
    Calls Tryz.prog 17 #[.agg #[.slice A n c], .agg #[.int .i64 cx, .int .i64 cy, .int .i64 lo, .int .i64 hi, .int .i64 st]] w (ResG w 8 []) := by
  have hb0 : Below w.heap.size w ((w.alloc (.cells #[.slice A n c] 41)).alloc (.cells #[.int .i64 cx, .int .i64 cy, .int .i64 lo, .int .i64 hi, .int .i64 st] 53)) := ((Below.refl _ w).alloc (Nat.le_refl _) _).alloc (by simp) _
  have HNI : Hid (Bk ((w.alloc (.cells #[.slice A n c] 41)).alloc (.cells #[.int .i64 cx, .int .i64 cy, .int .i64 lo, .int .i64 hi, .int .i64 st] 53)) w.heap.size 41 #[.slice A n c]) := (Bk.new w 41 #[.slice A n c]).alloc _
  have HNV : Hid (Bk ((w.alloc (.cells #[.slice A n c] 41)).alloc (.cells #[.int .i64 cx, .int .i64 cy, .int .i64 lo, .int .i64 hi, .int .i64 st] 53)) (w.heap.size + 1) 53 #[.int .i64 cx, .int .i64 cy, .int .i64 lo, .int .i64 hi, .int .i64 st]) := by
    have := Bk.new (w.alloc (.cells #[.slice A n c] 41)) 53 #[.int .i64 cx, .int .i64 cy, .int .i64 lo, .int .i64 hi, .int .i64 st]
    show Bk _ _ _ _
    simpa using this
  have HB0 := Lib.hid hb0
  have CI := Lib.hid (checkImage_any A n c rows _ (hr.below hb0) (by omega))
  rw [hg] at CI
  have CA2 : Hid (∀ W g, W.cell? ⟨g, 0, none⟩ = some (.int .i64 lo) → W.cell? ⟨g, 1, none⟩ = some (.int .i64 hi) → Calls Tryz.prog 45 #[.int .i64 1, .int .i64 24, .slice (some ⟨g, 0, none⟩) 2 2] W fun e w' => e = .returned (.bool true) ∧ W = w') := fun W g k1 k2 => by
    have h := areFrom_any (some ⟨g, 0, none⟩) 2 2 [lo, hi] 1 24 W (lit2 _ _ _ _ k1 k2) (by omega)
    rw [show fromB 1 24 [lo, hi] = true by rw [from_both]; exact h1] at h
    exact h
  have CA1 : Hid (∀ W g, W.cell? ⟨g, 0, none⟩ = some (.int .i64 st) → Calls Tryz.prog 45 #[.int .i64 1, .int .i64 40, .slice (some ⟨g, 0, none⟩) 1 1] W fun e w' => e = .returned (.bool true) ∧ W = w') := fun W g k1 => by
    have h := areFrom_any (some ⟨g, 0, none⟩) 1 1 [st] 1 40 W (lit1 _ _ _ k1) (by omega)
    rw [show fromB 1 40 [st] = true by rw [fromB_one]; exact h2] at h
    exact h
  obtain ⟨⟨a1, a2⟩, a3, a4⟩ := h1
  obtain ⟨a5, a6⟩ := h2
  have h5 : ¬ hi < lo := by omega
  have h6 : 12 < hi - lo + 1 := by omega
  clear h3 h4
  clear hr hb0 hg
  go_enter Tryz.func17, Tryz.ntmps17
  go_wp2_with fail
  refine CI.out.mono ?_
  rintro e w1 ⟨rfl, hb1⟩
  have HB1 : Hid (Below w.heap.size w w1) := HB0.out.trans (hb1.mono HB0.out.size)
  have HNI1 := Lib.hid (HNI.out.later hb1)
  have HNV1 := Lib.hid (HNV.out.later hb1)
  have hz1 : w.heap.size + 2 ≤ w1.heap.size := by have := hb1.size; simp at this; omega
  have i0 : w1.cell? ⟨w.heap.size, 0, none⟩ = some (.slice A n c) := by rw [HNI1.out.cell]; rfl
  have v0 : w1.cell? ⟨w.heap.size + 1, 0, none⟩ = some (.int .i64 cx) := by rw [HNV1.out.cell]; rfl
  have v1 : w1.cell? ⟨w.heap.size + 1, 1, none⟩ = some (.int .i64 cy) := by rw [HNV1.out.cell]; rfl
  have v2 : w1.cell? ⟨w.heap.size + 1, 2, none⟩ = some (.int .i64 lo) := by rw [HNV1.out.cell]; rfl
  have v3 : w1.cell? ⟨w.heap.size + 1, 3, none⟩ = some (.int .i64 hi) := by rw [HNV1.out.cell]; rfl
  have v4 : w1.cell? ⟨w.heap.size + 1, 4, none⟩ = some (.int .i64 st) := by rw [HNV1.out.cell]; rfl
  have x4 := cellA (.cells #[.int .i64 lo, .int .i64 hi] 3) v4
  have y4 := cellA (.cells #[.int .i64 st] 3) x4
  have yi := cellA (.cells #[.int .i64 st] 3) (cellA (.cells #[.int .i64 lo, .int .i64 hi] 3) i0)
  have y0 := cellA (.cells #[.int .i64 st] 3) (cellA (.cells #[.int .i64 lo, .int .i64 hi] 3) v0)
  have y1 := cellA (.cells #[.int .i64 st] 3) (cellA (.cells #[.int .i64 lo, .int .i64 hi] 3) v1)
  have y2 := cellA (.cells #[.int .i64 st] 3) (cellA (.cells #[.int .i64 lo, .int .i64 hi] 3) v2)
  have y3 := cellA (.cells #[.int .i64 st] 3) (cellA (.cells #[.int .i64 lo, .int .i64 hi] 3) v3)
  clear hb1 CI HNI HNV HB0
  go_wp2_with fail
  refine (CA2.out _ _ (by simp [go_sem]) (by simp [go_sem])).mono ?_
  rintro e w' ⟨rfl, rfl⟩
  go_wp2_with fail
  refine (CA1.out _ _ ?_).mono ?_
  · simp [go_sem]
  rintro e w' ⟨rfl, rfl⟩
  go_wp2
  go_ret2
  exact ResG.none_ ((HB1.out.alloc (by omega) _).alloc (by simp; omega) _)

set_option maxRecDepth 100000 in
set_option maxHeartbeats 2000000 in
theorem un_break (ad : Addr) (n c m c' : Nat) (B : Option Addr) (rows : List (List Int)) (cx cy lo hi st : Int) (w : World) (hr : RdG w (some ad) n rows) (hn : 0 < n ∧ n ≤ 24) (hm : 0 < m ∧ m ≤ 24) (hck : CellAt w ad (.slice B m c')) (hlm : (rows.getD 0 []).length = m) (hg : gridE 24 24 rows = 0) (h1 : (1 ≤ lo ∧ lo ≤ 24) ∧ 1 ≤ hi ∧ hi ≤ 24) (h2 : 1 ≤ st ∧ st ≤ 40) (h3 : lo ≤ hi) (h4 : hi - lo + 1 ≤ 12) (hhb : hasB rows cx cy hi = false) :
    Calls Tryz.prog 17 #[.agg #[.slice (some ad) n c], .agg #[.int .i64 cx, .int .i64 cy, .int .i64 lo, .int .i64 hi, .int .i64 st]] w (ResG w 23 []) := by
  have hb0 : Below w.heap.size w ((w.alloc (.cells #[.slice (some ad) n c] 41)).alloc (.cells #[.int .i64 cx, .int .i64 cy, .int .i64 lo, .int .i64 hi, .int .i64 st] 53)) := ((Below.refl _ w).alloc (Nat.le_refl _) _).alloc (by simp) _
  have HNI : Hid (Bk ((w.alloc (.cells #[.slice (some ad) n c] 41)).alloc (.cells #[.int .i64 cx, .int .i64 cy, .int .i64 lo, .int .i64 hi, .int .i64 st] 53)) w.heap.size 41 #[.slice (some ad) n c]) := (Bk.new w 41 #[.slice (some ad) n c]).alloc _
  have HNV : Hid (Bk ((w.alloc (.cells #[.slice (some ad) n c] 41)).alloc (.cells #[.int .i64 cx, .int .i64 cy, .int .i64 lo, .int .i64 hi, .int .i64 st] 53)) (w.heap.size + 1) 53 #[.int .i64 cx, .int .i64 cy, .int .i64 lo, .int .i64 hi, .int .i64 st]) := by
    have := Bk.new (w.alloc (.cells #[.slice (some ad) n c] 41)) 53 #[.int .i64 cx, .int .i64 cy, .int .i64 lo, .int .i64 hi, .int .i64 st]
    show Bk _ _ _ _
    simpa using this
  have HB0 := Lib.hid hb0
  have CI := Lib.hid (checkImage_any (some ad) n c rows _ (hr.below hb0) (by omega))
  rw [hg] at CI
  have CA2 : Hid (∀ W g, W.cell? ⟨g, 0, none⟩ = some (.int .i64 lo) → W.cell? ⟨g, 1, none⟩ = some (.int .i64 hi) → Calls Tryz.prog 45 #[.int .i64 1, .int .i64 24, .slice (some ⟨g, 0, none⟩) 2 2] W fun e w' => e = .returned (.bool true) ∧ W = w') := fun W g k1 k2 => by
    have h := areFrom_any (some ⟨g, 0, none⟩) 2 2 [lo, hi] 1 24 W (lit2 _ _ _ _ k1 k2) (by omega)
    rw [show fromB 1 24 [lo, hi] = true by rw [from_both]; exact h1] at h
    exact h
  have CA1 : Hid (∀ W g, W.cell? ⟨g, 0, none⟩ = some (.int .i64 st) → Calls Tryz.prog 45 #[.int .i64 1, .int .i64 40, .slice (some ⟨g, 0, none⟩) 1 1] W fun e w' => e = .returned (.bool true) ∧ W = w') := fun W g k1 => by
    have h := areFrom_any (some ⟨g, 0, none⟩) 1 1 [st] 1 40 W (lit1 _ _ _ k1) (by omega)
    rw [show fromB 1 40 [st] = true by rw [fromB_one]; exact h2] at h
    exact h
  have CH : Hid (∀ W, CellAt W ad (.slice B m c') → Calls Tryz.prog 46 #[.agg #[.slice (some ad) n c], .agg #[.int .i64 cx, .int .i64 cy], .int .i64 hi] W fun e w' => e = .returned (.bool false) ∧ Below W.heap.size W w') := fun W h => by
    have h' := hasRing_any ad n c m c' B rows cx cy hi W h hn hm (by omega) hr.1 hlm
    rw [hhb] at h'
    exact h'
  have HCK := Lib.hid (hck.below hb0)
  obtain ⟨⟨a1, a2⟩, a3, a4⟩ := h1
  obtain ⟨a5, a6⟩ := h2
  have h5 : ¬ hi < lo := by omega
  have h6 : ¬ 12 < hi - lo + 1 := by omega
  clear hr hb0 hg h3 h4 hck hlm
  go_enter Tryz.func17, Tryz.ntmps17
  go_wp2_with fail
  refine CI.out.mono ?_
  rintro e w1 ⟨rfl, hb1⟩
  have HB1 : Hid (Below w.heap.size w w1) := HB0.out.trans (hb1.mono HB0.out.size)
  have HNI1 := Lib.hid (HNI.out.later hb1)
  have HNV1 := Lib.hid (HNV.out.later hb1)
  have hz1 : w.heap.size + 2 ≤ w1.heap.size := by have := hb1.size; simp at this; omega
  have i0 : w1.cell? ⟨w.heap.size, 0, none⟩ = some (.slice (some ad) n c) := by rw [HNI1.out.cell]; rfl
  have v0 : w1.cell? ⟨w.heap.size + 1, 0, none⟩ = some (.int .i64 cx) := by rw [HNV1.out.cell]; rfl
  have v1 : w1.cell? ⟨w.heap.size + 1, 1, none⟩ = some (.int .i64 cy) := by rw [HNV1.out.cell]; rfl
  have v2 : w1.cell? ⟨w.heap.size + 1, 2, none⟩ = some (.int .i64 lo) := by rw [HNV1.out.cell]; rfl
  have v3 : w1.cell? ⟨w.heap.size + 1, 3, none⟩ = some (.int .i64 hi) := by rw [HNV1.out.cell]; rfl
  have v4 : w1.cell? ⟨w.heap.size + 1, 4, none⟩ = some (.int .i64 st) := by rw [HNV1.out.cell]; rfl
  have x4 := cellA (.cells #[.int .i64 lo, .int .i64 hi] 3) v4
  have y4 := cellA (.cells #[.int .i64 st] 3) x4
  have yi := cellA (.cells #[.int .i64 st] 3) (cellA (.cells #[.int .i64 lo, .int .i64 hi] 3) i0)
  have y0 := cellA (.cells #[.int .i64 st] 3) (cellA (.cells #[.int .i64 lo, .int .i64 hi] 3) v0)
  have y1 := cellA (.cells #[.int .i64 st] 3) (cellA (.cells #[.int .i64 lo, .int .i64 hi] 3) v1)
  have y2 := cellA (.cells #[.int .i64 st] 3) (cellA (.cells #[.int .i64 lo, .int .i64 hi] 3) v2)
  have y3 := cellA (.cells #[.int .i64 st] 3) (cellA (.cells #[.int .i64 lo, .int .i64 hi] 3) v3)
  go_wp2_with fail
  refine (CA2.out _ _ (by simp [go_sem]) (by simp [go_sem])).mono ?_
  rintro e w' ⟨rfl, rfl⟩
  go_wp2_with fail
  refine (CA1.out _ _ ?_).mono ?_
  · simp [go_sem]
  rintro e w' ⟨rfl, rfl⟩
  have HCK2 := Lib.hid ((HCK.out.below hb1).below (((Below.refl _ w1).alloc (Nat.le_refl _) (.cells #[.int .i64 lo, .int .i64 hi] 3)).alloc (by simp) (.cells #[.int .i64 st] 3)))
  clear hb1 CI HNI HNV HB0
  go_wp2_with fail
  refine (CH.out _ HCK2.out).mono ?_
  rintro e w3 ⟨rfl, hb3⟩
  have HB2 : Hid (Below w.heap.size w ((w1.alloc (.cells #[.int .i64 lo, .int .i64 hi] 3)).alloc (.cells #[.int .i64 st] 3))) := (HB1.out.alloc (by omega) _).alloc (by simp; omega) _
  have HB3 : Hid (Below w.heap.size w w3) := HB2.out.trans (hb3.mono HB2.out.size)
  clear hb3 CH HCK HCK2
  go_wp2
  go_ret2
  exact ResG.none_ HB3.out

end Go.Proofs.YtjjflbnopphciaaGreatDoor

