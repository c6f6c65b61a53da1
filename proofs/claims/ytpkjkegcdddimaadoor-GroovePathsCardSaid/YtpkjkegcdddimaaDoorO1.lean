import Derived.Test.YtpkjkegcdddimaaDoorO0
import Derived.Test.YtpkjkegcdddimaaDoorGK
import Derived.Test.YtpkjkegcdddimaaDoorT2
import Derived.Maps.AppendAt
namespace Go.Proofs.YtpkjkegcdddimaaDoor
open Go.RowKit

/-- Rows of the call's own, no two of which share memory. -/
def RowsO (W : World) (base : Nat) (L : List (Value × List Int)) : Prop :=
  (∀ p ∈ L, W.ownsRow base 3 1 p.1 p.2.length (p.2.map (Value.int .i64))) ∧ L.Pairwise fun p q => ∀ g, p.1.ownBlock = some g → q.1.ownBlock ≠ some g
theorem RowsO.alloc {W : World} {base : Nat} {L : List (Value × List Int)} (h : RowsO W base L) (o : Obj) : RowsO (W.alloc o) base L := ⟨fun p hp => (h.1 p hp).alloc o, h.2⟩
theorem RowsO.drew {W : World} {base : Nat} {L : List (Value × List Int)} (h : RowsO W base L) : RowsO W.drew base L := ⟨fun p hp => (h.1 p hp).drew, h.2⟩
theorem RowsO.step {W W' : World} {base : Nat} {pre post : List (Value × List Int)} {v v' : Value} {xs : List Int} {u : Int} (h : RowsO W base (pre ++ (v, xs) :: post))
    (ho : W'.ownsRow base 3 1 v' (xs.length + 1) (xs.map (Value.int .i64) ++ [.int .i64 u])) (hg : W.grownBy W' v.ownBlock) (hat : v'.ownBlock = v.ownBlock ∨ v'.ownBlock = some W.heap.size) : RowsO W' base (pre ++ (v', xs ++ [u]) :: post) := by
  obtain ⟨h1, h2⟩ := h
  rw [List.pairwise_append] at h2
  obtain ⟨hp, hc, hx⟩ := h2
  rw [List.pairwise_cons] at hc
  obtain ⟨hc1, hc2⟩ := hc
  have hv : W.ownsRow base 3 1 v xs.length (xs.map (Value.int .i64)) := h1 (v, xs) (by simp)
  have key : ∀ p : Value × List Int, p ∈ pre ∨ p ∈ post → W.ownsRow base 3 1 p.1 p.2.length (p.2.map (Value.int .i64)) ∧ (∀ g, p.1.ownBlock = some g → v.ownBlock ≠ some g) := by
    intro p hpp
    refine ⟨h1 p (by rcases hpp with h | h <;> simp [h]), fun g hg1 hg2 => ?_⟩
    rcases hpp with h | h
    · exact hx p h (v, xs) (List.mem_cons_self ..) g hg1 hg2
    · exact hc1 p h g hg2 hg1
  have kept : ∀ p : Value × List Int, p ∈ pre ∨ p ∈ post → W'.ownsRow base 3 1 p.1 p.2.length (p.2.map (Value.int .i64)) := by
    intro p hpp
    obtain ⟨k1, k2⟩ := key p hpp
    refine k1.kept hg ?_
    cases hb : p.1.ownBlock with
    | none => exact .inl rfl
    | some g => exact .inr fun e => k2 g hb e.symm
  have apart : ∀ p : Value × List Int, p ∈ pre ∨ p ∈ post → ∀ g, p.1.ownBlock = some g → v'.ownBlock ≠ some g := by
    intro p hpp g hb e
    obtain ⟨k1, k2⟩ := key p hpp
    rcases hat with h | h
    · rw [h] at e; exact k2 g hb e
    · rw [h] at e
      have := (k1.lt g hb).2
      injection e with e
      omega
  refine ⟨?_, ?_⟩
  · intro p hpm
    rcases List.mem_append.1 hpm with h | h
    · exact kept p (Or.inl h)
    · rcases List.mem_cons.1 h with rfl | h
      · show W'.ownsRow base 3 1 v' (xs ++ [u]).length ((xs ++ [u]).map (Value.int .i64))
        rw [List.map_append, List.length_append]
        exact ho
      · exact kept p (Or.inr h)
  · rw [List.pairwise_append]
    refine ⟨hp, ?_, ?_⟩
    · rw [List.pairwise_cons]
      refine ⟨fun q hq g hg1 hg2 => apart q (Or.inr hq) g hg2 hg1, hc2⟩
    · intro p hpp q hq
      rcases List.mem_cons.1 hq with rfl | hq
      · exact fun g hb => apart p (Or.inl hpp) g hb
      · exact hx p hpp q (List.mem_cons_of_mem _ hq)
theorem RowsO.later {W W' : World} {base : Nat} {L : List (Value × List Int)} (h : RowsO W base L) (hb : Below W.heap.size W W') : RowsO W' base L := ⟨fun p hp => ownLater (h.1 p hp) hb, h.2⟩
theorem RowsO.head {W : World} {base : Nat} {v : Value} {xs : List Int} {L : List (Value × List Int)} (h : RowsO W base ((v, xs) :: L)) : W.ownsRow base 3 1 v xs.length (xs.map (Value.int .i64)) := h.1 (v, xs) (List.mem_cons_self ..)
theorem own_apart2 {w : World} {base base' : Nat} {v p : Value} {n k : Nat} {xs vs : List Value} (h : w.ownsRow base 3 1 v n xs) (h' : w.ownsRow base' 28 1 p k vs) : p.ownBlock = none ∨ p.ownBlock ≠ v.ownBlock := by
  rcases own_apart h h' with e | e
  · rw [e]
    cases hp : p.ownBlock with
    | none => exact .inl rfl
    | some g => exact .inr (by simp)
  · exact .inr fun e' => e e'.symm
/-- A list of slices grows: rows of integers stay. -/
theorem RowsO.kept {W W' : World} {base base' : Nat} {L : List (Value × List Int)} {p : Value} {k : Nat} {vs : List Value} (h : RowsO W base L) (hp : W.ownsRow base' 28 1 p k vs) (hg : W.grownBy W' p.ownBlock) : RowsO W' base L :=
  ⟨fun q hq => (h.1 q hq).kept hg (own_apart (h.1 q hq) hp), h.2⟩
/-- One row more, made since. -/
theorem RowsO.snoc {W W' : World} {base : Nat} {L : List (Value × List Int)} {v : Value} {xs : List Int} (h : RowsO W base L) (hb : Below W.heap.size W W') (ho : W'.ownsRow W.heap.size 3 1 v xs.length (xs.map (Value.int .i64))) (hbase : base ≤ W.heap.size) : RowsO W' base (L ++ [(v, xs)]) := by
  refine ⟨fun p hp => ?_, ?_⟩
  · rcases List.mem_append.1 hp with hp | hp
    · exact ownLater (h.1 p hp) hb
    · rw [List.mem_singleton] at hp
      subst hp
      exact ownMono ho hbase
  · rw [List.pairwise_append]
    refine ⟨h.2, List.pairwise_singleton _ _, fun p hp q hq g hg hq2 => ?_⟩
    rw [List.mem_singleton] at hq
    subst hq
    have h1 := ((h.1 p hp).lt g hg).2
    have h2 := (ho.lt g hq2).1
    omega
theorem own_formO {w : World} {base size n : Nat} {t : TypeId} {v : Value} {xs : List Value} (h : w.ownsRow base t size v n xs) : ∃ A cap, v = .slice A n cap ∧ (0 < n → ∃ g, A = some ⟨g, 0, none⟩) := by
  rcases h.2 with ⟨rfl, rfl⟩ | ⟨g, cap, cur, rfl, _⟩
  · exact ⟨none, 0, rfl, fun h => absurd h (by omega)⟩
  · exact ⟨_, cap, rfl, fun _ => ⟨g, rfl⟩⟩
/-- What a row has so far. -/
def NxR (W : World) (base : Nat) (pv nv : Value) (q : Nat) (PL : List (List Int)) (CL : List Int) : Prop :=
  ∃ L : List (Value × List Int), RowsO W base ((nv, CL) :: L) ∧ W.ownsRow base 28 1 pv q (L.map Prod.fst) ∧ L.map Prod.snd = PL ∧ CL.length = q
/-- .. reads as lists. -/
theorem NxR.read {W : World} {base : Nat} {pv nv : Value} {q : Nat} {PL : List (List Int)} {CL : List Int} (h : NxR W base pv nv q PL CL) (hq : q ≤ 1000) (hl : ∀ r ∈ PL, r.length ≤ 1000) : (∃ A c, pv = .slice A q c ∧ RdGN W A q PL) ∧ ∃ A c, nv = .slice A q c ∧ RdI W A q CL := by
  obtain ⟨L, h1, h2, h3, h4⟩ := h
  have hll : L.length = q := by have := h2.1; simpa using this
  refine ⟨?_, ?_⟩
  · have hlt := h2.lt
    have hcs : ∀ {g : Nat}, pv.ownBlock = some g → ∀ j u, (L.map Prod.fst)[j]? = some u → W.cell? ((⟨g, 0, none⟩ : Addr).add j) = some u := fun hg => h2.cells hg
    have hpl : PL.length = q := by rw [← h3, List.length_map, hll]
    rcases h2.2 with ⟨rfl, rfl⟩ | ⟨g, cap, cur, rfl, _⟩
    · exact ⟨none, 0, rfl, hpl, fun h0 => absurd h0 (by omega)⟩
    · refine ⟨_, cap, rfl, hpl, fun _ => ⟨_, rfl, (hlt g rfl).2, fun j hj => ?_⟩⟩
      have hj2 : j < L.length := by omega
      have ho := h1.1 L[j] (List.mem_cons_of_mem _ (List.getElem_mem hj2))
      obtain ⟨B, c, e, _, hr, hn⟩ := rd_ownN ho
      have e2 : PL.getD j [] = L[j].2 := by rw [← h3, List.getD_eq_getElem?_getD, List.getElem?_map, List.getElem?_eq_getElem hj2]; rfl
      have hle : L[j].2.length ≤ 1000 := hl _ (by rw [← h3]; exact List.mem_map_of_mem (List.getElem_mem hj2))
      refine ⟨B, _, c, hcs rfl j _ (by rw [List.getElem?_map, List.getElem?_eq_getElem hj2, Option.map_some, e]), by rw [e2]; exact hr, by omega, hn⟩
  · have h5 := h1.head
    rw [h4] at h5
    obtain ⟨A, c, e, _, hr, _⟩ := rd_ownN h5
    exact ⟨A, c, e, hr⟩
/-- The cells of rows, in each later world. -/
def RowsM (w : World) (ad : Addr) (n m : Nat) (rows : List (List Int)) : Prop := ∀ j, j < n → ∃ adj cj, ∀ W, Below w.heap.size w W → W.cell? (ad.add j) = some (.slice (some adj) m cj) ∧ ∀ i, i < m → W.cell? (adj.add i) = some (.int .i64 (cellV rows j i))
theorem rows_m {w : World} {ad : Addr} {n m : Nat} {rows : List (List Int)} (h : RdGN w (some ad) n rows) (h0 : 0 < n) (hm : 0 < m) (hs : ∀ r ∈ rows, r.length = m) : RowsM w ad n m rows := by
  intro j hj
  obtain ⟨ad', e, hlt, hc⟩ := h.2 h0
  injection e with e
  subst e
  obtain ⟨B, k, c, h1, h2, _⟩ := hc j hj
  obtain rfl : k = m := by rw [← h2.1]; exact hs _ (getD_inO rows j (by rw [h.1]; exact hj))
  obtain ⟨adj, rfl, hlj, hcj⟩ := h2.2 hm
  exact ⟨adj, c, fun W hb => ⟨(hb.cell (by rw [addBlock]; exact hlt)).trans h1, fun i hi => (hb.cell (by rw [addBlock]; exact hlj)).trans (hcj i hi)⟩⟩
theorem range_getD {α : Type} (f : Nat → α) (k c : Nat) (d : α) (h : c < k) : ((List.range k).map f).getD c d = f c := by
  simp [List.getD_eq_getElem?_getD, h]
theorem range_snoc {α : Type} (f : Nat → α) (k : Nat) : (List.range (k + 1)).map f = (List.range k).map f ++ [f k] := by simp [List.range_succ]
theorem tailP_length (X : List (List Int)) (b : Int) (m : Nat) : ∀ k j c, (tailP X b m k j c).length = k + 1
  | 0, _, _ => rfl
  | k + 1, j, c => by
    show (tailP X b m k (j + 1) _).length + 1 = _
    rw [tailP_length X b m k]
theorem pathR_length (X : List (List Int)) (b : Int) (m k j c : Nat) : (pathR X b m k j c).length ≤ k + 1 := by
  unfold pathR
  split
  · rw [tailP_length]; exact Nat.le_refl _
  · simp

set_option maxRecDepth 100000 in
set_option maxHeartbeats 8000000 in
theorem pathFrom_any (ad : Addr) (n c : Nat) (rows : List (List Int)) (b : Int) (m first : Nat) (last : Int) (w : World) (hr : RdGN w (some ad) n rows) (ht : TkOk rows b n m) (may : Nat → Bool) (hmay : ∀ q, may q = (decide (last < 0) || decide ((q : Int) = last))) (hf : first < m) (X : List (List Int)) (hX : restsL may b m rows = X) :
    Calls Tryd.prog 49 #[.agg #[.slice (some ad) n c, .int .i64 b], .int .i64 (first : Int), .int .i64 last] w fun e w' => (∃ A' c', e = .returned (.tuple #[.slice A' (pathR X b m (n - 1) 0 first).length c', .int .i64 (costR X 0 first), .bool (decide (0 ≤ costR X 0 first))]) ∧ RdI w' A' (pathR X b m (n - 1) 0 first).length (pathR X b m (n - 1) 0 first)) ∧ Below w.heap.size w w' := by
  obtain ⟨W1, hW1⟩ : ∃ W, w.alloc (.cells #[.slice (some ad) n c, .int .i64 b] 58) = W := ⟨_, rfl⟩
  have hb1 : Below w.heap.size w W1 := by rw [← hW1]; exact (Below.refl _ _).alloc (Nat.le_refl _) _
  have k0 : Bk W1 w.heap.size 58 #[.slice (some ad) n c, .int .i64 b] := by rw [← hW1]; exact Bk.new _ _ _
  have HT : Hid (∀ W, Below W1.heap.size W1 W → W.cell? ⟨w.heap.size, 0, none⟩ = some (.slice (some ad) n c) ∧ W.cell? ⟨w.heap.size, 1, none⟩ = some (.int .i64 b)) := Lib.hid (fun W hb => by have h := k0.later hb; exact ⟨by rw [h.cell]; rfl, by rw [h.cell]; rfl⟩)
  have HRM := Lib.hid (rows_m (hr.below hb1) ht.n0 ht.m0 (fun r hr => (ht.row r hr).1))
  have HB1 := Lib.hid hb1
  have HVB : Hid (∀ j q, j < n → q < m → 0 ≤ cellV rows j q ∧ cellV rows j q ≤ 255) := Lib.hid (fun j q hj hq => cell_row ht hj hq)
  have hbb := ht.bb
  have hn0 := ht.n0
  have hn40 := ht.n40
  have hm0 := ht.m0
  have hm12 := ht.m12
  obtain ⟨i0, hi0, hz0, hz1, hz2⟩ := info_parts intInfo'
  obtain ⟨i1, hi1, hy0, hy1, hy2⟩ := info_parts sliceInfo
  obtain ⟨a0, ca0, h00⟩ := HRM.out 0 hn0
  have e0 := (h00 _ (Below.refl _ _)).1
  rw [addZ] at e0
  have hnI : (0 : Int) < (n : Int) := by omega
  have wn0 : IntKind.i64.wrap ((n : Int) - 1) = (n : Int) - 1 := IntWalk.i64_in _ (by omega)
  have c00 := (HT.out _ (Below.refl _ _)).1
  have addZ0 : ad.add 0 = ad := addZ ad
  clear hr hb1 k0 h00
  go_enter Tryd.func49, Tryd.ntmps49
  go_upto_region 1 with (fail)
  try rw [hW1]
  clear hW1
  go_wp2
  go_loopw [10, 11, 12] (fun pv cv iv wr => ∃ k : Nat, k ≤ n ∧ iv = .int .i64 ((n : Int) - 1 - (k : Int)) ∧ Hid (k = 0 ∧ pv = .slice none 0 0 ∧ cv = .slice none 0 0 ∨ 0 < k ∧ (∃ A c, pv = .slice A m c ∧ RdGN wr A m ((List.range m).map (pathR X b m (k - 1) (n - k)))) ∧ ∃ A c, cv = .slice A m c ∧ RdI wr A m ((List.range m).map (costR X (n - k)))) ∧ Hid (Below W1.heap.size W1 wr)) (fun _ _ iv _ => (intOf iv + 1).toNat)
  case atStart => exact ⟨0, Nat.zero_le _, by simp, .inl ⟨rfl, rfl, rfl⟩, Below.refl _ _⟩
  case round =>
    obtain ⟨k, hk, rfl, HP, HB⟩ := hrel
    obtain ⟨wo, hwo⟩ : ∃ W, W = wr := ⟨_, rfl⟩
    subst hwo
    by_cases hlt : k < n
    · obtain ⟨j, hj⟩ : ∃ j, j + k + 1 = n := ⟨n - 1 - k, by omega⟩
      rw [show (n : Int) - 1 - (k : Int) = (j : Int) by omega]
      have hjn : j < n := by omega
      have hj0 : (0 : Int) ≤ (j : Int) := by omega
      have hjI : (j : Int) < (n : Int) := by omega
      have wj1 : IntKind.i64.wrap ((j : Int) - 1) = (j : Int) - 1 := IntWalk.i64_in _ (by omega)
      obtain ⟨base, hbase⟩ : ∃ g, wo.heap.size = g := ⟨_, rfl⟩
      have HBE := Lib.hid hbase
      obtain ⟨aj, cj, hjj⟩ := HRM.out j hjn
      have HJ := Lib.hid hjj
      clear hbase hjj
      go_wp2
      go_loopw [13, 14, 15] (fun np nc iv wq => ∃ q : Nat, q ≤ m ∧ iv = .int .i64 (q : Int) ∧ Hid (NxR wq base np nc q ((List.range q).map (pathR X b m k j)) ((List.range q).map (costR X j))) ∧ Hid (Below base wo wq)) (fun _ _ iv _ => m - (intOf iv).toNat)
      case atStart => exact ⟨0, Nat.zero_le _, rfl, ⟨[], ⟨fun p hp => by rw [List.mem_singleton] at hp; subst hp; exact World.ownsRow_nil _ _ _ _, List.pairwise_singleton _ _⟩, World.ownsRow_nil _ _ _ _, rfl, rfl⟩, by rw [← HBE.out]; exact Below.refl _ _⟩
      case round =>
        obtain ⟨q, hq, rfl, HNX, HBq⟩ := hrel
        obtain ⟨wq, hwq⟩ : ∃ W, W = wr := ⟨_, rfl⟩
        subst hwq
        have hB1q : Below W1.heap.size W1 wq := HB.out.trans (HBq.out.mono (by have := HB.out.size; have := HBE.out; omega))
        have c0 := (HT.out _ hB1q).1
        have wn1 : IntKind.i64.wrap ((n : Int) - 1) = (n : Int) - 1 := IntWalk.i64_in _ (by omega)
        by_cases hltq : q < m
        · have hqI : (q : Int) < (m : Int) := by omega
          have hq100 : q ≤ 100 := by omega
          have HSQ : Hid (∀ W, Below wq.heap.size wq W → W.cell? ⟨w.heap.size, 0, none⟩ = some (.slice (some ad) n c) ∧ W.cell? (ad.add j) = some (.slice (some aj) m cj) ∧ W.cell? (aj.add q) = some (.int .i64 (cellV rows j q))) := Lib.hid (fun W hb => by
            have h1 := hB1q.trans (hb.mono hB1q.size)
            have h2 := HJ.out W h1
            exact ⟨(HT.out W h1).1, h2.1, h2.2 q hltq⟩)
          have hvb := HVB.out j q hjn hltq
          obtain ⟨vv, hvv⟩ : ∃ z, cellV rows j q = z := ⟨_, rfl⟩
          rw [hvv] at HSQ hvb
          clear hB1q
          by_cases hk0 : k = 0
          · have hjl : ((j : Int) == (n : Int) - 1) = true := by simp; omega
            have hjl2 : (j : Int) = (n : Int) - 1 := by omega
            have HLR : Hid (∀ q, q < m → costR X j q = (if may q = true then cellV rows j q else -1) ∧ pathR X b m 0 j q = (if may q = true then [(q : Int)] else [])) := Lib.hid (fun q hq => by rw [← hX]; exact last_row may ht (by omega) hq)
            have hmay2 := hmay q
            clear hjl2
            by_cases hl0 : last < 0
            · have hmq : may q = true := by rw [hmay2, decide_eq_true hl0]; rfl
              clear hmay2
              have HBd := Lib.hid ((Below.refl wq.heap.size wq).drew)
              have hlr := HLR.out q hltq
              rw [if_pos hmq, if_pos hmq, hvv] at hlr
              have HCZ : Hid (costR X j q = vv) := Lib.hid hlr.1
              have hbl := hlr.2
              clear hlr hmq
              go_wp2_with fail
              refine wp_region_held_drew (S := (fun W : World => W.cell? ⟨w.heap.size, 0, none⟩ = some (.slice (some ad) n c) ∧ W.cell? (ad.add j) = some (.slice (some aj) m cj) ∧ W.cell? (aj.add q) = some (.int .i64 vv))) (by kernel_rfl) ?_ ?_
              · exact HSQ.out _ HBd.out
              intro hHeld
              refine wpAnyH_take (i := 0) (v := ?_) rfl (by kernel_rfl) (by kernel_rfl) (by kernel_rfl) (fun _ _ _ h => h) (Or.inl ⟨by rfl, ?_⟩) (by assumption) ?_
              rotate_left
              · intro w hSw; (try dsimp only at hSw); go_simp; (try (with_reducible rfl))
              try simp only [List.getElem_toArray, List.getElem_cons_succ, List.getElem_cons_zero, Act.put, List.setIfInBounds_toArray, List.set_cons_zero, List.set_cons_succ]
              refine wpAnyH_take (i := 2) (v := ?_) rfl (by kernel_rfl) (by kernel_rfl) (by kernel_rfl) (fun _ _ _ h => h) (Or.inl ⟨by rfl, ?_⟩) (by assumption) ?_
              rotate_left
              · intro w hSw; (try dsimp only at hSw); go_simp; (try (with_reducible rfl))
              try simp only [List.getElem_toArray, List.getElem_cons_succ, List.getElem_cons_zero, Act.put, List.setIfInBounds_toArray, List.set_cons_zero, List.set_cons_succ]
              refine wpAnyH_take (i := 3) (v := ?_) rfl (by kernel_rfl) (by kernel_rfl) (by kernel_rfl) (fun _ _ _ h => h) (Or.inl ⟨by rfl, ?_⟩) (by assumption) ?_
              rotate_left
              · intro w hSw; (try dsimp only at hSw); go_simp; (try (with_reducible rfl))
              try simp only [List.getElem_toArray, List.getElem_cons_succ, List.getElem_cons_zero, Act.put, List.setIfInBounds_toArray, List.set_cons_zero, List.set_cons_succ]
              refine wpAnyH_take (i := 4) (v := ?_) rfl (by kernel_rfl) (by kernel_rfl) (by kernel_rfl) (fun _ _ _ h => h) (Or.inl ⟨by rfl, ?_⟩) (by assumption) ?_
              rotate_left
              · intro w hSw; (try dsimp only at hSw); go_simp; (try (with_reducible rfl))
              try simp only [List.getElem_toArray, List.getElem_cons_succ, List.getElem_cons_zero, Act.put, List.setIfInBounds_toArray, List.set_cons_zero, List.set_cons_succ]
              refine wpAnyH_take (i := 5) (v := ?_) rfl (by kernel_rfl) (by kernel_rfl) (by kernel_rfl) (fun _ _ _ h => h) (Or.inl ⟨by rfl, ?_⟩) (by assumption) ?_
              rotate_left
              · intro w hSw; (try dsimp only at hSw); go_simp; (try (with_reducible rfl))
              try simp only [List.getElem_toArray, List.getElem_cons_succ, List.getElem_cons_zero, Act.put, List.setIfInBounds_toArray, List.set_cons_zero, List.set_cons_succ]
              refine wpAnyH_take (i := 6) (v := ?_) rfl (by kernel_rfl) (by kernel_rfl) (by kernel_rfl) (fun _ _ _ h => h) (Or.inl ⟨by rfl, ?_⟩) (by assumption) ?_
              rotate_left
              · intro w hSw; (try dsimp only at hSw); go_simp; (try (with_reducible rfl))
              try simp only [List.getElem_toArray, List.getElem_cons_succ, List.getElem_cons_zero, Act.put, List.setIfInBounds_toArray, List.set_cons_zero, List.set_cons_succ]
              refine wpAnyH_take (i := 7) (v := ?_) rfl (by kernel_rfl) (by kernel_rfl) (by kernel_rfl) (fun _ _ _ h => h) (Or.inl ⟨by rfl, ?_⟩) (by assumption) ?_
              rotate_left
              · intro w hSw; (try dsimp only at hSw); go_simp; (try (with_reducible rfl))
              try simp only [List.getElem_toArray, List.getElem_cons_succ, List.getElem_cons_zero, Act.put, List.setIfInBounds_toArray, List.set_cons_zero, List.set_cons_succ]
              refine wpAnyH_take (i := 8) (v := ?_) rfl (by kernel_rfl) (by kernel_rfl) (by kernel_rfl) (fun _ _ _ h => h) (Or.inl ⟨by rfl, ?_⟩) (by assumption) ?_
              rotate_left
              · intro w hSw; (try dsimp only at hSw); go_simp; (try (with_reducible rfl))
              try simp only [List.getElem_toArray, List.getElem_cons_succ, List.getElem_cons_zero, Act.put, List.setIfInBounds_toArray, List.set_cons_zero, List.set_cons_succ]
              refine wpAnyH_take (i := 9) (v := ?_) rfl (by kernel_rfl) (by kernel_rfl) (by kernel_rfl) (fun _ _ _ h => h) (Or.inl ⟨by rfl, ?_⟩) (by assumption) ?_
              rotate_left
              · intro w hSw; (try dsimp only at hSw); go_simp; (try (with_reducible rfl))
              try simp only [List.getElem_toArray, List.getElem_cons_succ, List.getElem_cons_zero, Act.put, List.setIfInBounds_toArray, List.set_cons_zero, List.set_cons_succ]
              refine wpAnyH_ready (rs := [1]) (by kernel_rfl) (by simp) ?_
              refine AllReadyH.cons rfl (fun K hK => ?_) AllReadyH.nil
              go_simp
              refine hK.out _ _ ?_ (fun hHeld => ?_)
              · clear hK K; exact HSQ.out _ (HBd.out.alloc HBd.out.size _)
              clear hK K
              try simp only [List.getElem_toArray, List.getElem_cons_succ, List.getElem_cons_zero, Act.put, List.setIfInBounds_toArray, List.set_cons_zero, List.set_cons_succ]
              refine wpAnyH_take (i := 10) (v := ?_) rfl (by kernel_rfl) (by kernel_rfl) (by kernel_rfl) (fun _ _ _ h => h) (Or.inl ⟨by rfl, ?_⟩) (by assumption) ?_
              rotate_left
              · intro w hSw; (try dsimp only at hSw); go_simp; (try (with_reducible rfl))
              try simp only [List.getElem_toArray, List.getElem_cons_succ, List.getElem_cons_zero, Act.put, List.setIfInBounds_toArray, List.set_cons_zero, List.set_cons_succ]
              refine wpAnyH_take (i := 11) (v := ?_) rfl (by kernel_rfl) (by kernel_rfl) (by kernel_rfl) (fun _ _ _ h => h) (Or.inl ⟨by rfl, ?_⟩) (by assumption) ?_
              rotate_left
              · intro w hSw; (try dsimp only at hSw); go_simp; (try (with_reducible rfl))
              try simp only [List.getElem_toArray, List.getElem_cons_succ, List.getElem_cons_zero, Act.put, List.setIfInBounds_toArray, List.set_cons_zero, List.set_cons_succ]
              refine wpAnyH_done (by kernel_rfl) ?_ _
              obtain ⟨we, hwe⟩ : ∃ W, (wq.alloc (.cells #[.int .i64 (q : Int)] 3)).drew = W := ⟨_, rfl⟩
              have hwe2 : Below wq.heap.size wq we := by rw [← hwe]; exact HBd.out.alloc HBd.out.size _
              have hbv : we.ownsRow wq.heap.size 3 1 (.slice (some ⟨wq.heap.size, 0, none⟩) 1 1) 1 [.int .i64 (q : Int)] := by rw [← hwe]; exact World.ownsRow_lit wq.drew #[.int .i64 (q : Int)] 1 (Nat.le_refl _) (by unfold maxLen; omega) rfl
              have hsd : wq.drew.heap.size = wq.heap.size := rfl
              have hbq2 := HBq
              obtain ⟨gq, hgq⟩ : ∃ g, wq.heap.size = g := ⟨_, rfl⟩
              rw [hwe]
              rw [hgq] at hwe2 hbv ⊢
              have HGE := Lib.hid hgq
              have HGQ : Hid (base ≤ gq) := Lib.hid (by have := HBq.out.size; have := HBE.out; omega)
              obtain ⟨BL, hBL⟩ : ∃ L, L = [(q : Int)] := ⟨_, rfl⟩
              have HBL : Hid (pathR X b m k j q = BL) := Lib.hid (by rw [hBL, hk0]; exact hbl)
              have HWE := Lib.hid hwe2
              have HBV : Hid (we.ownsRow gq 3 1 (.slice (some ⟨gq, 0, none⟩) 1 1) BL.length (BL.map (Value.int .i64))) := Lib.hid (by rw [hBL]; exact hbv)
              clear hHeld hwe hwe2 hbv hsd hbl hgq hBL HSQ HBd hbq2
              have hq3 : gq ≤ we.heap.size := by have := HWE.out.size; have := HGE.out; omega
              have hbs : base ≤ gq := HGQ.out
              obtain ⟨L, hL1, hL2, hL3, hL4⟩ := HNX.out
              have hLq := hL2.1
              have RZ1 : Hid (RowsO we base ((u14, (List.range q).map (costR X j)) :: (L ++ [(Value.slice (some ⟨gq, 0, none⟩) 1 1, BL)]))) := Lib.hid (RowsO.snoc hL1 (by rw [HGE.out]; exact HWE.out) (by rw [HGE.out]; exact HBV.out) (by rw [HGE.out]; exact hbs))
              have OP1 := Lib.hid (ownLater hL2 (by rw [HGE.out]; exact HWE.out))
              have HL3 := Lib.hid hL3
              have HLQ : Hid (L.length = q) := Lib.hid (by simpa using hLq)
              have HRL : Hid (((List.range q).map (costR X j)).length = q) := Lib.hid (by simp)
              have HB3 : Hid (Below base wo we) := Lib.hid (HBq.out.trans (HWE.out.mono hbs))
              have hb3 : base ≤ we.heap.size := by omega
              clear hL1 hL2 hL3 hL4 hLq HBV HWE HNX HBq
              go_wp2_with (at_builtin; refine wpList_append_own_at _ rfl (.tmp 113) (.tmp 115) 22 rfl base 28 i1 _ 1 24 Tryd.underlying22 hi1 hy0 hy1 hy2 rfl (by decide) _ _ _ rfl (OP1.out.alloc _) ⟨we.heap.size, 0, none⟩ 1 1 [_] rfl rfl (cell_one_new _ _ _) (by simp [Value.oneCell']) (by unfold maxLen; omega) (by omega) (by simp; omega) ?_)
              intro vp w4 hownp hgrowp _ _
              have RZ4 := Lib.hid (RowsO.kept (RZ1.out.alloc _) (OP1.out.alloc _) hgrowp)
              have OP4 : Hid (w4.ownsRow base 28 1 vp (q + 1) ((L ++ [(Value.slice (some ⟨gq, 0, none⟩) 1 1, BL)]).map Prod.fst)) := Lib.hid (by rw [List.map_append]; exact hownp)
              have HB4 : Hid (Below base wo w4) := Lib.hid ((HB3.out.alloc hb3 _).grown hgrowp (by simp; omega) (fun z e => (OP1.out.lt z e).1))
              have hq4 : base ≤ w4.heap.size := by
                have := (((Below.refl base we).alloc hb3 (.cells #[Value.slice (some ⟨gq, 0, none⟩) 1 1] 28)).grown hgrowp (by simp; omega) (fun z e => (OP1.out.lt z e).1)).size
                omega
              have hd4 := RZ4.out.head
              rw [HRL.out] at hd4
              have HD4 := Lib.hid hd4
              clear hownp hgrowp RZ1 OP1 HB3 hd4
              go_wp2_with (at_builtin; refine wpList_append_own_at _ rfl (.tmp 117) (.tmp 119) 28 rfl base 3 i0 _ 1 8 Tryd.underlying28 hi0 hz0 hz1 hz2 rfl (by decide) _ _ _ rfl (HD4.out.alloc _) ⟨w4.heap.size, 0, none⟩ 1 1 [.int .i64 vv] rfl rfl (cell_one_new _ _ _) (by simp [Value.oneCell']) (by unfold maxLen; omega) (by omega) (by simp; omega) ?_)
              intro vn w5 hownn hgrown _ hatn
              have HNX5 : Hid (NxR w5 base vp vn (q + 1) ((List.range (q + 1)).map (pathR X b m k j)) ((List.range (q + 1)).map (costR X j))) := Lib.hid (by
                refine ⟨L ++ [(Value.slice (some ⟨gq, 0, none⟩) 1 1, BL)], ?_, ?_, ?_, by simp⟩
                · rw [range_snoc, HCZ.out]
                  refine RowsO.step (pre := []) (post := L ++ [(Value.slice (some ⟨gq, 0, none⟩) 1 1, BL)]) (RZ4.out.alloc (.cells #[.int .i64 vv] 3)) ?_ hgrown (by simpa using hatn)
                  rw [HRL.out]
                  first | exact hownn | (rw [List.map_map]; exact hownn)
                · exact (OP4.out.alloc (.cells #[.int .i64 vv] 3)).kept hgrown (own_apart2 (HD4.out.alloc (.cells #[.int .i64 vv] 3)) (OP4.out.alloc (.cells #[.int .i64 vv] 3)))
                · rw [List.map_append, HL3.out, range_snoc, HBL.out]; rfl)
              have HB5 : Hid (Below base wo w5) := Lib.hid ((HB4.out.alloc hq4 _).grown hgrown (by simp; omega) (fun z e => (HD4.out.lt z e).1))
              clear hownn hgrown hatn RZ4 OP4 HB4 HD4
              go_wp2
              go_roundw
              case rel => exact ⟨q + 1, Nat.succ_le_of_lt hltq, by go_num, HNX5.out, HB5.out⟩
              case measure => have := hltq; simp [intOf]; omega
            · by_cases hql : (q : Int) = last
              · have hmq : may q = true := by rw [hmay2, decide_eq_true hql, Bool.or_true]
                clear hmay2
                subst hql
                have hqlb : ((q : Int) == (q : Int)) = true := by simp
                have HBd := Lib.hid ((Below.refl wq.heap.size wq).drew)
                have hlr := HLR.out q hltq
                rw [if_pos hmq, if_pos hmq, hvv] at hlr
                have HCZ : Hid (costR X j q = vv) := Lib.hid hlr.1
                have hbl := hlr.2
                clear hlr hmq
                go_wp2_with fail
                refine wp_region_held_drew (S := (fun W : World => W.cell? ⟨w.heap.size, 0, none⟩ = some (.slice (some ad) n c) ∧ W.cell? (ad.add j) = some (.slice (some aj) m cj) ∧ W.cell? (aj.add q) = some (.int .i64 vv))) (by kernel_rfl) ?_ ?_
                · exact HSQ.out _ HBd.out
                intro hHeld
                refine wpAnyH_take (i := 0) (v := ?_) rfl (by kernel_rfl) (by kernel_rfl) (by kernel_rfl) (fun _ _ _ h => h) (Or.inl ⟨by rfl, ?_⟩) (by assumption) ?_
                rotate_left
                · intro w hSw; (try dsimp only at hSw); go_simp; (try (with_reducible rfl))
                try simp only [List.getElem_toArray, List.getElem_cons_succ, List.getElem_cons_zero, Act.put, List.setIfInBounds_toArray, List.set_cons_zero, List.set_cons_succ]
                refine wpAnyH_take (i := 2) (v := ?_) rfl (by kernel_rfl) (by kernel_rfl) (by kernel_rfl) (fun _ _ _ h => h) (Or.inl ⟨by rfl, ?_⟩) (by assumption) ?_
                rotate_left
                · intro w hSw; (try dsimp only at hSw); go_simp; (try (with_reducible rfl))
                try simp only [List.getElem_toArray, List.getElem_cons_succ, List.getElem_cons_zero, Act.put, List.setIfInBounds_toArray, List.set_cons_zero, List.set_cons_succ]
                refine wpAnyH_take (i := 3) (v := ?_) rfl (by kernel_rfl) (by kernel_rfl) (by kernel_rfl) (fun _ _ _ h => h) (Or.inl ⟨by rfl, ?_⟩) (by assumption) ?_
                rotate_left
                · intro w hSw; (try dsimp only at hSw); go_simp; (try (with_reducible rfl))
                try simp only [List.getElem_toArray, List.getElem_cons_succ, List.getElem_cons_zero, Act.put, List.setIfInBounds_toArray, List.set_cons_zero, List.set_cons_succ]
                refine wpAnyH_take (i := 4) (v := ?_) rfl (by kernel_rfl) (by kernel_rfl) (by kernel_rfl) (fun _ _ _ h => h) (Or.inl ⟨by rfl, ?_⟩) (by assumption) ?_
                rotate_left
                · intro w hSw; (try dsimp only at hSw); go_simp; (try (with_reducible rfl))
                try simp only [List.getElem_toArray, List.getElem_cons_succ, List.getElem_cons_zero, Act.put, List.setIfInBounds_toArray, List.set_cons_zero, List.set_cons_succ]
                refine wpAnyH_take (i := 5) (v := ?_) rfl (by kernel_rfl) (by kernel_rfl) (by kernel_rfl) (fun _ _ _ h => h) (Or.inl ⟨by rfl, ?_⟩) (by assumption) ?_
                rotate_left
                · intro w hSw; (try dsimp only at hSw); go_simp; (try (with_reducible rfl))
                try simp only [List.getElem_toArray, List.getElem_cons_succ, List.getElem_cons_zero, Act.put, List.setIfInBounds_toArray, List.set_cons_zero, List.set_cons_succ]
                refine wpAnyH_take (i := 6) (v := ?_) rfl (by kernel_rfl) (by kernel_rfl) (by kernel_rfl) (fun _ _ _ h => h) (Or.inl ⟨by rfl, ?_⟩) (by assumption) ?_
                rotate_left
                · intro w hSw; (try dsimp only at hSw); go_simp; (try (with_reducible rfl))
                try simp only [List.getElem_toArray, List.getElem_cons_succ, List.getElem_cons_zero, Act.put, List.setIfInBounds_toArray, List.set_cons_zero, List.set_cons_succ]
                refine wpAnyH_take (i := 7) (v := ?_) rfl (by kernel_rfl) (by kernel_rfl) (by kernel_rfl) (fun _ _ _ h => h) (Or.inl ⟨by rfl, ?_⟩) (by assumption) ?_
                rotate_left
                · intro w hSw; (try dsimp only at hSw); go_simp; (try (with_reducible rfl))
                try simp only [List.getElem_toArray, List.getElem_cons_succ, List.getElem_cons_zero, Act.put, List.setIfInBounds_toArray, List.set_cons_zero, List.set_cons_succ]
                refine wpAnyH_take (i := 8) (v := ?_) rfl (by kernel_rfl) (by kernel_rfl) (by kernel_rfl) (fun _ _ _ h => h) (Or.inl ⟨by rfl, ?_⟩) (by assumption) ?_
                rotate_left
                · intro w hSw; (try dsimp only at hSw); go_simp; (try (with_reducible rfl))
                try simp only [List.getElem_toArray, List.getElem_cons_succ, List.getElem_cons_zero, Act.put, List.setIfInBounds_toArray, List.set_cons_zero, List.set_cons_succ]
                refine wpAnyH_take (i := 9) (v := ?_) rfl (by kernel_rfl) (by kernel_rfl) (by kernel_rfl) (fun _ _ _ h => h) (Or.inl ⟨by rfl, ?_⟩) (by assumption) ?_
                rotate_left
                · intro w hSw; (try dsimp only at hSw); go_simp; (try (with_reducible rfl))
                try simp only [List.getElem_toArray, List.getElem_cons_succ, List.getElem_cons_zero, Act.put, List.setIfInBounds_toArray, List.set_cons_zero, List.set_cons_succ]
                refine wpAnyH_ready (rs := [1]) (by kernel_rfl) (by simp) ?_
                refine AllReadyH.cons rfl (fun K hK => ?_) AllReadyH.nil
                go_simp
                refine hK.out _ _ ?_ (fun hHeld => ?_)
                · clear hK K; exact HSQ.out _ (HBd.out.alloc HBd.out.size _)
                clear hK K
                try simp only [List.getElem_toArray, List.getElem_cons_succ, List.getElem_cons_zero, Act.put, List.setIfInBounds_toArray, List.set_cons_zero, List.set_cons_succ]
                refine wpAnyH_take (i := 10) (v := ?_) rfl (by kernel_rfl) (by kernel_rfl) (by kernel_rfl) (fun _ _ _ h => h) (Or.inl ⟨by rfl, ?_⟩) (by assumption) ?_
                rotate_left
                · intro w hSw; (try dsimp only at hSw); go_simp; (try (with_reducible rfl))
                try simp only [List.getElem_toArray, List.getElem_cons_succ, List.getElem_cons_zero, Act.put, List.setIfInBounds_toArray, List.set_cons_zero, List.set_cons_succ]
                refine wpAnyH_take (i := 11) (v := ?_) rfl (by kernel_rfl) (by kernel_rfl) (by kernel_rfl) (fun _ _ _ h => h) (Or.inl ⟨by rfl, ?_⟩) (by assumption) ?_
                rotate_left
                · intro w hSw; (try dsimp only at hSw); go_simp; (try (with_reducible rfl))
                try simp only [List.getElem_toArray, List.getElem_cons_succ, List.getElem_cons_zero, Act.put, List.setIfInBounds_toArray, List.set_cons_zero, List.set_cons_succ]
                refine wpAnyH_done (by kernel_rfl) ?_ _
                obtain ⟨we, hwe⟩ : ∃ W, (wq.alloc (.cells #[.int .i64 (q : Int)] 3)).drew = W := ⟨_, rfl⟩
                have hwe2 : Below wq.heap.size wq we := by rw [← hwe]; exact HBd.out.alloc HBd.out.size _
                have hbv : we.ownsRow wq.heap.size 3 1 (.slice (some ⟨wq.heap.size, 0, none⟩) 1 1) 1 [.int .i64 (q : Int)] := by rw [← hwe]; exact World.ownsRow_lit wq.drew #[.int .i64 (q : Int)] 1 (Nat.le_refl _) (by unfold maxLen; omega) rfl
                have hsd : wq.drew.heap.size = wq.heap.size := rfl
                have hbq2 := HBq
                obtain ⟨gq, hgq⟩ : ∃ g, wq.heap.size = g := ⟨_, rfl⟩
                rw [hwe]
                rw [hgq] at hwe2 hbv ⊢
                have HGE := Lib.hid hgq
                have HGQ : Hid (base ≤ gq) := Lib.hid (by have := HBq.out.size; have := HBE.out; omega)
                obtain ⟨BL, hBL⟩ : ∃ L, L = [(q : Int)] := ⟨_, rfl⟩
                have HBL : Hid (pathR X b m k j q = BL) := Lib.hid (by rw [hBL, hk0]; exact hbl)
                have HWE := Lib.hid hwe2
                have HBV : Hid (we.ownsRow gq 3 1 (.slice (some ⟨gq, 0, none⟩) 1 1) BL.length (BL.map (Value.int .i64))) := Lib.hid (by rw [hBL]; exact hbv)
                clear hHeld hwe hwe2 hbv hsd hbl hgq hBL HSQ HBd hbq2
                have hq3 : gq ≤ we.heap.size := by have := HWE.out.size; have := HGE.out; omega
                have hbs : base ≤ gq := HGQ.out
                obtain ⟨L, hL1, hL2, hL3, hL4⟩ := HNX.out
                have hLq := hL2.1
                have RZ1 : Hid (RowsO we base ((u14, (List.range q).map (costR X j)) :: (L ++ [(Value.slice (some ⟨gq, 0, none⟩) 1 1, BL)]))) := Lib.hid (RowsO.snoc hL1 (by rw [HGE.out]; exact HWE.out) (by rw [HGE.out]; exact HBV.out) (by rw [HGE.out]; exact hbs))
                have OP1 := Lib.hid (ownLater hL2 (by rw [HGE.out]; exact HWE.out))
                have HL3 := Lib.hid hL3
                have HLQ : Hid (L.length = q) := Lib.hid (by simpa using hLq)
                have HRL : Hid (((List.range q).map (costR X j)).length = q) := Lib.hid (by simp)
                have HB3 : Hid (Below base wo we) := Lib.hid (HBq.out.trans (HWE.out.mono hbs))
                have hb3 : base ≤ we.heap.size := by omega
                clear hL1 hL2 hL3 hL4 hLq HBV HWE HNX HBq
                go_wp2_with (at_builtin; refine wpList_append_own_at _ rfl (.tmp 113) (.tmp 115) 22 rfl base 28 i1 _ 1 24 Tryd.underlying22 hi1 hy0 hy1 hy2 rfl (by decide) _ _ _ rfl (OP1.out.alloc _) ⟨we.heap.size, 0, none⟩ 1 1 [_] rfl rfl (cell_one_new _ _ _) (by simp [Value.oneCell']) (by unfold maxLen; omega) (by omega) (by simp; omega) ?_)
                intro vp w4 hownp hgrowp _ _
                have RZ4 := Lib.hid (RowsO.kept (RZ1.out.alloc _) (OP1.out.alloc _) hgrowp)
                have OP4 : Hid (w4.ownsRow base 28 1 vp (q + 1) ((L ++ [(Value.slice (some ⟨gq, 0, none⟩) 1 1, BL)]).map Prod.fst)) := Lib.hid (by rw [List.map_append]; exact hownp)
                have HB4 : Hid (Below base wo w4) := Lib.hid ((HB3.out.alloc hb3 _).grown hgrowp (by simp; omega) (fun z e => (OP1.out.lt z e).1))
                have hq4 : base ≤ w4.heap.size := by
                  have := (((Below.refl base we).alloc hb3 (.cells #[Value.slice (some ⟨gq, 0, none⟩) 1 1] 28)).grown hgrowp (by simp; omega) (fun z e => (OP1.out.lt z e).1)).size
                  omega
                have hd4 := RZ4.out.head
                rw [HRL.out] at hd4
                have HD4 := Lib.hid hd4
                clear hownp hgrowp RZ1 OP1 HB3 hd4
                go_wp2_with (at_builtin; refine wpList_append_own_at _ rfl (.tmp 117) (.tmp 119) 28 rfl base 3 i0 _ 1 8 Tryd.underlying28 hi0 hz0 hz1 hz2 rfl (by decide) _ _ _ rfl (HD4.out.alloc _) ⟨w4.heap.size, 0, none⟩ 1 1 [.int .i64 vv] rfl rfl (cell_one_new _ _ _) (by simp [Value.oneCell']) (by unfold maxLen; omega) (by omega) (by simp; omega) ?_)
                intro vn w5 hownn hgrown _ hatn
                have HNX5 : Hid (NxR w5 base vp vn (q + 1) ((List.range (q + 1)).map (pathR X b m k j)) ((List.range (q + 1)).map (costR X j))) := Lib.hid (by
                  refine ⟨L ++ [(Value.slice (some ⟨gq, 0, none⟩) 1 1, BL)], ?_, ?_, ?_, by simp⟩
                  · rw [range_snoc, HCZ.out]
                    refine RowsO.step (pre := []) (post := L ++ [(Value.slice (some ⟨gq, 0, none⟩) 1 1, BL)]) (RZ4.out.alloc (.cells #[.int .i64 vv] 3)) ?_ hgrown (by simpa using hatn)
                    rw [HRL.out]
                    first | exact hownn | (rw [List.map_map]; exact hownn)
                  · exact (OP4.out.alloc (.cells #[.int .i64 vv] 3)).kept hgrown (own_apart2 (HD4.out.alloc (.cells #[.int .i64 vv] 3)) (OP4.out.alloc (.cells #[.int .i64 vv] 3)))
                  · rw [List.map_append, HL3.out, range_snoc, HBL.out]; rfl)
                have HB5 : Hid (Below base wo w5) := Lib.hid ((HB4.out.alloc hq4 _).grown hgrown (by simp; omega) (fun z e => (HD4.out.lt z e).1))
                clear hownn hgrown hatn RZ4 OP4 HB4 HD4
                go_wp2
                go_roundw
                case rel => exact ⟨q + 1, Nat.succ_le_of_lt hltq, by go_num, HNX5.out, HB5.out⟩
                case measure => have := hltq; simp [intOf]; omega
              · have hmq : ¬ may q = true := by rw [hmay2, decide_eq_false hl0, decide_eq_false hql]; decide
                have hqlb : ((q : Int) == last) = false := by rw [beq_eq_false_iff_ne]; exact hql
                clear hmay2
                have hlr := HLR.out q hltq
                rw [if_neg hmq, if_neg hmq] at hlr
                have HCZ : Hid (costR X j q = -1) := Lib.hid hlr.1
                have hbl := hlr.2
                clear hlr hmq
                obtain ⟨gq, hgq⟩ : ∃ g, wq.heap.size = g := ⟨_, rfl⟩
                have HGE := Lib.hid hgq
                have HGQ : Hid (base ≤ gq) := Lib.hid (by have := HBq.out.size; have := HBE.out; omega)
                obtain ⟨BL, hBL⟩ : ∃ L : List Int, L = [] := ⟨_, rfl⟩
                have HBL : Hid (pathR X b m k j q = BL) := Lib.hid (by rw [hBL, hk0]; exact hbl)
                have HWE : Hid (Below gq wq wq) := Lib.hid (Below.refl _ _)
                have HBV : Hid (wq.ownsRow gq 3 1 (.slice none 0 0) BL.length (BL.map (Value.int .i64))) := Lib.hid (by rw [hBL]; exact World.ownsRow_nil _ _ _ _)
                clear hbl hgq hBL HSQ
                have hq3 : gq ≤ wq.heap.size := by have := HWE.out.size; have := HGE.out; omega
                have hbs : base ≤ gq := HGQ.out
                obtain ⟨L, hL1, hL2, hL3, hL4⟩ := HNX.out
                have hLq := hL2.1
                have RZ1 : Hid (RowsO wq base ((u14, (List.range q).map (costR X j)) :: (L ++ [(Value.slice none 0 0, BL)]))) := Lib.hid (RowsO.snoc hL1 (by rw [HGE.out]; exact HWE.out) (by rw [HGE.out]; exact HBV.out) (by rw [HGE.out]; exact hbs))
                have OP1 := Lib.hid (ownLater hL2 (by rw [HGE.out]; exact HWE.out))
                have HL3 := Lib.hid hL3
                have HLQ : Hid (L.length = q) := Lib.hid (by simpa using hLq)
                have HRL : Hid (((List.range q).map (costR X j)).length = q) := Lib.hid (by simp)
                have HB3 : Hid (Below base wo wq) := Lib.hid (HBq.out.trans (HWE.out.mono hbs))
                have hb3 : base ≤ wq.heap.size := by omega
                clear hL1 hL2 hL3 hL4 hLq HBV HWE HNX HBq
                go_wp2_with (at_builtin; refine wpList_append_own_at _ rfl (.tmp 113) (.tmp 115) 22 rfl base 28 i1 _ 1 24 Tryd.underlying22 hi1 hy0 hy1 hy2 rfl (by decide) _ _ _ rfl (OP1.out.alloc _) ⟨wq.heap.size, 0, none⟩ 1 1 [_] rfl rfl (cell_one_new _ _ _) (by simp [Value.oneCell']) (by unfold maxLen; omega) (by omega) (by simp; omega) ?_)
                intro vp w4 hownp hgrowp _ _
                have RZ4 := Lib.hid (RowsO.kept (RZ1.out.alloc _) (OP1.out.alloc _) hgrowp)
                have OP4 : Hid (w4.ownsRow base 28 1 vp (q + 1) ((L ++ [(Value.slice none 0 0, BL)]).map Prod.fst)) := Lib.hid (by rw [List.map_append]; exact hownp)
                have HB4 : Hid (Below base wo w4) := Lib.hid ((HB3.out.alloc hb3 _).grown hgrowp (by simp; omega) (fun z e => (OP1.out.lt z e).1))
                have hq4 : base ≤ w4.heap.size := by
                  have := (((Below.refl base wq).alloc hb3 (.cells #[Value.slice none 0 0] 28)).grown hgrowp (by simp; omega) (fun z e => (OP1.out.lt z e).1)).size
                  omega
                have hd4 := RZ4.out.head
                rw [HRL.out] at hd4
                have HD4 := Lib.hid hd4
                clear hownp hgrowp RZ1 OP1 HB3 hd4
                go_wp2_with (at_builtin; refine wpList_append_own_at _ rfl (.tmp 117) (.tmp 119) 28 rfl base 3 i0 _ 1 8 Tryd.underlying28 hi0 hz0 hz1 hz2 rfl (by decide) _ _ _ rfl (HD4.out.alloc _) ⟨w4.heap.size, 0, none⟩ 1 1 [.int .i64 (-1)] rfl rfl (cell_one_new _ _ _) (by simp [Value.oneCell']) (by unfold maxLen; omega) (by omega) (by simp; omega) ?_)
                intro vn w5 hownn hgrown _ hatn
                have HNX5 : Hid (NxR w5 base vp vn (q + 1) ((List.range (q + 1)).map (pathR X b m k j)) ((List.range (q + 1)).map (costR X j))) := Lib.hid (by
                  refine ⟨L ++ [(Value.slice none 0 0, BL)], ?_, ?_, ?_, by simp⟩
                  · rw [range_snoc, HCZ.out]
                    refine RowsO.step (pre := []) (post := L ++ [(Value.slice none 0 0, BL)]) (RZ4.out.alloc (.cells #[.int .i64 (-1)] 3)) ?_ hgrown (by simpa using hatn)
                    rw [HRL.out]
                    first | exact hownn | (rw [List.map_map]; exact hownn)
                  · exact (OP4.out.alloc (.cells #[.int .i64 (-1)] 3)).kept hgrown (own_apart2 (HD4.out.alloc (.cells #[.int .i64 (-1)] 3)) (OP4.out.alloc (.cells #[.int .i64 (-1)] 3)))
                  · rw [List.map_append, HL3.out, range_snoc, HBL.out]; rfl)
                have HB5 : Hid (Below base wo w5) := Lib.hid ((HB4.out.alloc hq4 _).grown hgrown (by simp; omega) (fun z e => (HD4.out.lt z e).1))
                clear hownn hgrown hatn RZ4 OP4 HB4 HD4
                go_wp2
                go_roundw
                case rel => exact ⟨q + 1, Nat.succ_le_of_lt hltq, by go_num, HNX5.out, HB5.out⟩
                case measure => have := hltq; simp [intOf]; omega
          · obtain ⟨k1, hk1⟩ : ∃ k1, k1 + 1 = k := ⟨k - 1, by omega⟩
            have hjl : ((j : Int) == (n : Int) - 1) = false := by simp; omega
            have hjl2 : ¬ (j : Int) = (n : Int) - 1 := by omega
            have hnk : n - k = j + 1 := by omega
            have hkm : k - 1 = k1 := by omega
            obtain ⟨⟨Ap, cp, hpv, hrp⟩, Ac, cc, hcv, hrc⟩ := (HP.out.resolve_left (fun h => hk0 h.1)).2
            subst hpv hcv
            rw [hkm, hnk] at hrp
            rw [hnk] at hrc
            obtain ⟨apd, hAp, hapb, hpc⟩ := hrp.2 (by omega)
            obtain ⟨acd, hAc, hacb, hcc⟩ := hrc.2 (by omega)
            subst hAp hAc
            have HPD : Hid (∀ d, d < m → ∃ B kk ck, ∀ W, Below base wo W → W.cell? (apd.add d) = some (.slice B kk ck) ∧ RdI W B kk (pathR X b m k1 (j + 1) d)) := Lib.hid (fun d hd => by
              obtain ⟨B, kk, ck, h1, h2, _⟩ := hpc d hd
              rw [range_getD _ _ _ _ hd] at h2
              refine ⟨B, kk, ck, fun W hb => ?_⟩
              rw [← HBE.out] at hb
              exact ⟨(hb.cell (p := apd.add d) (by rw [addBlock]; exact hapb)).trans h1, h2.below hb⟩)
            have HCD : Hid (∀ d, d < m → ∀ W, Below base wo W → W.cell? (acd.add d) = some (.int .i64 (costR X (j + 1) d))) := Lib.hid (fun d hd W hb => by
              have h1 := hcc d hd
              rw [range_getD _ _ _ _ hd] at h1
              rw [← HBE.out] at hb
              exact (hb.cell (p := acd.add d) (by rw [addBlock]; exact hacb)).trans h1)
            have HDS : Hid (∀ q, q < m → ∀ t, t < nbrCount q m → ∀ d, q - 1 + t = d → ∀ nd sum : Int, costR X (j + 1) d = nd → cellV rows j q + (if q = d then 0 else b) + nd = sum → _) := Lib.hid (fun q hq t ht' d hd nd sum h1 h2 => by
              have := d_step may ht (k := k1) (j := j) (c := q) (t := t) (d := d) (by omega) hq ht' hd (cellV rows j q) nd sum (HVB.out j q hjn hq).1 (by rw [hX]; exact h1) h2
              rw [hX] at this
              exact this)
            have HDA : Hid (∀ q, q < m → dC X (cellV rows j q) b m j q (nbrCount q m) = costR X j q ∧ dP X b m k1 j q (nbrCount q m) = pathR X b m (k1 + 1) j q) := Lib.hid (fun q hq => by rw [← hX]; exact d_all may ht (k := k1) (by omega) hq)
            have HCB : Hid (∀ q, q < m → ∀ t, -1 ≤ dC X (cellV rows j q) b m j q t ∧ dC X (cellV rows j q) b m j q t ≤ 60000) := Lib.hid (fun q hq t => by
              have h1 := stT_bd may ht (k := k1) (j := j) (by omega) hq t
              have h2 := HVB.out j q hjn hq
              rw [hX] at h1
              unfold dC
              split <;> omega)
            have HNB : Hid (∀ d, d < m → -1 ≤ costR X (j + 1) d ∧ costR X (j + 1) d ≤ 60000) := Lib.hid (fun d hd => by
              have h1 := nonneg_x may ht (j := j + 1) (by omega) hd
              rw [hX] at h1
              unfold costR
              split <;> omega)
            clear hpc hcc hrp hrc hapb hacb hjl2 hnk hkm
            obtain ⟨hi, hhi⟩ : ∃ hi : Nat, q - 1 + nbrCount q m = hi + 1 := ⟨q - 1 + nbrCount q m - 1, by unfold nbrCount; omega⟩
            have hcnt : (hi = q + 1 ∧ q + 1 ≤ m - 1) ∨ (hi = m - 1 ∧ m - 1 ≤ q + 1) := by unfold nbrCount at hhi; omega
            obtain ⟨rm, hrm⟩ : ∃ z : Int, (q : Int) - 1 = z := ⟨_, rfl⟩
            obtain ⟨p1, hp1⟩ : ∃ z : Int, (q : Int) + 1 = z := ⟨_, rfl⟩
            obtain ⟨p2, hp2⟩ : ∃ z : Int, (m : Int) - 1 = z := ⟨_, rfl⟩
            have wrm : IntKind.i64.wrap ((q : Int) - 1) = rm := by rw [← hrm]; exact IntWalk.i64_in _ (by omega)
            have wp1 : IntKind.i64.wrap ((q : Int) + 1) = p1 := by rw [← hp1]; exact IntWalk.i64_in _ (by omega)
            have wp2 : IntKind.i64.wrap ((m : Int) - 1) = p2 := by rw [← hp2]; exact IntWalk.i64_in _ (by omega)
            have hmx : (if 0 < rm then rm else 0) = ((q - 1 : Nat) : Int) := by rw [← hrm]; split <;> omega
            have hmn : (if p2 < p1 then p2 else p1) = (hi : Int) := by rw [← hp1, ← hp2]; split <;> omega
            obtain ⟨gq, hgq⟩ : ∃ g, wq.heap.size = g := ⟨_, rfl⟩
            have HGE := Lib.hid hgq
            have HBo := HBq
            have HGQ : Hid (base ≤ gq) := Lib.hid (by have := HBq.out.size; have := HBE.out; omega)
            have HPQ := Lib.hid hp1
            clear hrm hp1 hp2 hgq hcnt
            go_wp2
            go_loopw [16, 17, 18] (fun bv cv dv wd => ∃ t : Nat, t ≤ nbrCount q m ∧ dv = .int .i64 ((q - 1 + t : Nat) : Int) ∧ cv = .int .i64 (dC X vv b m j q t) ∧ Hid (wd.ownsRow gq 3 1 bv (dP X b m k1 j q t).length ((dP X b m k1 j q t).map (Value.int .i64))) ∧ Hid (Below gq wq wd)) (fun _ _ dv _ => ((hi : Int) + 1 - intOf dv).toNat)
            case atStart => exact ⟨0, Nat.zero_le _, rfl, by rw [dC_zero], by rw [dP_zero]; exact World.ownsRow_nil _ _ _ _, by rw [← HGE.out]; exact Below.refl _ _⟩
            case round =>
              obtain ⟨t, ht, rfl, rfl, HVt, HWt⟩ := hrel
              obtain ⟨d, hd⟩ : ∃ d, q - 1 + t = d := ⟨_, rfl⟩
              rw [hd]
              obtain ⟨ct, hct⟩ : ∃ z, dC X vv b m j q t = z := ⟨_, rfl⟩
              rw [hct]
              have hctb := HCB.out q hltq t
              rw [hvv, hct] at hctb
              by_cases hlt2 : t < nbrCount q m
              · have hdm : d < m := by unfold nbrCount at hlt2; omega
                have hdI : (d : Int) ≤ (hi : Int) := by omega
                have hdmI : (d : Int) < (m : Int) := by omega
                have hds := HDS.out q hltq t hlt2 d hd
                rw [hvv] at hds
                obtain ⟨nd, hnd⟩ : ∃ z, costR X (j + 1) d = z := ⟨_, rfl⟩
                have hndb := HNB.out d hdm
                rw [hnd] at hndb
                obtain ⟨bd, hbd⟩ : ∃ z : Int, (if (q : Int) = (d : Int) then 0 else b) = z := ⟨_, rfl⟩
                have hbdb : 0 ≤ bd ∧ bd ≤ 1000 := by rw [← hbd]; split <;> omega
                have hbd2 : (if q = d then (0 : Int) else b) = bd := by
                  rw [← hbd]
                  by_cases e : q = d
                  · rw [if_pos e, if_pos (by omega)]
                  · rw [if_neg e, if_neg (by omega)]
                obtain ⟨s1, hs1⟩ : ∃ z, vv + bd = z := ⟨_, rfl⟩
                obtain ⟨sm, hsm⟩ : ∃ z, s1 + nd = z := ⟨_, rfl⟩
                have ws1 : IntKind.i64.wrap (vv + bd) = s1 := by rw [← hs1]; exact IntWalk.i64_in _ (by omega)
                have ws2 : IntKind.i64.wrap (s1 + nd) = sm := by rw [← hsm]; exact IntWalk.i64_in _ (by omega)
                have hds2 := hds nd sm hnd (by rw [hbd2, hs1]; exact hsm)
                rw [hct] at hds2
                have HSD : Hid (∀ W, Below wr.heap.size wr W → (W.cell? ⟨w.heap.size, 0, none⟩ = some (.slice (some ad) n c) ∧ W.cell? ⟨w.heap.size, 1, none⟩ = some (.int .i64 b)) ∧ (W.cell? (ad.add j) = some (.slice (some aj) m cj) ∧ W.cell? (aj.add q) = some (.int .i64 vv)) ∧ W.cell? (acd.add d) = some (.int .i64 nd)) := Lib.hid (fun W hb => by
                  have hbo := HBo.out.trans ((HWt.out.trans (hb.mono (by have := HWt.out.size; have := HGE.out; omega))).mono HGQ.out)
                  have hb1 := HB.out.trans (hbo.mono (by have := HB.out.size; have := HBE.out; omega))
                  have h1 := HJ.out W hb1
                  refine ⟨HT.out W hb1, ⟨h1.1, ?_⟩, ?_⟩
                  · rw [← hvv]; exact h1.2 q hltq
                  · rw [← hnd]; exact HCD.out d hdm W hbo)
                have hsd := HSD.out _ (Below.refl _ _)
                have c0 := hsd.1.1
                have c1 := hsd.1.2
                have cnd := hsd.2.2
                have HBd := Lib.hid ((Below.refl wr.heap.size wr).drew)
                have HND := Lib.hid hnd
                clear hsd hds hs1 hsm hbd2 hndb
                go_wp2_with fail
                refine wp_region_held_drew (S := (fun W : World => (W.cell? ⟨w.heap.size, 0, none⟩ = some (.slice (some ad) n c) ∧ W.cell? ⟨w.heap.size, 1, none⟩ = some (.int .i64 b)) ∧ (W.cell? (ad.add j) = some (.slice (some aj) m cj) ∧ W.cell? (aj.add q) = some (.int .i64 vv)) ∧ W.cell? (acd.add d) = some (.int .i64 nd))) (by kernel_rfl) ?_ ?_
                · exact HSD.out _ HBd.out
                intro hHeld
                refine wpAnyH_take (i := 0) (v := ?_) rfl (by kernel_rfl) (by kernel_rfl) (by kernel_rfl) (fun _ _ _ h => h) (Or.inl ⟨by rfl, ?_⟩) (by assumption) ?_
                rotate_left
                · intro w hSw; (try dsimp only at hSw); go_simp; (try (with_reducible rfl))
                try simp only [List.getElem_toArray, List.getElem_cons_succ, List.getElem_cons_zero, Act.put, List.setIfInBounds_toArray, List.set_cons_zero, List.set_cons_succ]
                refine wpAnyH_take (i := 1) (v := ?_) rfl (by kernel_rfl) (by kernel_rfl) (by kernel_rfl) (fun _ _ _ h => h) (Or.inl ⟨by rfl, ?_⟩) (by assumption) ?_
                rotate_left
                · intro w hSw; (try dsimp only at hSw); go_simp; (try (with_reducible rfl))
                try simp only [List.getElem_toArray, List.getElem_cons_succ, List.getElem_cons_zero, Act.put, List.setIfInBounds_toArray, List.set_cons_zero, List.set_cons_succ]
                refine wpAnyH_take (i := 2) (v := ?_) rfl (by kernel_rfl) (by kernel_rfl) (by kernel_rfl) (fun _ _ _ h => h) (Or.inl ⟨by rfl, ?_⟩) (by assumption) ?_
                rotate_left
                · intro w hSw; (try dsimp only at hSw); go_simp; (try (with_reducible rfl))
                try simp only [List.getElem_toArray, List.getElem_cons_succ, List.getElem_cons_zero, Act.put, List.setIfInBounds_toArray, List.set_cons_zero, List.set_cons_succ]
                refine wpAnyH_take (i := 3) (v := ?_) rfl (by kernel_rfl) (by kernel_rfl) (by kernel_rfl) (fun _ _ _ h => h) (Or.inl ⟨by rfl, ?_⟩) (by assumption) ?_
                rotate_left
                · intro w hSw; (try dsimp only at hSw); go_simp; (try (with_reducible rfl))
                try simp only [List.getElem_toArray, List.getElem_cons_succ, List.getElem_cons_zero, Act.put, List.setIfInBounds_toArray, List.set_cons_zero, List.set_cons_succ]
                refine wpAnyH_take (i := 4) (v := ?_) rfl (by kernel_rfl) (by kernel_rfl) (by kernel_rfl) (fun _ _ _ h => h) (Or.inl ⟨by rfl, ?_⟩) (by assumption) ?_
                rotate_left
                · intro w hSw; (try dsimp only at hSw); go_simp; (try (with_reducible rfl))
                try simp only [List.getElem_toArray, List.getElem_cons_succ, List.getElem_cons_zero, Act.put, List.setIfInBounds_toArray, List.set_cons_zero, List.set_cons_succ]
                refine wpAnyH_take (i := 5) (v := ?_) rfl (by kernel_rfl) (by kernel_rfl) (by kernel_rfl) (fun _ _ _ h => h) (Or.inl ⟨by rfl, ?_⟩) (by assumption) ?_
                rotate_left
                · intro w hSw; (try dsimp only at hSw); go_simp; (try (with_reducible rfl))
                try simp only [List.getElem_toArray, List.getElem_cons_succ, List.getElem_cons_zero, Act.put, List.setIfInBounds_toArray, List.set_cons_zero, List.set_cons_succ]
                refine wpAnyH_take (i := 6) (v := ?_) rfl (by kernel_rfl) (by kernel_rfl) (by kernel_rfl) (fun _ _ _ h => h) (Or.inl ⟨by rfl, ?_⟩) (by assumption) ?_
                rotate_left
                · intro w hSw; (try dsimp only at hSw); go_simp; (try (with_reducible rfl))
                try simp only [List.getElem_toArray, List.getElem_cons_succ, List.getElem_cons_zero, Act.put, List.setIfInBounds_toArray, List.set_cons_zero, List.set_cons_succ]
                refine wpAnyH_take (i := 7) (v := ?_) rfl (by kernel_rfl) (by kernel_rfl) (by kernel_rfl) (fun _ _ _ h => h) (Or.inl ⟨by rfl, ?_⟩) (by assumption) ?_
                rotate_left
                · intro w hSw; (try dsimp only at hSw); go_simp; (try (with_reducible rfl))
                try simp only [List.getElem_toArray, List.getElem_cons_succ, List.getElem_cons_zero, Act.put, List.setIfInBounds_toArray, List.set_cons_zero, List.set_cons_succ]
                refine wpAnyH_take (i := 8) (v := ?_) rfl (by kernel_rfl) (by kernel_rfl) (by kernel_rfl) (fun _ _ _ h => h) (Or.inl ⟨by rfl, ?_⟩) (by assumption) ?_
                rotate_left
                · intro w hSw; (try dsimp only at hSw); go_simp; (try (with_reducible rfl))
                try simp only [List.getElem_toArray, List.getElem_cons_succ, List.getElem_cons_zero, Act.put, List.setIfInBounds_toArray, List.set_cons_zero, List.set_cons_succ]
                refine wpAnyH_take (i := 9) (v := ?_) rfl (by kernel_rfl) (by kernel_rfl) (by kernel_rfl) (fun _ _ _ h => h) (Or.inl ⟨by rfl, ?_⟩) (by assumption) ?_
                rotate_left
                · intro w hSw; (try dsimp only at hSw); go_simp; (try (with_reducible rfl))
                try simp only [List.getElem_toArray, List.getElem_cons_succ, List.getElem_cons_zero, Act.put, List.setIfInBounds_toArray, List.set_cons_zero, List.set_cons_succ]
                refine wpAnyH_take (i := 10) (v := ?_) rfl (by kernel_rfl) (by kernel_rfl) (by kernel_rfl) (fun _ _ _ h => h) (Or.inl ⟨by rfl, ?_⟩) (by assumption) ?_
                rotate_left
                · intro w hSw; (try dsimp only at hSw); go_simp; (try (with_reducible rfl))
                try simp only [List.getElem_toArray, List.getElem_cons_succ, List.getElem_cons_zero, Act.put, List.setIfInBounds_toArray, List.set_cons_zero, List.set_cons_succ]
                refine wpAnyH_take (i := 13) (v := ?_) rfl (by kernel_rfl) (by kernel_rfl) (by kernel_rfl) (fun _ _ _ h => h) (Or.inl ⟨by rfl, ?_⟩) (by assumption) ?_
                rotate_left
                · intro w hSw; (try dsimp only at hSw); go_simp; (try (with_reducible rfl))
                try simp only [List.getElem_toArray, List.getElem_cons_succ, List.getElem_cons_zero, Act.put, List.setIfInBounds_toArray, List.set_cons_zero, List.set_cons_succ]
                refine wpAnyH_take (i := 14) (v := ?_) rfl (by kernel_rfl) (by kernel_rfl) (by kernel_rfl) (fun _ _ _ h => h) (Or.inl ⟨by rfl, ?_⟩) (by assumption) ?_
                rotate_left
                · intro w hSw; (try dsimp only at hSw); go_simp; (try (with_reducible rfl))
                try simp only [List.getElem_toArray, List.getElem_cons_succ, List.getElem_cons_zero, Act.put, List.setIfInBounds_toArray, List.set_cons_zero, List.set_cons_succ]
                refine wpAnyH_take (i := 15) (v := ?_) rfl (by kernel_rfl) (by kernel_rfl) (by kernel_rfl) (fun _ _ _ h => h) (Or.inl ⟨by rfl, ?_⟩) (by assumption) ?_
                rotate_left
                · intro w hSw; (try dsimp only at hSw); go_simp; (try (with_reducible rfl))
                try simp only [List.getElem_toArray, List.getElem_cons_succ, List.getElem_cons_zero, Act.put, List.setIfInBounds_toArray, List.set_cons_zero, List.set_cons_succ]
                refine wpAnyH_take (i := 16) (v := ?_) rfl (by kernel_rfl) (by kernel_rfl) (by kernel_rfl) (fun _ _ _ h => h) (Or.inl ⟨by rfl, ?_⟩) (by assumption) ?_
                rotate_left
                · intro w hSw; (try dsimp only at hSw); go_simp; (try (with_reducible rfl))
                try simp only [List.getElem_toArray, List.getElem_cons_succ, List.getElem_cons_zero, Act.put, List.setIfInBounds_toArray, List.set_cons_zero, List.set_cons_succ]
                refine wpAnyH_ready (rs := [11]) (by kernel_rfl) (by simp) ?_
                refine AllReadyH.cons rfl (fun K hK => ?_) AllReadyH.nil
                go_simp
                go_at_call 70; refine (refBend_any _ b (q : Int) (d : Int) _ ⟨_, _, _, rfl⟩).mono ?_; rintro e w' ⟨rfl, rfl⟩; rw [hbd]
                go_wp2_with fail
                refine hK.out _ _ ?_ (fun hHeld => ?_)
                · clear hK K; exact HSD.out _ (HBd.out.alloc HBd.out.size _)
                clear hK K
                try simp only [List.getElem_toArray, List.getElem_cons_succ, List.getElem_cons_zero, Act.put, List.setIfInBounds_toArray, List.set_cons_zero, List.set_cons_succ]
                refine wpAnyH_take (i := 12) (v := ?_) rfl (by kernel_rfl) (by kernel_rfl) (by kernel_rfl) (fun _ _ _ h => h) (Or.inl ⟨by rfl, ?_⟩) (by assumption) ?_
                rotate_left
                · intro w hSw; (try dsimp only at hSw); go_simp; (try (with_reducible rfl))
                try simp only [List.getElem_toArray, List.getElem_cons_succ, List.getElem_cons_zero, Act.put, List.setIfInBounds_toArray, List.set_cons_zero, List.set_cons_succ]
                refine wpAnyH_take (i := 17) (v := ?_) rfl (by kernel_rfl) (by kernel_rfl) (by kernel_rfl) (fun _ _ _ h => h) (Or.inl ⟨by rfl, ?_⟩) (by assumption) ?_
                rotate_left
                · intro w hSw; (try dsimp only at hSw); go_simp; (try (with_reducible rfl))
                try simp only [List.getElem_toArray, List.getElem_cons_succ, List.getElem_cons_zero, Act.put, List.setIfInBounds_toArray, List.set_cons_zero, List.set_cons_succ]
                refine wpAnyH_take (i := 18) (v := ?_) rfl (by kernel_rfl) (by kernel_rfl) (by kernel_rfl) (fun _ _ _ h => h) (Or.inl ⟨by rfl, ?_⟩) (by assumption) ?_
                rotate_left
                · intro w hSw; (try dsimp only at hSw); go_simp; (try (with_reducible rfl))
                try simp only [List.getElem_toArray, List.getElem_cons_succ, List.getElem_cons_zero, Act.put, List.setIfInBounds_toArray, List.set_cons_zero, List.set_cons_succ]
                refine wpAnyH_done (by kernel_rfl) ?_ _
                obtain ⟨wb, hwb⟩ : ∃ W, (wr.alloc (.cells #[.slice (some ad) n c, .int .i64 b] 58)).drew = W := ⟨_, rfl⟩
                have hwb2 : Below wr.heap.size wr wb := by rw [← hwb]; exact HBd.out.alloc HBd.out.size _
                have HWb : Hid (Below gq wq wb) := Lib.hid (HWt.out.trans (hwb2.mono (by have := HWt.out.size; have := HGE.out; omega)))
                have HVb : Hid (wb.ownsRow gq 3 1 u16 (dP X b m k1 j q t).length ((dP X b m k1 j q t).map (Value.int .i64))) := Lib.hid (ownLater HVt.out hwb2)
                have hsd := HSD.out _ hwb2
                rw [hwb]
                clear c0 c1 cnd hHeld hwb hwb2 HSD HBd HVt HWt
                have cnd := hsd.2.2
                clear hsd
                by_cases hn0 : 0 ≤ nd
                · by_cases hc0 : ct < 0
                  · have hupd := hds2.1 ⟨hn0, .inl hc0⟩
                    clear hds2
                    obtain ⟨B0, kk, ck, hPD⟩ := HPD.out d hdm
                    have hpd := hPD wb (HBo.out.trans (HWb.out.mono (by have := HBo.out.size; have := HBE.out; have := HGE.out; omega)))
                    have hrd := hpd.2
                    have hwl : Below base wo (wb.alloc (.cells #[.int .i64 (q : Int)] 3)) := (HBo.out.trans (HWb.out.mono (by have := HBo.out.size; have := HBE.out; have := HGE.out; omega))).alloc (by have := HWb.out.size; have := HGE.out; have := HBo.out.size; have := HBE.out; omega) _
                    have hpc := (hPD _ hwl).1
                    clear hwl
                    obtain ⟨PD, hPDe⟩ : ∃ L, pathR X b m k1 (j + 1) d = L := ⟨_, rfl⟩
                    rw [hPDe] at hrd
                    have hupd2 := hupd.2
                    rw [hPDe] at hupd2
                    have hkk : PD.length = kk := hrd.1
                    have hkb : kk ≤ 100 := by rw [← hkk, ← hPDe]; exact Nat.le_trans (pathR_length X b m k1 (j + 1) d) (by omega)
                    have hk0' : 0 < kk := by
                      rw [← hkk, ← hPDe]
                      unfold pathR
                      rw [if_pos (by have := hnd; unfold costR at this; by_cases e : cellV X (j + 1) d < 50200; exact e; rw [if_neg e] at this; omega), tailP_length]
                      omega
                    obtain ⟨adB, hB0, hBlt, hBc⟩ := hrd.2 hk0'
                    subst hB0
                    have HNW : Hid (∀ i u, (PD.map (Value.int .i64))[i]? = some u → (wb.alloc (.cells #[.int .i64 (q : Int)] 3)).cell? (adB.add i) = some u) := Lib.hid (fun i u hu => by
                      rw [World.cell?_alloc_lt _ _ _ (by rw [addBlock]; exact hBlt)]
                      rw [List.getElem?_map] at hu
                      by_cases hi : i < PD.length
                      · rw [List.getElem?_eq_getElem hi, Option.map_some] at hu
                        have h1 := hBc i (by omega)
                        rw [List.getD_eq_getElem?_getD, List.getElem?_eq_getElem hi] at h1
                        rw [h1]; exact hu
                      · rw [List.getElem?_eq_none (by omega)] at hu; cases hu)
                    have HPL : Hid ((PD.map (Value.int .i64)).length = kk * 1) := Lib.hid (by rw [List.length_map, hkk, Nat.mul_one])
                    have HP1 : Hid (∀ u ∈ PD.map (Value.int .i64), u.oneCell' = true) := Lib.hid (fun u hu => by obtain ⟨x, _, rfl⟩ := List.mem_map.1 hu; rfl)
                    have hgb : gq ≤ wb.heap.size := by have := HWb.out.size; have := HGE.out; omega
                    have HOL : Hid ((wb.alloc (.cells #[.int .i64 (q : Int)] 3)).ownsRow gq 3 1 (.slice (some ⟨wb.heap.size, 0, none⟩) 1 1) 1 [.int .i64 (q : Int)]) := Lib.hid (World.ownsRow_lit wb #[.int .i64 (q : Int)] 1 hgb (by unfold maxLen; omega) rfl)
                    have HU1 := Lib.hid hupd.1
                    have HU2 := Lib.hid hupd2
                    have HKK : Hid (PD.length = kk ∧ True) := Lib.hid ⟨hkk, trivial⟩
                    clear hupd hupd2 hPD hpd hrd hPDe hkk hBc
                    go_wp2_with (at_builtin; refine wpList_append_own_at _ rfl (.tmp 106) (.tmp 110) 28 rfl gq 3 i0 _ 1 8 Tryd.underlying28 hi0 hz0 hz1 hz2 rfl (by decide) _ _ _ rfl HOL.out adB kk ck (PD.map (Value.int .i64)) rfl HPL.out HNW.out HP1.out (by unfold maxLen; omega) (by omega) (by simp; omega) ?_)
                    intro v5 w5 hown5 hgrow5 _ _
                    have HW5 : Hid (Below gq wq w5) := Lib.hid ((HWb.out.alloc hgb _).grown hgrow5 (by simp; omega) (fun z e => (HOL.out.lt z e).1))
                    have HV5 : Hid (w5.ownsRow gq 3 1 v5 (dP X b m k1 j q (t + 1)).length ((dP X b m k1 j q (t + 1)).map (Value.int .i64))) := Lib.hid (by
                      rw [HU2.out, List.length_cons, HKK.out.1, Nat.add_comm kk 1]
                      exact hown5)
                    clear hown5 hgrow5
                    go_wp2
                    go_roundw
                    case rel => exact ⟨t + 1, by omega, by rw [show q - 1 + (t + 1) = d + 1 by omega]; go_num, by rw [HU1.out], HV5.out, HW5.out⟩
                    case measure => simp [intOf]; omega
                  · by_cases hc1 : sm < ct
                    · have hupd := hds2.1 ⟨hn0, .inr hc1⟩
                      clear hds2
                      obtain ⟨B0, kk, ck, hPD⟩ := HPD.out d hdm
                      have hpd := hPD wb (HBo.out.trans (HWb.out.mono (by have := HBo.out.size; have := HBE.out; have := HGE.out; omega)))
                      have hrd := hpd.2
                      have hwl : Below base wo (wb.alloc (.cells #[.int .i64 (q : Int)] 3)) := (HBo.out.trans (HWb.out.mono (by have := HBo.out.size; have := HBE.out; have := HGE.out; omega))).alloc (by have := HWb.out.size; have := HGE.out; have := HBo.out.size; have := HBE.out; omega) _
                      have hpc := (hPD _ hwl).1
                      clear hwl
                      obtain ⟨PD, hPDe⟩ : ∃ L, pathR X b m k1 (j + 1) d = L := ⟨_, rfl⟩
                      rw [hPDe] at hrd
                      have hupd2 := hupd.2
                      rw [hPDe] at hupd2
                      have hkk : PD.length = kk := hrd.1
                      have hkb : kk ≤ 100 := by rw [← hkk, ← hPDe]; exact Nat.le_trans (pathR_length X b m k1 (j + 1) d) (by omega)
                      have hk0' : 0 < kk := by
                        rw [← hkk, ← hPDe]
                        unfold pathR
                        rw [if_pos (by have := hnd; unfold costR at this; by_cases e : cellV X (j + 1) d < 50200; exact e; rw [if_neg e] at this; omega), tailP_length]
                        omega
                      obtain ⟨adB, hB0, hBlt, hBc⟩ := hrd.2 hk0'
                      subst hB0
                      have HNW : Hid (∀ i u, (PD.map (Value.int .i64))[i]? = some u → (wb.alloc (.cells #[.int .i64 (q : Int)] 3)).cell? (adB.add i) = some u) := Lib.hid (fun i u hu => by
                        rw [World.cell?_alloc_lt _ _ _ (by rw [addBlock]; exact hBlt)]
                        rw [List.getElem?_map] at hu
                        by_cases hi : i < PD.length
                        · rw [List.getElem?_eq_getElem hi, Option.map_some] at hu
                          have h1 := hBc i (by omega)
                          rw [List.getD_eq_getElem?_getD, List.getElem?_eq_getElem hi] at h1
                          rw [h1]; exact hu
                        · rw [List.getElem?_eq_none (by omega)] at hu; cases hu)
                      have HPL : Hid ((PD.map (Value.int .i64)).length = kk * 1) := Lib.hid (by rw [List.length_map, hkk, Nat.mul_one])
                      have HP1 : Hid (∀ u ∈ PD.map (Value.int .i64), u.oneCell' = true) := Lib.hid (fun u hu => by obtain ⟨x, _, rfl⟩ := List.mem_map.1 hu; rfl)
                      have hgb : gq ≤ wb.heap.size := by have := HWb.out.size; have := HGE.out; omega
                      have HOL : Hid ((wb.alloc (.cells #[.int .i64 (q : Int)] 3)).ownsRow gq 3 1 (.slice (some ⟨wb.heap.size, 0, none⟩) 1 1) 1 [.int .i64 (q : Int)]) := Lib.hid (World.ownsRow_lit wb #[.int .i64 (q : Int)] 1 hgb (by unfold maxLen; omega) rfl)
                      have HU1 := Lib.hid hupd.1
                      have HU2 := Lib.hid hupd2
                      have HKK : Hid (PD.length = kk ∧ True) := Lib.hid ⟨hkk, trivial⟩
                      clear hupd hupd2 hPD hpd hrd hPDe hkk hBc
                      go_wp2_with (at_builtin; refine wpList_append_own_at _ rfl (.tmp 106) (.tmp 110) 28 rfl gq 3 i0 _ 1 8 Tryd.underlying28 hi0 hz0 hz1 hz2 rfl (by decide) _ _ _ rfl HOL.out adB kk ck (PD.map (Value.int .i64)) rfl HPL.out HNW.out HP1.out (by unfold maxLen; omega) (by omega) (by simp; omega) ?_)
                      intro v5 w5 hown5 hgrow5 _ _
                      have HW5 : Hid (Below gq wq w5) := Lib.hid ((HWb.out.alloc hgb _).grown hgrow5 (by simp; omega) (fun z e => (HOL.out.lt z e).1))
                      have HV5 : Hid (w5.ownsRow gq 3 1 v5 (dP X b m k1 j q (t + 1)).length ((dP X b m k1 j q (t + 1)).map (Value.int .i64))) := Lib.hid (by
                        rw [HU2.out, List.length_cons, HKK.out.1, Nat.add_comm kk 1]
                        exact hown5)
                      clear hown5 hgrow5
                      go_wp2
                      go_roundw
                      case rel => exact ⟨t + 1, by omega, by rw [show q - 1 + (t + 1) = d + 1 by omega]; go_num, by rw [HU1.out], HV5.out, HW5.out⟩
                      case measure => simp [intOf]; omega
                    · have hupd := hds2.2 (fun h => by rcases h.2 with h | h <;> omega)
                      clear hds2
                      have HV5 : Hid (wb.ownsRow gq 3 1 u16 (dP X b m k1 j q (t + 1)).length ((dP X b m k1 j q (t + 1)).map (Value.int .i64))) := Lib.hid (by rw [hupd.2]; exact HVb.out)
                      have HU1 := Lib.hid hupd.1
                      clear hupd
                      go_wp2
                      go_roundw
                      case rel => exact ⟨t + 1, by omega, by rw [show q - 1 + (t + 1) = d + 1 by omega]; go_num, by rw [HU1.out], HV5.out, HWb.out⟩
                      case measure => simp [intOf]; omega
                · have hupd := hds2.2 (fun h => hn0 h.1)
                  clear hds2
                  have HV5 : Hid (wb.ownsRow gq 3 1 u16 (dP X b m k1 j q (t + 1)).length ((dP X b m k1 j q (t + 1)).map (Value.int .i64))) := Lib.hid (by rw [hupd.2]; exact HVb.out)
                  have HU1 := Lib.hid hupd.1
                  clear hupd
                  go_wp2
                  go_roundw
                  case rel => exact ⟨t + 1, by omega, by rw [show q - 1 + (t + 1) = d + 1 by omega]; go_num, by rw [HU1.out], HV5.out, HWb.out⟩
                  case measure => simp [intOf]; omega
              · obtain rfl : nbrCount q m = t := by omega
                have hdI : ¬ (d : Int) ≤ (hi : Int) := by omega
                have hda := HDA.out q hltq
                rw [hvv, hct] at hda
                obtain ⟨BL, hBL⟩ : ∃ L, dP X b m k1 j q (nbrCount q m) = L := ⟨_, rfl⟩
                rw [hBL] at hda HVt
                have HCZ := Lib.hid hda.1.symm
                have HBL : Hid (pathR X b m k j q = BL) := Lib.hid (by rw [← hk1]; exact hda.2.symm)
                have HBV := HVt
                have HWE := HWt
                obtain ⟨we, hwe⟩ : ∃ W, W = wr := ⟨_, rfl⟩
                subst hwe
                obtain ⟨Bb, cb, hbv, _⟩ := own_formO HBV.out
                subst hbv
                clear hda hBL HVt HWt hct
                have hq3 : gq ≤ we.heap.size := by have := HWE.out.size; have := HGE.out; omega
                have hbs : base ≤ gq := HGQ.out
                obtain ⟨L, hL1, hL2, hL3, hL4⟩ := HNX.out
                have hLq := hL2.1
                have RZ1 : Hid (RowsO we base ((u14, (List.range q).map (costR X j)) :: (L ++ [(Value.slice Bb BL.length cb, BL)]))) := Lib.hid (RowsO.snoc hL1 (by rw [HGE.out]; exact HWE.out) (by rw [HGE.out]; exact HBV.out) (by rw [HGE.out]; exact hbs))
                have OP1 := Lib.hid (ownLater hL2 (by rw [HGE.out]; exact HWE.out))
                have HL3 := Lib.hid hL3
                have HLQ : Hid (L.length = q) := Lib.hid (by simpa using hLq)
                have HRL : Hid (((List.range q).map (costR X j)).length = q) := Lib.hid (by simp)
                have HB3 : Hid (Below base wo we) := Lib.hid (HBq.out.trans (HWE.out.mono hbs))
                have hb3 : base ≤ we.heap.size := by omega
                clear hL1 hL2 hL3 hL4 hLq HBV HWE HNX HBq
                go_wp2_with (at_builtin; refine wpList_append_own_at _ rfl (.tmp 113) (.tmp 115) 22 rfl base 28 i1 _ 1 24 Tryd.underlying22 hi1 hy0 hy1 hy2 rfl (by decide) _ _ _ rfl (OP1.out.alloc _) ⟨we.heap.size, 0, none⟩ 1 1 [_] rfl rfl (cell_one_new _ _ _) (by simp [Value.oneCell']) (by unfold maxLen; omega) (by omega) (by simp; omega) ?_)
                intro vp w4 hownp hgrowp _ _
                have RZ4 := Lib.hid (RowsO.kept (RZ1.out.alloc _) (OP1.out.alloc _) hgrowp)
                have OP4 : Hid (w4.ownsRow base 28 1 vp (q + 1) ((L ++ [(Value.slice Bb BL.length cb, BL)]).map Prod.fst)) := Lib.hid (by rw [List.map_append]; exact hownp)
                have HB4 : Hid (Below base wo w4) := Lib.hid ((HB3.out.alloc hb3 _).grown hgrowp (by simp; omega) (fun z e => (OP1.out.lt z e).1))
                have hq4 : base ≤ w4.heap.size := by
                  have := (((Below.refl base we).alloc hb3 (.cells #[Value.slice Bb BL.length cb] 28)).grown hgrowp (by simp; omega) (fun z e => (OP1.out.lt z e).1)).size
                  omega
                have hd4 := RZ4.out.head
                rw [HRL.out] at hd4
                have HD4 := Lib.hid hd4
                clear hownp hgrowp RZ1 OP1 HB3 hd4
                go_wp2_with (at_builtin; refine wpList_append_own_at _ rfl (.tmp 117) (.tmp 119) 28 rfl base 3 i0 _ 1 8 Tryd.underlying28 hi0 hz0 hz1 hz2 rfl (by decide) _ _ _ rfl (HD4.out.alloc _) ⟨w4.heap.size, 0, none⟩ 1 1 [.int .i64 ct] rfl rfl (cell_one_new _ _ _) (by simp [Value.oneCell']) (by unfold maxLen; omega) (by omega) (by simp; omega) ?_)
                intro vn w5 hownn hgrown _ hatn
                have HNX5 : Hid (NxR w5 base vp vn (q + 1) ((List.range (q + 1)).map (pathR X b m k j)) ((List.range (q + 1)).map (costR X j))) := Lib.hid (by
                  refine ⟨L ++ [(Value.slice Bb BL.length cb, BL)], ?_, ?_, ?_, by simp⟩
                  · rw [range_snoc, HCZ.out]
                    refine RowsO.step (pre := []) (post := L ++ [(Value.slice Bb BL.length cb, BL)]) (RZ4.out.alloc (.cells #[.int .i64 ct] 3)) ?_ hgrown (by simpa using hatn)
                    rw [HRL.out]
                    first | exact hownn | (rw [List.map_map]; exact hownn)
                  · exact (OP4.out.alloc (.cells #[.int .i64 ct] 3)).kept hgrown (own_apart2 (HD4.out.alloc (.cells #[.int .i64 ct] 3)) (OP4.out.alloc (.cells #[.int .i64 ct] 3)))
                  · rw [List.map_append, HL3.out, range_snoc, HBL.out]; rfl)
                have HB5 : Hid (Below base wo w5) := Lib.hid ((HB4.out.alloc hq4 _).grown hgrown (by simp; omega) (fun z e => (HD4.out.lt z e).1))
                clear hownn hgrown hatn RZ4 OP4 HB4 HD4
                go_wp2
                go_roundw
                case rel => exact ⟨q + 1, Nat.succ_le_of_lt hltq, by rw [show ((q + 1 : Nat) : Int) = p1 by have := HPQ.out; omega], HNX5.out, HB5.out⟩
                case measure => have := HPQ.out; have := hltq; simp [intOf]; omega
        · obtain rfl : m = q := by omega
          have hrdx := HNX.out.read (by omega) (fun r hr => by
            obtain ⟨x, _, rfl⟩ := List.mem_map.1 hr
            exact Nat.le_trans (pathR_length X b m k j x) (by omega))
          have HPN : Hid (k + 1 = 0 ∧ u13 = .slice none 0 0 ∧ u14 = .slice none 0 0 ∨ 0 < k + 1 ∧ (∃ A c, u13 = .slice A m c ∧ RdGN wq A m ((List.range m).map (pathR X b m (k + 1 - 1) (n - (k + 1))))) ∧ ∃ A c, u14 = .slice A m c ∧ RdI wq A m ((List.range m).map (costR X (n - (k + 1))))) := Lib.hid (.inr ⟨by omega, by rw [show k + 1 - 1 = k by omega, show n - (k + 1) = j by omega]; exact hrdx.1, by rw [show n - (k + 1) = j by omega]; exact hrdx.2⟩)
          have HBn : Hid (Below W1.heap.size W1 wq) := Lib.hid hB1q
          clear hrdx hB1q
          go_wp2
          go_roundw
          case rel => exact ⟨k + 1, by omega, by rw [show (n : Int) - 1 - ((k + 1 : Nat) : Int) = (j : Int) - 1 by omega], HPN.out, HBn.out⟩
          case measure => first | (simp [intOf]; omega) | simp [intOf]
    · obtain rfl : n = k := by omega
      have hjz : ¬ (0 : Int) ≤ (n : Int) - 1 - (n : Int) := by omega
      rw [show (n : Int) - 1 - (n : Int) = -1 by omega]
      obtain ⟨⟨Ap, cp, hpv, hrp⟩, Ac, cc, hcv, hrc⟩ := (HP.out.resolve_left (fun h => by omega)).2
      subst hpv hcv
      rw [Nat.sub_self] at hrp hrc
      obtain ⟨apd, hAp, hapb, hpc⟩ := hrp.2 (by omega)
      obtain ⟨acd, hAc, hacb, hcc⟩ := hrc.2 (by omega)
      subst hAp hAc
      obtain ⟨B0, kk, ck, q1, q3, _⟩ := hpc first hf
      have q2 := hcc first hf
      rw [range_getD _ _ _ _ hf] at q2 q3
      have hkk : (pathR X b m (n - 1) 0 first).length = kk := q3.1
      have HFIN : Hid ((∃ A' c', (Value.slice B0 kk ck) = .slice A' (pathR X b m (n - 1) 0 first).length c' ∧ RdI wo A' (pathR X b m (n - 1) 0 first).length (pathR X b m (n - 1) 0 first)) ∧ Below w.heap.size w wo) := Lib.hid ⟨⟨B0, ck, by rw [hkk], by rw [hkk]; exact q3⟩, HB1.out.trans (HB.out.mono HB1.out.size)⟩
      obtain ⟨cf, hcf⟩ : ∃ z, costR X 0 first = z := ⟨_, rfl⟩
      rw [hcf] at q2
      have HCF := Lib.hid hcf
      have hfI : (first : Int) < (m : Int) := by omega
      have hf0 : (0 : Int) ≤ (first : Int) := by omega
      clear hcf hkk q3 hpc hcc hrp hrc
      go_wp2_with fail
      refine wp_region_held_drew (S := (fun W : World => W.cell? (apd.add first) = some (.slice B0 kk ck) ∧ W.cell? (acd.add first) = some (.int .i64 cf))) (by kernel_rfl) ?_ ?_
      · exact ⟨q1, q2⟩
      intro hHeld
      refine wpAnyH_take (i := 0) (v := ?_) rfl (by kernel_rfl) (by kernel_rfl) (by kernel_rfl) (fun _ _ _ h => h) (Or.inl ⟨by rfl, ?_⟩) (by assumption) ?_
      rotate_left
      · intro w hSw; (try dsimp only at hSw); go_simp; (try (with_reducible rfl))
      try simp only [List.getElem_toArray, List.getElem_cons_succ, List.getElem_cons_zero, Act.put, List.setIfInBounds_toArray, List.set_cons_zero, List.set_cons_succ]
      refine wpAnyH_take (i := 1) (v := ?_) rfl (by kernel_rfl) (by kernel_rfl) (by kernel_rfl) (fun _ _ _ h => h) (Or.inl ⟨by rfl, ?_⟩) (by assumption) ?_
      rotate_left
      · intro w hSw; (try dsimp only at hSw); go_simp; (try (with_reducible rfl))
      try simp only [List.getElem_toArray, List.getElem_cons_succ, List.getElem_cons_zero, Act.put, List.setIfInBounds_toArray, List.set_cons_zero, List.set_cons_succ]
      refine wpAnyH_take (i := 2) (v := ?_) rfl (by kernel_rfl) (by kernel_rfl) (by kernel_rfl) (fun _ _ _ h => h) (Or.inl ⟨by rfl, ?_⟩) (by assumption) ?_
      rotate_left
      · intro w hSw; (try dsimp only at hSw); go_simp; (try (with_reducible rfl))
      try simp only [List.getElem_toArray, List.getElem_cons_succ, List.getElem_cons_zero, Act.put, List.setIfInBounds_toArray, List.set_cons_zero, List.set_cons_succ]
      refine wpAnyH_take (i := 3) (v := ?_) rfl (by kernel_rfl) (by kernel_rfl) (by kernel_rfl) (fun _ _ _ h => h) (Or.inl ⟨by rfl, ?_⟩) (by assumption) ?_
      rotate_left
      · intro w hSw; (try dsimp only at hSw); go_simp; (try (with_reducible rfl))
      try simp only [List.getElem_toArray, List.getElem_cons_succ, List.getElem_cons_zero, Act.put, List.setIfInBounds_toArray, List.set_cons_zero, List.set_cons_succ]
      refine wpAnyH_take (i := 4) (v := ?_) rfl (by kernel_rfl) (by kernel_rfl) (by kernel_rfl) (fun _ _ _ h => h) (Or.inl ⟨by rfl, ?_⟩) (by assumption) ?_
      rotate_left
      · intro w hSw; (try dsimp only at hSw); go_simp; (try (with_reducible rfl))
      try simp only [List.getElem_toArray, List.getElem_cons_succ, List.getElem_cons_zero, Act.put, List.setIfInBounds_toArray, List.set_cons_zero, List.set_cons_succ]
      refine wpAnyH_take (i := 5) (v := ?_) rfl (by kernel_rfl) (by kernel_rfl) (by kernel_rfl) (fun _ _ _ h => h) (Or.inl ⟨by rfl, ?_⟩) (by assumption) ?_
      rotate_left
      · intro w hSw; (try dsimp only at hSw); go_simp; (try (with_reducible rfl))
      try simp only [List.getElem_toArray, List.getElem_cons_succ, List.getElem_cons_zero, Act.put, List.setIfInBounds_toArray, List.set_cons_zero, List.set_cons_succ]
      refine wpAnyH_take (i := 6) (v := ?_) rfl (by kernel_rfl) (by kernel_rfl) (by kernel_rfl) (fun _ _ _ h => h) (Or.inl ⟨by rfl, ?_⟩) (by assumption) ?_
      rotate_left
      · intro w hSw; (try dsimp only at hSw); go_simp; (try (with_reducible rfl))
      try simp only [List.getElem_toArray, List.getElem_cons_succ, List.getElem_cons_zero, Act.put, List.setIfInBounds_toArray, List.set_cons_zero, List.set_cons_succ]
      refine wpAnyH_take (i := 7) (v := ?_) rfl (by kernel_rfl) (by kernel_rfl) (by kernel_rfl) (fun _ _ _ h => h) (Or.inl ⟨by rfl, ?_⟩) (by assumption) ?_
      rotate_left
      · intro w hSw; (try dsimp only at hSw); go_simp; (try (with_reducible rfl))
      try simp only [List.getElem_toArray, List.getElem_cons_succ, List.getElem_cons_zero, Act.put, List.setIfInBounds_toArray, List.set_cons_zero, List.set_cons_succ]
      refine wpAnyH_take (i := 8) (v := ?_) rfl (by kernel_rfl) (by kernel_rfl) (by kernel_rfl) (fun _ _ _ h => h) (Or.inl ⟨by rfl, ?_⟩) (by assumption) ?_
      rotate_left
      · intro w hSw; (try dsimp only at hSw); go_simp; (try (with_reducible rfl))
      try simp only [List.getElem_toArray, List.getElem_cons_succ, List.getElem_cons_zero, Act.put, List.setIfInBounds_toArray, List.set_cons_zero, List.set_cons_succ]
      refine wpAnyH_take (i := 9) (v := ?_) rfl (by kernel_rfl) (by kernel_rfl) (by kernel_rfl) (fun _ _ _ h => h) (Or.inl ⟨by rfl, ?_⟩) (by assumption) ?_
      rotate_left
      · intro w hSw; (try dsimp only at hSw); go_simp; (try (with_reducible rfl))
      try simp only [List.getElem_toArray, List.getElem_cons_succ, List.getElem_cons_zero, Act.put, List.setIfInBounds_toArray, List.set_cons_zero, List.set_cons_succ]
      refine wpAnyH_take (i := 10) (v := ?_) rfl (by kernel_rfl) (by kernel_rfl) (by kernel_rfl) (fun _ _ _ h => h) (Or.inl ⟨by rfl, ?_⟩) (by assumption) ?_
      rotate_left
      · intro w hSw; (try dsimp only at hSw); go_simp; (try (with_reducible rfl))
      try simp only [List.getElem_toArray, List.getElem_cons_succ, List.getElem_cons_zero, Act.put, List.setIfInBounds_toArray, List.set_cons_zero, List.set_cons_succ]
      refine wpAnyH_take (i := 11) (v := ?_) rfl (by kernel_rfl) (by kernel_rfl) (by kernel_rfl) (fun _ _ _ h => h) (Or.inl ⟨by rfl, ?_⟩) (by assumption) ?_
      rotate_left
      · intro w hSw; (try dsimp only at hSw); go_simp; (try (with_reducible rfl))
      try simp only [List.getElem_toArray, List.getElem_cons_succ, List.getElem_cons_zero, Act.put, List.setIfInBounds_toArray, List.set_cons_zero, List.set_cons_succ]
      refine wpAnyH_take (i := 12) (v := ?_) rfl (by kernel_rfl) (by kernel_rfl) (by kernel_rfl) (fun _ _ _ h => h) (Or.inl ⟨by rfl, ?_⟩) (by assumption) ?_
      rotate_left
      · intro w hSw; (try dsimp only at hSw); go_simp; (try (with_reducible rfl))
      try simp only [List.getElem_toArray, List.getElem_cons_succ, List.getElem_cons_zero, Act.put, List.setIfInBounds_toArray, List.set_cons_zero, List.set_cons_succ]
      refine wpAnyH_take (i := 13) (v := ?_) rfl (by kernel_rfl) (by kernel_rfl) (by kernel_rfl) (fun _ _ _ h => h) (Or.inl ⟨by rfl, ?_⟩) (by assumption) ?_
      rotate_left
      · intro w hSw; (try dsimp only at hSw); go_simp; (try (with_reducible rfl))
      try simp only [List.getElem_toArray, List.getElem_cons_succ, List.getElem_cons_zero, Act.put, List.setIfInBounds_toArray, List.set_cons_zero, List.set_cons_succ]
      refine wpAnyH_take (i := 14) (v := ?_) rfl (by kernel_rfl) (by kernel_rfl) (by kernel_rfl) (fun _ _ _ h => h) (Or.inl ⟨by rfl, ?_⟩) (by assumption) ?_
      rotate_left
      · intro w hSw; (try dsimp only at hSw); go_simp; (try (with_reducible rfl))
      try simp only [List.getElem_toArray, List.getElem_cons_succ, List.getElem_cons_zero, Act.put, List.setIfInBounds_toArray, List.set_cons_zero, List.set_cons_succ]
      refine wpAnyH_take (i := 15) (v := ?_) rfl (by kernel_rfl) (by kernel_rfl) (by kernel_rfl) (fun _ _ _ h => h) (Or.inl ⟨by rfl, ?_⟩) (by assumption) ?_
      rotate_left
      · intro w hSw; (try dsimp only at hSw); go_simp; (try (with_reducible rfl))
      try simp only [List.getElem_toArray, List.getElem_cons_succ, List.getElem_cons_zero, Act.put, List.setIfInBounds_toArray, List.set_cons_zero, List.set_cons_succ]
      refine wpAnyH_done (by kernel_rfl) ?_ _
      clear hHeld
      go_wp2
      go_ret3
      obtain ⟨⟨A', c', e1, e2⟩, e3⟩ := HFIN.out
      first | exact ⟨⟨A', c', by rw [HCF.out, ← e1]; rfl, e2⟩, e3.drew⟩ | exact ⟨⟨A', ⟨c', by rw [HCF.out, ← e1]; rfl⟩, e2⟩, e3.drew⟩ | exact ⟨⟨A', ⟨c', by rw [← e1]; rfl⟩, e2⟩, e3.drew⟩

end Go.Proofs.YtpkjkegcdddimaaDoor
