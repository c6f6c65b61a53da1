import Derived.Test.YtepjnkmmielamaaDoorW43
namespace Go.Proofs.YtepjnkmmielamaaDoor
open Go.RowKit

set_option maxRecDepth 100000 in
theorem bitsOf_any (m c : Nat) (w : World) (hm : m ≤ 10000000) (hc : c ≤ 64) :
    Calls Tryd.prog 105 #[.int .i64 m, .int .i64 c] w fun e w' => e = .returned (.slice (some ⟨w.heap.size, 0, none⟩) c c) ∧ Bk w' w.heap.size 3 (iArr (bitsOf m c)) ∧ Below w.heap.size w w' := by
  have hmk := make_row c (by omega)
  rw [arrR_zero, ← bitRow_all m c] at hmk
  go_enter Tryd.func105, Tryd.ntmps105
  go_wp2
  go_loopw [0, 6] (fun n i wr => ∃ t : Nat, t ≤ c ∧ i = .int .i64 ((t : Int) - 1) ∧ n = .int .i64 ((m / 2 ^ (c - t) : Nat) : Int) ∧ Hid (Bk wr w.heap.size 3 (iArr (bitRow m c t))) ∧ Hid (Below w.heap.size w wr)) (fun _ i _ => (intOf i + 1).toNat)
  case atStart => exact ⟨c, Nat.le_refl _, rfl, by simp, Bk.new _ _ _, (Below.refl _ _).alloc (Nat.le_refl _) _⟩
  case round =>
    obtain ⟨t, ht, rfl, rfl, hx, hb⟩ := hrel
    have hqb : m / 2 ^ (c - t) ≤ 10000000 := Nat.le_trans (Nat.div_le_self _ _) hm
    cases t with
    | zero =>
      go_wp2
      go_ret
      refine ⟨rfl, ?_, hb.out⟩
      have := hx.out
      rw [bitRow_zero] at this
      exact this
    | succ s =>
      have e0 : (((s + 1 : Nat) : Int) - 1) = (s : Int) := by omega
      rw [e0]
      clear e0
      have hset := bitRow_set m c s (by omega)
      have hexp : c - 1 - s = c - (s + 1) := by omega
      have hdiv : Hid (m / 2 ^ (c - (s + 1)) / 2 = m / 2 ^ (c - s)) := by
        show _ / _ / _ = _
        have e : c - s = (c - (s + 1)) + 1 := by omega
        rw [e, Nat.pow_succ, Nat.div_div_eq_div_mul]
      rw [hexp] at hset
      clear hexp
      obtain ⟨q, hq⟩ : ∃ q, m / 2 ^ (c - (s + 1)) = q := ⟨_, rfl⟩
      rw [hq] at hset hqb hdiv ⊢
      clear hq
      have HS := Lib.hid hset
      clear hset
      have hl := bitRow_length m c (s + 1) ht
      have hold : wr.cell? ⟨w.heap.size, s, none⟩ = some (.int .i64 ((bitRow m c (s + 1)).getD s 0)) := by rw [hx.out.cell]; exact iArr_at _ _ (by omega)
      have hfr : wr.frozen? ⟨w.heap.size, s, none⟩ = false := hx.out.frozen s
      obtain ⟨o, ho⟩ : ∃ o, (bitRow m c (s + 1)).getD s 0 = o := ⟨_, rfl⟩
      rw [ho] at hold
      clear ho hl
      go_wp2
      go_roundw
      case rel =>
        refine ⟨s, by omega, by first | rfl | (congr 1; omega), ?_, ?_, ?_⟩
        · rw [← hdiv.out]; simp
        · have := hx.out.set_ s (.int .i64 ((q % 2 : Nat) : Int))
          rw [iArr_set, HS.out] at this
          first | exact this | simpa using this
        · exact hb.out.setCell (by simp) _
      case measure => simp [intOf] <;> omega

theorem bitsOf_two (m : Nat) (w : World) (hm : m ≤ 10000000) :
    Calls Tryd.prog 105 #[.int .i64 m, .int .i64 2] w fun e w' => e = .returned (.slice (some ⟨w.heap.size, 0, none⟩) 2 2) ∧ Bk w' w.heap.size 3 (iArr (bitsOf m 2)) ∧ Below w.heap.size w w' := bitsOf_any m 2 w hm (by omega)
theorem bitsOf_five (m : Nat) (w : World) (hm : m ≤ 10000000) :
    Calls Tryd.prog 105 #[.int .i64 m, .int .i64 5] w fun e w' => e = .returned (.slice (some ⟨w.heap.size, 0, none⟩) 5 5) ∧ Bk w' w.heap.size 3 (iArr (bitsOf m 5)) ∧ Below w.heap.size w w' := bitsOf_any m 5 w hm (by omega)

theorem own_of_bk {w : World} {base g : Nat} {xs : List Int} (n : Nat) (h : Bk w g 3 (iArr xs)) (hn : xs.length = n) (hb : base ≤ g) (hm : n ≤ 10000000) : w.ownsRow base 3 1 (.slice (some ⟨g, 0, none⟩) n n) n (xs.map (Value.int .i64)) := by
  refine ⟨by simp [hn], .inr ⟨g, n, iArr xs, rfl, hb, h, Nat.le_refl _, by unfold maxLen; omega, by rw [iArr_size]; omega, ?_⟩⟩
  have e : (iArr xs).toList = xs.map (Value.int .i64) := by simp [iArr]
  rw [e, List.take_of_length_le (by simp; omega)]
theorem src_of_bk {w : World} {g : Nat} {xs : List Int} (h : Bk w g 3 (iArr xs)) : ∀ j u, (xs.map (Value.int .i64))[j]? = some u → w.cell? ((⟨g, 0, none⟩ : Addr).add j) = some u := by
  intro j u hu
  have hadd : (⟨g, 0, none⟩ : Addr).add j = ⟨g, j, none⟩ := by unfold Addr.add; split <;> simp_all
  rw [hadd, h.cell]
  simpa [iArr, List.getElem?_toArray] using hu
theorem one_ints (xs : List Int) : ∀ u ∈ xs.map (Value.int .i64), u.oneCell' = true := by
  intro u hu
  obtain ⟨x, _, rfl⟩ := List.mem_map.1 hu
  rfl

theorem src_one (w : World) (v : Value) (t : TypeId) : ∀ j u, [v][j]? = some u → (w.alloc (.cells #[v] t)).cell? ((⟨w.heap.size, 0, none⟩ : Addr).add j) = some u := by
  intro j u hu
  match j, hu with
  | 0, hu =>
    simp at hu
    subst hu
    have hadd : (⟨w.heap.size, 0, none⟩ : Addr).add 0 = ⟨w.heap.size, 0, none⟩ := by unfold Addr.add; split <;> simp_all
    rw [hadd, cell_of_row _ _ 0 #[v] _ (0, 0) (heap_alloc_new w _)]
    rfl
theorem one_one (x : Int) : ∀ u ∈ [Value.int .i64 x], u.oneCell' = true := by
  intro u hu
  simp at hu
  subst hu
  rfl

end Go.Proofs.YtepjnkmmielamaaDoor
