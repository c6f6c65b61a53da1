import Derived.Test.YtepcciodhppbnaaE63

namespace Go.Proofs.Ytepcciodhppbnaa
open Go.RowKit

/-- A filter that is copied. -/
def CpF (w : World) (n : Nat) (b : Int) (cs : List Int) (e : Ending) (w' : World) : Prop :=
  (∃ A' c', e = .returned (.agg #[.slice A' n c', .int .i64 b]) ∧ RdI w' A' n cs ∧ n ≤ c' ∧ (A' = none → n = 0 ∧ c' = 0)) ∧ Below w.heap.size w w'
theorem ownBelow0 {w w' : World} {b : Nat} {v : Value} {n : Nat} {xs : List Value} (ho : w.ownsRow b 3 1 v n xs) (hb : Below w.heap.size w w') : w'.ownsRow b 3 1 v n xs := ownBelow ho hb
theorem rd_far {w : World} {base n c : Nat} {A : Option Addr} {cs : List Int} (h : w.ownsRow base 3 1 (.slice A n c) n (cs.map (Value.int .i64))) (a : Addr) (u : Value) (ha : a.block < base) : RdI (w.setCell a u) A n cs := by
  obtain ⟨A2, c2, e, _, hr⟩ := rd_of_own (ownFar h a u ha)
  injection e with e1
  subst e1
  exact hr
set_option maxRecDepth 100000 in
set_option maxHeartbeats 4000000 in
theorem copyFilter_any (A : Option Addr) (n c : Nat) (b : Int) (cs : List Int) (w : World) (hA : A = none → n = 0 ∧ c = 0) (hr : RdI w A n cs) (hn : n ≤ 1000000) :
    Calls Try.prog 33 #[.agg #[.slice A n c, .int .i64 b]] w (CpF w n b cs) := by
  have CC : Hid (∀ W, Below w.heap.size w W → Calls Try.prog 23 #[.slice A n c] W (OwnS W cs)) := fun W hb => copyInts_any A n c cs W hA (hr.below hb) hn
  have HCN : Hid (cs.length = n) := hr.1
  have R0 := Lib.hid ((OneB.start w 52 #[.slice A n c, .int .i64 b]).alloc (.cells #[.slice none 0 0, .int .i64 0] 52))
  have K0 : Hid (Bk ((w.alloc (.cells #[.slice A n c, .int .i64 b] 52)).alloc (.cells #[.slice none 0 0, .int .i64 0] 52)) (w.heap.size + 1) 52 #[.slice none 0 0, .int .i64 0]) := by
    have := Bk.new (w.alloc (.cells #[.slice A n c, .int .i64 b] 52)) 52 #[.slice none 0 0, .int .i64 0]
    refine Lib.hid ?_
    simpa using this
  clear hr hA
  go_enter Try.func33, Try.ntmps33
  obtain ⟨d0, d1⟩ := bkf2 R0.out.k
  go_wp2
  go_region_held3 (fun w' : World => w'.cell? ⟨w.heap.size, 0, none⟩ = some (.slice A n c) ∧ w'.cell? ⟨w.heap.size, 1, none⟩ = some (.int .i64 b)) ((go_split_ands; simp [go_sem, *]))
    ((go_at_call 23; refine (CC.out _ R0.out.drew.b).mono ?_; rintro e w3 ⟨⟨v, rfl, hown⟩, hb⟩; have hl := HCN.out; rw [hl] at hown; obtain ⟨A', c', rfl, hc', hr', hN'⟩ := rd_ownN hown; have R3 := OneB.later hb R0.out.drew; have K3 := Bk.later (K0.out.drew) hb; obtain ⟨d0, d1⟩ := bkf2 R3.k; obtain ⟨e0, e1⟩ := bkf2 K3; have f0 := K3.frozen 0; have f1 := K3.frozen 1))
  all_goals
    go_wp2
    refine bodyPost_ret (v := .agg #[.slice A' n c', .int .i64 b]) (by simp [results, Try.results33, go_sem, e0, e1, f0, f1]) rfl ⟨⟨A', c', rfl, ?_, hc', hN'⟩, ?_⟩
    · exact rd_far (ownFar hown _ _ (by simp)) _ _ (by simp)
    · have hbb := R3.b
      go_grown
end Go.Proofs.Ytepcciodhppbnaa
