import Derived.Test.YtepcciodhppbnaaE15
import Derived.Test.YtepcciodhppbnaaE17
import Derived.Deep.OwnRows
import Derived.Deep.DeepCutAuto
import Derived.Test.YtepcciodhppbnaaS5
import Derived.Test.YtepcciodhppbnaaE18
import Derived.Test.YtepcciodhppbnaaE27

namespace Go.Proofs.Ytepcciodhppbnaa
open Go.RowKit

/-- The slice '.slice A n c' reads as pairs. -/
def RdP (w : World) (A : Option Addr) (n : Nat) (ps : List (Int × Int)) : Prop :=
  ps.length = n ∧ (0 < n → ∃ ad, A = some ad ∧ ad.block < w.heap.size ∧ ∀ j, j < n → w.cell? (ad.add (j * 2)) = some (.int .i64 (ps.getD j (0, 0)).1) ∧ w.cell? ((ad.add (j * 2)).add 1) = some (.int .i64 (ps.getD j (0, 0)).2))
theorem RdP.below {w w' : World} {A : Option Addr} {n : Nat} {ps : List (Int × Int)} (h : RdP w A n ps) (hb : Below w.heap.size w w') : RdP w' A n ps := by
  refine ⟨h.1, fun hn => ?_⟩
  obtain ⟨ad, e, hlt, hc⟩ := h.2 hn
  exact ⟨ad, e, Nat.lt_of_lt_of_le hlt hb.size, fun j hj => ⟨(hb.cell (by rw [addBlock]; exact hlt)).trans (hc j hj).1, (hb.cell (by rw [addBlock, addBlock]; exact hlt)).trans (hc j hj).2⟩⟩

theorem refIsPos_any (n : Int) (w : World) : Calls Try.prog 101 #[.int .i64 n] w fun e w' => e = .returned (.bool (fromB 0 1000000 [n])) ∧ w = w' := by
  have CW := Lib.hid (fun w => within_any n 0 1000000 w)
  obtain ⟨b, hb⟩ : ∃ b, fromB 0 1000000 [n] = b := ⟨_, rfl⟩
  rw [hb] at CW ⊢
  clear hb
  go_enter Try.func101, Try.ntmps101
  go_wp2_with (go_at_call 18; refine (CW.out _).mono ?_; rintro e w' ⟨rfl, rfl⟩)
  go_ret
  exact ⟨rfl, rfl⟩
theorem refIsTick_any (n : Int) (w : World) : Calls Try.prog 102 #[.int .i64 n] w fun e w' => e = .returned (.bool (fromB 0 1000000000000 [n])) ∧ w = w' := by
  have CW := Lib.hid (fun w => within_any n 0 1000000000000 w)
  obtain ⟨b, hb⟩ : ∃ b, fromB 0 1000000000000 [n] = b := ⟨_, rfl⟩
  rw [hb] at CW ⊢
  clear hb
  go_enter Try.func102, Try.ntmps102
  go_wp2_with (go_at_call 18; refine (CW.out _).mono ?_; rintro e w' ⟨rfl, rfl⟩)
  go_ret
  exact ⟨rfl, rfl⟩
theorem nodeE_bad {b x : Int × Int} (h : fromB 0 1000000 [x.1] = false ∨ (fromB 0 1000000 [x.1] = true ∧ fromB 0 1000000000000 [x.2] = false)) : nodeE b x = 2 := by
  unfold nodeE rngE
  rcases h with h | ⟨h, h2⟩
  · rw [h]; simp [firstNZ]
  · rw [h, h2]; simp [firstNZ]
theorem nodeE_ord {b x : Int × Int} (h1 : fromB 0 1000000 [x.1] = true) (h2 : fromB 0 1000000000000 [x.2] = true) (h : x.1 ≤ b.1 ∨ x.2 ≤ b.2) : nodeE b x = 9 := by
  unfold nodeE rngE
  rw [h1, h2, if_pos h]; simp [firstNZ]
theorem nodeE_ok {b x : Int × Int} (h1 : fromB 0 1000000 [x.1] = true) (h2 : fromB 0 1000000000000 [x.2] = true) (h : ¬ (x.1 ≤ b.1 ∨ x.2 ≤ b.2)) : nodeE b x = 0 := by
  unfold nodeE rngE
  rw [h1, h2, if_neg h]; simp [firstNZ]
theorem OneB.drewN {w W : World} {g : Nat} {t : TypeId} {cs : Array Value} (h : OneB w g t cs W) (k : Nat) : OneB w g t cs (W.drewN k) := ⟨h.k.drewN k, belowDrewN h.b k⟩
/-- The node before the k-th one. -/
def befN (ns : List (Int × Int)) (k : Nat) : Int × Int := if k = 0 then (-1, -1) else ns.getD (k - 1) (0, 0)
set_option maxRecDepth 100000 in
set_option maxHeartbeats 4000000 in
theorem refCheckMap_any (A : Option Addr) (n c : Nat) (ns : List (Int × Int)) (w : World) (hr : RdP w A n ns) (hn : n ≤ 1000000) :
    Calls Try.prog 47 #[.agg #[.slice A n c]] w fun e w' => e = .returned (.tuple #[.int .i64 (mapR ns).1, .int .i64 (mapR ns).2]) ∧ Below w.heap.size w w' := by
  have R0 := Lib.hid (OneB.start w 24 #[.slice A n c])
  have c0 := R0.out.one
  have HR := Lib.hid hr
  have hl := hr.1
  clear hr
  have hM : mapR ns = if n < 2 then (0, 10) else if 20 < n then (0, 8) else mapGo (-1, -1) 0 ns := by unfold mapR; rw [hl]
  have HL := Lib.hid hl
  clear hl
  obtain ⟨⟨p1, p2⟩, hP⟩ : ∃ P, mapR ns = P := ⟨_, rfl⟩
  rw [hP] at hM ⊢
  clear hP
  by_cases h1 : n < 2
  · rw [if_pos h1] at hM
    obtain ⟨rfl, rfl⟩ := Prod.mk.inj hM
    have h1I : (n : Int) < 2 := by omega
    clear hM
    go_enter Try.func47, Try.ntmps47
    go_wp2
    go_ret2
    exact ⟨rfl, R0.out.b⟩
  rw [if_neg h1] at hM
  have h1I : ¬ (n : Int) < 2 := by omega
  by_cases h2 : 20 < n
  · rw [if_pos h2] at hM
    obtain ⟨rfl, rfl⟩ := Prod.mk.inj hM
    have h2I : (20 : Int) < n := by omega
    clear hM
    go_enter Try.func47, Try.ntmps47
    go_wp2
    go_ret2
    exact ⟨rfl, R0.out.b⟩
  rw [if_neg h2] at hM
  have h2I : ¬ (20 : Int) < n := by omega
  have HM := Lib.hid hM
  clear hM
  go_enter Try.func47, Try.ntmps47
  go_wp2
  clear c0
  go_loopw [4] (fun i wr => ∃ k : Nat, k ≤ n ∧ i = .int .i64 k ∧ Hid (OneB w w.heap.size 24 #[.slice A n c] wr) ∧ Hid ((p1, p2) = mapGo (befN ns k) k (ns.drop k))) (fun i _ => n - (intOf i).toNat)
  case atStart => exact ⟨0, Nat.zero_le _, rfl, R0, HM⟩
  case round =>
    obtain ⟨k, hk, rfl, RW, HG⟩ := hrel
    have c0 := RW.out.one
    by_cases hlt : k < n
    · have hkI : (k : Int) < (n : Int) := by omega
      have hRN := HR.out.below RW.out.b
      obtain ⟨ad, rfl, hgl, hcs⟩ := hRN.2 (by omega)
      obtain ⟨n1, n2⟩ := hcs k hlt
      have hs := mapGo_step (befN ns k) k ns (by have := HL.out; omega)
      have hbn : 0 < k → befN ns k = ns.getD (k - 1) (0, 0) := fun h => by unfold befN; rw [if_neg (by omega)]
      have hbz : k = 0 → befN ns k = (-1, -1) := fun h => by unfold befN; rw [if_pos h]
      have hbs : befN ns (k + 1) = ns.getD k (0, 0) := rfl
      have HS : Hid ((p1, p2) = if nodeE (befN ns k) (ns.getD k (0, 0)) = 0 then mapGo (befN ns (k + 1)) (k + 1) (ns.drop (k + 1)) else ((k : Int), nodeE (befN ns k) (ns.getD k (0, 0)))) := Lib.hid (by rw [HG.out, hs, hbs])
      clear hs hbs HG
      have W1 : Hid (OneB w w.heap.size 24 #[.slice (some ad) n c] (wr.alloc (.cells #[.int .i64 (ns.getD k (0, 0)).1, .int .i64 (ns.getD k (0, 0)).2] 69))) := Lib.hid (RW.out.alloc _)
      have hcp : 0 < k → (wr.alloc (.cells #[.int .i64 (ns.getD k (0, 0)).1, .int .i64 (ns.getD k (0, 0)).2] 69)).cell? (ad.add ((k - 1) * 2)) = some (.int .i64 (befN ns k).1) ∧ (wr.alloc (.cells #[.int .i64 (ns.getD k (0, 0)).1, .int .i64 (ns.getD k (0, 0)).2] 69)).cell? ((ad.add ((k - 1) * 2)).add 1) = some (.int .i64 (befN ns k).2) := fun h => by
        rw [hbn h]
        have := hcs (k - 1) (by omega)
        exact ⟨cellA _ this.1, cellA _ this.2⟩
      clear hcs hbn hRN
      obtain ⟨⟨b1, b2⟩, hbb⟩ : ∃ p, befN ns k = p := ⟨_, rfl⟩
      obtain ⟨⟨x, y⟩, hxy⟩ : ∃ p, ns.getD k (0, 0) = p := ⟨_, rfl⟩
      rw [hxy] at n1 n2 HS W1 hcp
      rw [hbb] at hbz HS hcp
      clear hxy hbb
      dsimp only at n1 n2 W1 hcp
      obtain ⟨ak, hak⟩ : ∃ a, ad.add (k * 2) = a := ⟨_, rfl⟩
      rw [hak] at n1 n2
      obtain ⟨ak1, hak1⟩ : ∃ a, ak.add 1 = a := ⟨_, rfl⟩
      rw [hak1] at n2
      have K1 : Hid (Bk (wr.alloc (.cells #[.int .i64 x, .int .i64 y] 69)) wr.heap.size 69 #[.int .i64 x, .int .i64 y]) := Lib.hid (Bk.new _ _ _)
      have C1 := Lib.hid (fun w => refIsPos_any x w)
      have C2 := Lib.hid (fun w => refIsTick_any y w)
      have HC := Lib.hid hcp
      have HBZ := Lib.hid hbz
      clear hcp hbz
      obtain ⟨t1, ht1⟩ : ∃ t, fromB 0 1000000 [x] = t := ⟨_, rfl⟩
      obtain ⟨t2, ht2⟩ : ∃ t, fromB 0 1000000000000 [y] = t := ⟨_, rfl⟩
      rw [ht1] at C1
      rw [ht2] at C2
      cases t1 with
      | false =>
        have h := HS.out
        rw [nodeE_bad (b := (b1, b2)) (x := (x, y)) (.inl ht1), if_neg (by decide)] at h
        obtain ⟨rfl, rfl⟩ := Prod.mk.inj h
        clear h ht1 ht2 HS C2
        go_wp2_with fail
        refine (C1.out _).mono ?_
        rintro e w' ⟨rfl, rfl⟩
        go_wp2
        go_ret2
        exact ⟨rfl, W1.out.b⟩
      | true =>
        cases t2 with
        | false =>
          have h := HS.out
          rw [nodeE_bad (b := (b1, b2)) (x := (x, y)) (.inr ⟨ht1, ht2⟩), if_neg (by decide)] at h
          obtain ⟨rfl, rfl⟩ := Prod.mk.inj h
          clear h ht1 ht2 HS
          go_wp2_with fail
          refine (C1.out _).mono ?_
          rintro e w' ⟨rfl, rfl⟩
          go_wp2_with fail
          refine (C2.out _).mono ?_
          rintro e w' ⟨rfl, rfl⟩
          go_wp2
          go_ret2
          exact ⟨rfl, W1.out.b⟩
        | true =>
          go_wp2_with fail
          refine (C1.out _).mono ?_
          rintro e w' ⟨rfl, rfl⟩
          go_wp2_with fail
          refine (C2.out _).mono ?_
          rintro e w' ⟨rfl, rfl⟩
          clear n1 n2 c0
          have c0 := W1.out.one
          obtain ⟨m1, m2, _, _⟩ := bk2 K1.out
          obtain ⟨W, hW⟩ : ∃ W, wr.alloc (.cells #[.int .i64 x, .int .i64 y] 69) = W := ⟨_, rfl⟩
          obtain ⟨gx, hgx⟩ : ∃ gx, wr.heap.size = gx := ⟨_, rfl⟩
          rw [hW] at c0 m1 m2 W1 HC K1 ⊢
          rw [hgx] at m1 m2 K1 ⊢
          clear hW hgx RW C1 C2 K1
          by_cases hk0 : k = 0
          · have hkz : ¬ (0 : Int) < (k : Int) := by omega
            have hd : decide ((0 : Int) < (k : Int)) = false := decide_eq_false hkz
            have hkN : ¬ 0 < k := by omega
            have hx : 0 ≤ x ∧ 0 ≤ y := by
              simp [fromB] at ht1 ht2; omega
            have hb := HBZ.out hk0
            have HS2 : Hid ((p1, p2) = mapGo (befN ns (k + 1)) (k + 1) (ns.drop (k + 1))) := by
              show _ = _
              rw [HS.out, nodeE_ok ht1 ht2 (by have h1 := congrArg Prod.fst hb; have h2 := congrArg Prod.snd hb; simp at h1 h2; simp; omega), if_pos rfl]
            clear HS HBZ HC hb ht1 ht2 hk0
            go_wp2
            go_quiet (fail)
            go_wp2
            go_roundw
            case rel => exact ⟨k + 1, by omega, by go_num, W1.out.drewN _, HS2⟩
            case measure => simp [intOf]; omega
          · have hkz : (0 : Int) < (k : Int) := by omega
            have hd : decide ((0 : Int) < (k : Int)) = true := decide_eq_true hkz
            have hkN : 0 < k := by omega
            obtain ⟨q1, q2⟩ := HC.out (by omega)
            obtain ⟨i, hi⟩ : ∃ i, k - 1 = i := ⟨_, rfl⟩
            rw [hi] at q1 q2
            obtain ⟨ai, hai⟩ : ∃ a, ad.add (i * 2) = a := ⟨_, rfl⟩
            rw [hai] at q1 q2
            obtain ⟨ai1, hai1⟩ : ∃ a, ai.add 1 = a := ⟨_, rfl⟩
            rw [hai1] at q2
            have w4 : IntKind.i64.wrap ((k : Int) - 1) = (i : Int) := by rw [show (k : Int) - 1 = (i : Int) by omega]; exact IntWalk.i64_in _ (by omega)
            have hiI : (i : Int) < (n : Int) := by omega
            have hiN : i < n := by omega
            clear hi HBZ HC hk0
            (try dsimp only at q1 q2)
            by_cases hx : x ≤ b1
            · have hdx : decide (x ≤ b1) = true := decide_eq_true hx
              have h := HS.out
              rw [nodeE_ord (b := (b1, b2)) (x := (x, y)) ht1 ht2 (.inl hx), if_neg (by decide)] at h
              obtain ⟨rfl, rfl⟩ := Prod.mk.inj h
              clear h ht1 ht2 HS
              go_wp2
              go_quiet (fail)
              go_wp2
              go_ret2
              exact ⟨rfl, (W1.out.drewN _).b⟩
            · have hdx : decide (x ≤ b1) = false := decide_eq_false hx
              by_cases hy : y ≤ b2
              · have hdy : decide (y ≤ b2) = true := decide_eq_true hy
                have h := HS.out
                rw [nodeE_ord (b := (b1, b2)) (x := (x, y)) ht1 ht2 (.inr hy), if_neg (by decide)] at h
                obtain ⟨rfl, rfl⟩ := Prod.mk.inj h
                clear h ht1 ht2 HS
                go_wp2
                go_quiet (fail)
                go_wp2
                go_ret2
                exact ⟨rfl, (W1.out.drewN _).b⟩
              · have hdy : decide (y ≤ b2) = false := decide_eq_false hy
                have HS2 : Hid ((p1, p2) = mapGo (befN ns (k + 1)) (k + 1) (ns.drop (k + 1))) := by
                  show _ = _
                  rw [HS.out, nodeE_ok ht1 ht2 (by simp; omega), if_pos rfl]
                clear ht1 ht2 HS
                go_wp2
                go_quiet (fail)
                go_wp2
                go_roundw
                case rel => exact ⟨k + 1, by omega, by go_num, W1.out.drewN _, HS2⟩
                case measure => simp [intOf]; omega
    · obtain rfl : n = k := by omega
      have hkI : ¬ (n : Int) < (n : Int) := by omega
      have h := HG.out
      rw [List.drop_eq_nil_of_le (by have := HL.out; omega)] at h
      obtain ⟨rfl, rfl⟩ := Prod.mk.inj h
      clear h
      go_wp2
      go_ret2
      exact ⟨rfl, RW.out.b⟩
theorem refMapErr_any (A : Option Addr) (n c : Nat) (ns : List (Int × Int)) (w : World) (hr : RdP w A n ns) (hn : n ≤ 1000000) :
    Calls Try.prog 37 #[.agg #[.slice A n c]] w fun e w' => e = .returned (.int .i64 (mapR ns).2) ∧ Below w.heap.size w w' := by
  have R0 := Lib.hid (OneB.start w 24 #[.slice A n c])
  have CM : Hid (∀ W, Below w.heap.size w W → Calls Try.prog 47 #[.agg #[.slice A n c]] W fun e w' => e = .returned (.tuple #[.int .i64 (mapR ns).1, .int .i64 (mapR ns).2]) ∧ Below W.heap.size W w') := Lib.hid (fun W hb => refCheckMap_any A n c ns W (hr.below hb) hn)
  have c0 := R0.out.one
  obtain ⟨⟨p1, p2⟩, hP⟩ : ∃ P, mapR ns = P := ⟨_, rfl⟩
  rw [hP] at CM ⊢
  clear hP hr
  go_enter Try.func37, Try.ntmps37
  go_wp2_with fail
  refine (CM.out _ R0.out.b).mono ?_
  rintro e w1 ⟨rfl, hb⟩
  have R1 := Lib.hid (OneB.later hb R0.out)
  clear hb R0 c0
  go_wp2
  go_ret
  exact ⟨rfl, R1.out.b⟩

end Go.Proofs.Ytepcciodhppbnaa


namespace Go.Proofs.Ytepcciodhppbnaa
open Go.RowKit

theorem bk2' {W : World} {g : Nat} {t : TypeId} {x y : Value} (h : Bk W g t #[x, y]) : W.cell? ⟨g, 0, none⟩ = some x ∧ W.cell? ⟨g, 1, none⟩ = some y ∧ W.frozen? ⟨g, 0, none⟩ = false ∧ W.frozen? ⟨g, 1, none⟩ = false :=
  ⟨by rw [h.cell]; rfl, by rw [h.cell]; rfl, h.frozen 0, h.frozen 1⟩
/-- The boxes of a function that reads two nodes of a map: the map's, the result's. -/
structure NI (w : World) (v : Value) (x1 x2 x3 x4 : Addr) (a1 a2 b1 b2 : Int) (W : World) : Prop where
  box : Bk W w.heap.size 24 #[v]
  res : ∃ t, ∃ x y : Value, Bk W (w.heap.size + 1) t #[x, y]
  c1 : W.cell? x1 = some (.int .i64 a1)
  c2 : W.cell? x2 = some (.int .i64 a2)
  c3 : W.cell? x3 = some (.int .i64 b1)
  c4 : W.cell? x4 = some (.int .i64 b2)
  bel : Below w.heap.size w W
  hg : x1.block < w.heap.size ∧ x2.block < w.heap.size ∧ x3.block < w.heap.size ∧ x4.block < w.heap.size
theorem upF_eq (n d : Int) (hd : 0 < d) : upF n d = (n + d - 1) / d := by
  unfold upF
  have h1 := Int.mul_ediv_self_le (x := n + d - 1) (k := d) (by omega)
  have h2 := Int.lt_mul_ediv_self_add (x := n + d - 1) (k := d) hd
  have h3 := Int.mul_ediv_self_le (x := -n) (k := d) (by omega)
  have h4 := Int.lt_mul_ediv_self_add (x := -n) (k := d) hd
  generalize (n + d - 1) / d = q at *
  generalize (-n) / d = r at *
  have e : d * (q + r) = d * q + d * r := Int.mul_add ..
  have a : q + r < 1 := by
    apply Int.lt_of_mul_lt_mul_left (a := d) _ (by omega)
    rw [e]; omega
  have b : -1 < q + r := by
    apply Int.lt_of_mul_lt_mul_left (a := d) _ (by omega)
    rw [e]; omega
  omega
theorem NI.drew {w W : World} {v : Value} {x1 x2 x3 x4 : Addr} {a1 a2 b1 b2 : Int} (h : NI w v x1 x2 x3 x4 a1 a2 b1 b2 W) : NI w v x1 x2 x3 x4 a1 a2 b1 b2 W.drew := ⟨h.box.drew, h.res, h.c1, h.c2, h.c3, h.c4, h.bel.drew, h.hg⟩
theorem NI.drewN {w W : World} {v : Value} {x1 x2 x3 x4 : Addr} {a1 a2 b1 b2 : Int} (h : NI w v x1 x2 x3 x4 a1 a2 b1 b2 W) (k : Nat) : NI w v x1 x2 x3 x4 a1 a2 b1 b2 (W.drewN k) := ⟨h.box.drewN k, h.res, h.c1, h.c2, h.c3, h.c4, belowDrewN h.bel k, h.hg⟩
theorem NI.alloc {w W : World} {v : Value} {x1 x2 x3 x4 : Addr} {a1 a2 b1 b2 : Int} (h : NI w v x1 x2 x3 x4 a1 a2 b1 b2 W) (ob : Obj) : NI w v x1 x2 x3 x4 a1 a2 b1 b2 (W.alloc ob) :=
  ⟨h.box.alloc ob, by obtain ⟨t, x, y, k⟩ := h.res; exact ⟨t, x, y, k.alloc ob⟩, cellA _ h.c1, cellA _ h.c2, cellA _ h.c3, cellA _ h.c4, h.bel.alloc h.bel.size ob, h.hg⟩
theorem NI.far {w W : World} {v : Value} {x1 x2 x3 x4 : Addr} {a1 a2 b1 b2 : Int} (h : NI w v x1 x2 x3 x4 a1 a2 b1 b2 W) (a : Addr) (ha : w.heap.size + 1 < a.block) (u : Value) : NI w v x1 x2 x3 x4 a1 a2 b1 b2 (W.setCell a u) := by
  have hg := h.hg
  refine ⟨h.box.far a (by omega) u, by obtain ⟨t, x, y, k⟩ := h.res; exact ⟨t, x, y, k.far a (by omega) u⟩, ?_, ?_, ?_, ?_, h.bel.setCell (by omega) u, hg⟩
  all_goals rw [World.cell?_setCell_far _ _ _ _ (fun e => by omega)]
  · exact h.c1
  · exact h.c2
  · exact h.c3
  · exact h.c4
theorem NI.five {w W : World} {v : Value} {x1 x2 x3 x4 : Addr} {a1 a2 b1 b2 : Int} (h : NI w v x1 x2 x3 x4 a1 a2 b1 b2 W) :
    W.cell? ⟨w.heap.size, 0, none⟩ = some v ∧ W.cell? x1 = some (.int .i64 a1) ∧ W.cell? x2 = some (.int .i64 a2) ∧ W.cell? x3 = some (.int .i64 b1) ∧ W.cell? x4 = some (.int .i64 b2) :=
  ⟨(bk1 h.box).1, h.c1, h.c2, h.c3, h.c4⟩
set_option maxRecDepth 100000 in
set_option maxHeartbeats 4000000 in
theorem refPositionAt_any (n c : Nat) (ns : List (Int × Int)) (t : Int) (ad : Addr) (p : Nat) (w : World) (hr : RdP w (some ad) n ns) (hn : n ≤ 1000000) (hp : p + 1 < n) (hbefore : ∀ j, j < p → (ns.getD (j + 1) (0, 0)).2 < t)
    (a1 a2 b1 b2 : Int) (ha : ns.getD p (0, 0) = (a1, a2)) (hb : ns.getD (p + 1) (0, 0) = (b1, b2)) (hx : 0 ≤ a1 ∧ a1 < b1 ∧ b1 ≤ 1000000) (hy : 0 ≤ a2 ∧ a2 < b2 ∧ b2 ≤ 1000000000000) (ht : a2 ≤ t ∧ t ≤ b2) :
    Calls Try.prog 48 #[.agg #[.slice (some ad) n c], .int .i64 t] w fun e w' => e = .returned (.agg #[.int .i64 (posLo a1 a2 b1 b2 t), .int .i64 (posHi a1 a2 b1 b2 t)]) ∧ Below w.heap.size w w' := by
  have HLo : posLo a1 a2 b1 b2 t = 64 * (posP a1 a2 b1 t % (b2 - a2)) / (b2 - a2) + 64 * (a1 + posP a1 a2 b1 t / (b2 - a2)) := rfl
  have HHi : posHi a1 a2 b1 b2 t = (64 * (posP a1 a2 b1 t % (b2 - a2)) + (b2 - a2) - 1) / (b2 - a2) + 64 * (a1 + posP a1 a2 b1 t / (b2 - a2)) := rfl
  rw [← upF_eq _ _ (by omega)] at HHi
  have hp1 := mul_bd (a := b1 - a1) (b := t - a2) (A := 1000000) (B := 1000000000000) (by omega) (by omega) (by omega) (by omega)
  have hp0 : 0 ≤ (b1 - a1) * (t - a2) := Int.mul_nonneg (by omega) (by omega)
  have hps : (b1 - a1) * (t - a2) ≤ 1000000 * (b2 - a2) := Int.mul_le_mul (by omega) (by omega) (by omega) (by omega)
  have w1a : IntKind.i64.wrap (t - a2) = t - a2 := IntWalk.i64_in _ (by omega)
  have w1b : IntKind.i64.wrap (b1 - a1) = b1 - a1 := IntWalk.i64_in _ (by omega)
  have w1c : IntKind.i64.wrap (b2 - a2) = b2 - a2 := IntWalk.i64_in _ (by omega)
  have HP : posP a1 a2 b1 t = (b1 - a1) * (t - a2) := rfl
  have hDb : 0 < b2 - a2 ∧ b2 - a2 ≤ 1000000000000 := by omega
  obtain ⟨D, hD⟩ : ∃ D, b2 - a2 = D := ⟨_, rfl⟩
  obtain ⟨L, hL⟩ : ∃ L, b1 - a1 = L := ⟨_, rfl⟩
  obtain ⟨T, hT⟩ : ∃ T, t - a2 = T := ⟨_, rfl⟩
  rw [hL] at hp1 hp0 hps HP
  rw [hT] at hp1 hp0 hps HP
  rw [hD] at HLo HHi hps hDb
  have v1 : IntKind.i64.wrap (t - a2) = T := by rw [w1a, hT]
  have v2 : IntKind.i64.wrap (b1 - a1) = L := by rw [w1b, hL]
  have v3 : IntKind.i64.wrap (b2 - a2) = D := by rw [w1c, hD]
  clear w1a w1b w1c
  obtain ⟨pp, hpp⟩ : ∃ pp, L * T = pp := ⟨_, rfl⟩
  have v4 : IntKind.i64.wrap (L * T) = pp := by rw [← hpp]; exact IntWalk.i64_in _ (by omega)
  rw [hpp] at hp1 hp0 hps HP
  rw [HP] at HLo HHi
  have hD0 : ¬ D = 0 := by omega
  have hD1 : (D == 0) = false := by rw [beq_eq_false_iff_ne]; omega
  have hq1 := Int.ediv_nonneg hp0 (b := D) (by omega)
  have hq2 : pp / D ≤ 1000000 := Int.ediv_le_of_le_mul (a := pp) (b := 1000000) hDb.1 (by omega)
  have hr0 := Int.emod_nonneg pp (b := D) (by omega)
  have hr1 := Int.emod_lt_of_pos pp hDb.1
  obtain ⟨sm, hsm⟩ : ∃ sm, pp / D = sm := ⟨_, rfl⟩
  obtain ⟨rs, hrs⟩ : ∃ rs, pp % D = rs := ⟨_, rfl⟩
  have v5 : pp.tdiv D = sm := by rw [Int.tdiv_eq_ediv_of_nonneg hp0, hsm]
  have v6 : pp.tmod D = rs := by rw [Int.tmod_eq_emod_of_nonneg hp0, hrs]
  rw [hsm] at hq1 hq2 HLo HHi
  rw [hrs] at hr0 hr1 HLo HHi
  have v7 : IntKind.i64.wrap sm = sm := IntWalk.i64_in _ (by omega)
  have v8 : IntKind.i64.wrap (64 * rs) = 64 * rs := IntWalk.i64_in _ (by omega)
  have v9 : IntKind.i64.wrap (a1 + sm) = a1 + sm := IntWalk.i64_in _ (by omega)
  obtain ⟨fr, hfr⟩ : ∃ fr, 64 * (a1 + sm) = fr := ⟨_, rfl⟩
  have v10 : IntKind.i64.wrap (64 * (a1 + sm)) = fr := by rw [← hfr]; exact IntWalk.i64_in _ (by omega)
  rw [hfr] at HLo HHi
  have CFl := Lib.hid (fun w => floor_any (64 * rs) D (by omega) (by omega) w)
  have CCe := Lib.hid (fun w => ceil_any (64 * rs) D (by omega) (by omega) w)
  have ha0 := Int.ediv_nonneg (a := 64 * rs) (b := D) (by omega) (by omega)
  have ha1 : 64 * rs / D ≤ 64 := Int.ediv_le_of_le_mul hDb.1 (by omega)
  have hb0 : 0 ≤ upF (64 * rs) D ∧ upF (64 * rs) D ≤ 65 := by
    rw [upF_eq _ _ hDb.1]
    exact ⟨Int.ediv_nonneg (by omega) (by omega), Int.ediv_le_of_le_mul hDb.1 (by omega)⟩
  obtain ⟨lo, hlo'⟩ : ∃ lo, 64 * rs / D = lo := ⟨_, rfl⟩
  obtain ⟨hi, hhi'⟩ : ∃ hi, upF (64 * rs) D = hi := ⟨_, rfl⟩
  rw [hlo'] at CFl ha0 ha1 HLo
  rw [hhi'] at CCe hb0 HHi
  obtain ⟨PL, hPL⟩ : ∃ PL, posLo a1 a2 b1 b2 t = PL := ⟨_, rfl⟩
  obtain ⟨PH, hPH⟩ : ∃ PH, posHi a1 a2 b1 b2 t = PH := ⟨_, rfl⟩
  rw [hPL] at HLo ⊢
  rw [hPH] at HHi ⊢
  have v11 : IntKind.i64.wrap (fr + lo) = PL := by rw [HLo, Int.add_comm lo]; exact IntWalk.i64_in _ (by omega)
  have v12 : IntKind.i64.wrap (fr + hi) = PH := by rw [HHi, Int.add_comm hi]; exact IntWalk.i64_in _ (by omega)
  clear HLo HHi hPL hPH hlo' hhi' ha0 ha1 hb0 hfr hsm hrs hq1 hq2 hr0 hr1 hps hp1 hp0 hpp HP hD hL hT
  obtain ⟨q, hq⟩ : ∃ q, p + 1 = q := ⟨_, rfl⟩
  have hqn : q < n := by omega
  have hpn : p < n := by omega
  obtain ⟨ad', hg', hgl, hcs⟩ := hr.2 (by omega)
  cases hg'
  have hc1 := hcs p hpn
  have hc2 := hcs q hqn
  rw [ha] at hc1
  rw [← hq, hb] at hc2
  rw [hq] at hc2
  obtain ⟨x1, hx1⟩ : ∃ a, ad.add (p * 2) = a := ⟨_, rfl⟩
  obtain ⟨x3, hx3⟩ : ∃ a, ad.add (q * 2) = a := ⟨_, rfl⟩
  have hxb : x1.block < w.heap.size ∧ x3.block < w.heap.size := by rw [← hx1, ← hx3, addBlock, addBlock]; exact ⟨hgl, hgl⟩
  rw [hx1] at hc1
  rw [hx3] at hc2
  obtain ⟨x2, hx2⟩ : ∃ a, x1.add 1 = a := ⟨_, rfl⟩
  obtain ⟨x4, hx4⟩ : ∃ a, x3.add 1 = a := ⟨_, rfl⟩
  have hxb2 : x2.block < w.heap.size ∧ x4.block < w.heap.size := by rw [← hx2, ← hx4, addBlock, addBlock]; exact hxb
  rw [hx2] at hc1
  rw [hx4] at hc2
  have N0 : Hid (NI w (.slice (some ad) n c) x1 x2 x3 x4 a1 a2 b1 b2 ((w.alloc (.cells #[.slice (some ad) n c] 24)).alloc (.cells #[.int .i64 0, .int .i64 0] 72))) :=
    Lib.hid ⟨(Bk.new _ _ _).alloc _, ⟨72, _, _, by simpa using Bk.new (w.alloc (.cells #[.slice (some ad) n c] 24)) 72 #[.int .i64 0, .int .i64 0]⟩, cellA _ (cellA _ hc1.1), cellA _ (cellA _ hc1.2), cellA _ (cellA _ hc2.1), cellA _ (cellA _ hc2.2), below2 _ _ _, hxb.1, hxb2.1, hxb.2, hxb2.2⟩
  have HC : Hid (∀ j, j < n → ((w.alloc (.cells #[.slice (some ad) n c] 24)).alloc (.cells #[.int .i64 0, .int .i64 0] 72)).cell? ((ad.add (j * 2)).add 1) = some (.int .i64 (ns.getD j (0, 0)).2)) := Lib.hid (fun j hj => cellA _ (cellA _ (hcs j hj).2))
  have HB := Lib.hid hbefore
  have HE : Hid ((ns.getD q (0, 0)).2 = b2) := Lib.hid (by rw [← hq, hb])
  clear hcs hc1 hc2 hr hbefore hb ha
  go_enter Try.func48, Try.ntmps48
  go_wp2
  obtain ⟨W, hW⟩ : ∃ W, (w.alloc (.cells #[.slice (some ad) n c] 24)).alloc (.cells #[.int .i64 0, .int .i64 0] 72) = W := ⟨_, rfl⟩
  rw [hW] at N0 HC ⊢
  clear hW
  go_loop [5] (fun i => ∃ k : Nat, k ≤ p ∧ i = .int .i64 k) (fun i => p - (intOf i).toNat)
  case atStart => exact ⟨0, Nat.zero_le _, rfl⟩
  case round =>
    obtain ⟨k, hk, rfl⟩ := hrel
    have c0 := (bk1 N0.out.box).1
    by_cases hlt : k < p
    · obtain ⟨j, hj⟩ : ∃ j, k + 1 = j := ⟨_, rfl⟩
      have hjn : j < n := by omega
      have hjI : (j : Int) < (n : Int) := by omega
      have h1 := HC.out j hjn
      have h2 := HB.out k hlt
      rw [hj] at h2
      obtain ⟨v, hv⟩ : ∃ v, (ns.getD j (0, 0)).2 = v := ⟨_, rfl⟩
      rw [hv] at h1 h2
      obtain ⟨aj, haj⟩ : ∃ a, ad.add (j * 2) = a := ⟨_, rfl⟩
      rw [haj] at h1
      obtain ⟨aj1, haj1⟩ : ∃ a, aj.add 1 = a := ⟨_, rfl⟩
      rw [haj1] at h1
      have w5 : IntKind.i64.wrap ((k : Int) + 1) = (j : Int) := by rw [show (k : Int) + 1 = (j : Int) by omega]; exact IntWalk.i64_in _ (by omega)
      have w5b : (k : Int) + 1 = (j : Int) := by omega
      have hjp : j ≤ p := by omega
      clear hv hj
      go_wp2
      go_round
      case rel => exact ⟨j, hjp, by simp [w5b]⟩
      case measure => simp [intOf]; omega
    · obtain rfl : p = k := by omega
      have w5 : IntKind.i64.wrap ((p : Int) + 1) = (q : Int) := by rw [show (p : Int) + 1 = (q : Int) by omega]; exact IntWalk.i64_in _ (by omega)
      have h1 := HC.out q hqn
      rw [HE.out, hx3, hx4] at h1
      have h2 : ¬ b2 < t := by omega
      have hqI : (q : Int) < (n : Int) := by omega
      have hpI : (p : Int) < (n : Int) := by omega
      clear hlt
      go_upto_region 4 with fail
      go_cut [6, 7] (fun s6 s7 wx => ∃ ga gb : Nat, s6 = .pointer (some ⟨ga, 0, none⟩) ∧ s7 = .pointer (some ⟨gb, 0, none⟩) ∧ Hid (Bk wx ga 69 #[.int .i64 a1, .int .i64 a2]) ∧ Hid (Bk wx gb 69 #[.int .i64 b1, .int .i64 b2]) ∧ Hid (NI w (.slice (some ad) n c) x1 x2 x3 x4 a1 a2 b1 b2 wx))
      case first =>
        refine wp_region_held_drew (S := (fun w' : World => w'.cell? ⟨w.heap.size, 0, none⟩ = some (.slice (some ad) n c) ∧ w'.cell? x1 = some (.int .i64 a1) ∧ w'.cell? x2 = some (.int .i64 a2) ∧ w'.cell? x3 = some (.int .i64 b1) ∧ w'.cell? x4 = some (.int .i64 b2))) (by kernel_rfl) ?_ ?_
        · exact N0.out.drew.five
        intro hHeld
        refine wpAnyH_take (i := 0) (v := ?_) rfl (by kernel_rfl) (by kernel_rfl) (by kernel_rfl) (fun _ _ _ h => h) (Or.inl ⟨by rfl, ?_⟩) (by assumption) ?_
        rotate_left
        · intro w hSw; (try dsimp only at hSw); go_simp; (try (with_reducible rfl))
        try simp only [List.getElem_toArray, List.getElem_cons_succ, List.getElem_cons_zero, Act.put, List.setIfInBounds_toArray, List.set_cons_zero, List.set_cons_succ]
        refine wpAnyH_take (i := 1) (v := ?_) rfl (by kernel_rfl) (by kernel_rfl) (by kernel_rfl) (fun _ _ _ h => h) (Or.inl ⟨by rfl, ?_⟩) (by assumption) ?_
        rotate_left
        · intro w hSw; (try dsimp only at hSw); go_simp; (try (with_reducible rfl))
        try simp only [List.getElem_toArray, List.getElem_cons_succ, List.getElem_cons_zero, Act.put, List.setIfInBounds_toArray, List.set_cons_zero, List.set_cons_succ]
        refine wpAnyH_take (i := 2) (v := ?_) rfl (by kernel_rfl) (by kernel_rfl) (by kernel_rfl) (fun _ _ _ h => h) (Or.inl ⟨by rfl, ?_⟩) (by assumption) ?_
        rotate_left
        · intro w hSw; (try dsimp only at hSw); go_simp; (try (with_reducible rfl))
        try simp only [List.getElem_toArray, List.getElem_cons_succ, List.getElem_cons_zero, Act.put, List.setIfInBounds_toArray, List.set_cons_zero, List.set_cons_succ]
        refine wpAnyH_take (i := 3) (v := ?_) rfl (by kernel_rfl) (by kernel_rfl) (by kernel_rfl) (fun _ _ _ h => h) (Or.inl ⟨by rfl, ?_⟩) (by assumption) ?_
        rotate_left
        · intro w hSw; (try dsimp only at hSw); go_simp; (try (with_reducible rfl))
        try simp only [List.getElem_toArray, List.getElem_cons_succ, List.getElem_cons_zero, Act.put, List.setIfInBounds_toArray, List.set_cons_zero, List.set_cons_succ]
        refine wpAnyH_take (i := 4) (v := ?_) rfl (by kernel_rfl) (by kernel_rfl) (by kernel_rfl) (fun _ _ _ h => h) (Or.inl ⟨by rfl, ?_⟩) (by assumption) ?_
        rotate_left
        · intro w hSw; (try dsimp only at hSw); go_simp; (try (with_reducible rfl))
        try simp only [List.getElem_toArray, List.getElem_cons_succ, List.getElem_cons_zero, Act.put, List.setIfInBounds_toArray, List.set_cons_zero, List.set_cons_succ]
        refine wpAnyH_take (i := 5) (v := ?_) rfl (by kernel_rfl) (by kernel_rfl) (by kernel_rfl) (fun _ _ _ h => h) (Or.inl ⟨by rfl, ?_⟩) (by assumption) ?_
        rotate_left
        · intro w hSw; (try dsimp only at hSw); go_simp; (try (with_reducible rfl))
        try simp only [List.getElem_toArray, List.getElem_cons_succ, List.getElem_cons_zero, Act.put, List.setIfInBounds_toArray, List.set_cons_zero, List.set_cons_succ]
        refine wpAnyH_take (i := 6) (v := ?_) rfl (by kernel_rfl) (by kernel_rfl) (by kernel_rfl) (fun _ _ _ h => h) (Or.inl ⟨by rfl, ?_⟩) (by assumption) ?_
        rotate_left
        · intro w hSw; (try dsimp only at hSw); go_simp; (try (with_reducible rfl))
        try simp only [List.getElem_toArray, List.getElem_cons_succ, List.getElem_cons_zero, Act.put, List.setIfInBounds_toArray, List.set_cons_zero, List.set_cons_succ]
        refine wpAnyH_take (i := 7) (v := ?_) rfl (by kernel_rfl) (by kernel_rfl) (by kernel_rfl) (fun _ _ _ h => h) (Or.inl ⟨by rfl, ?_⟩) (by assumption) ?_
        rotate_left
        · intro w hSw; (try dsimp only at hSw); go_simp; (try (with_reducible rfl))
        try simp only [List.getElem_toArray, List.getElem_cons_succ, List.getElem_cons_zero, Act.put, List.setIfInBounds_toArray, List.set_cons_zero, List.set_cons_succ]
        refine wpAnyH_take (i := 8) (v := ?_) rfl (by kernel_rfl) (by kernel_rfl) (by kernel_rfl) (fun _ _ _ h => h) (Or.inl ⟨by rfl, ?_⟩) (by assumption) ?_
        rotate_left
        · intro w hSw; (try dsimp only at hSw); go_simp; (try (with_reducible rfl))
        try simp only [List.getElem_toArray, List.getElem_cons_succ, List.getElem_cons_zero, Act.put, List.setIfInBounds_toArray, List.set_cons_zero, List.set_cons_succ]
        refine wpAnyH_take (i := 9) (v := ?_) rfl (by kernel_rfl) (by kernel_rfl) (by kernel_rfl) (fun _ _ _ h => h) (Or.inl ⟨by rfl, ?_⟩) (by assumption) ?_
        rotate_left
        · intro w hSw; (try dsimp only at hSw); go_simp; (try (with_reducible rfl))
        try simp only [List.getElem_toArray, List.getElem_cons_succ, List.getElem_cons_zero, Act.put, List.setIfInBounds_toArray, List.set_cons_zero, List.set_cons_succ]
        refine wpAnyH_take (i := 10) (v := ?_) rfl (by kernel_rfl) (by kernel_rfl) (by kernel_rfl) (fun _ _ _ h => h) (Or.inl ⟨by rfl, ?_⟩) (by assumption) ?_
        rotate_left
        · intro w hSw; (try dsimp only at hSw); go_simp; (try (with_reducible rfl))
        try simp only [List.getElem_toArray, List.getElem_cons_succ, List.getElem_cons_zero, Act.put, List.setIfInBounds_toArray, List.set_cons_zero, List.set_cons_succ]
        refine wpAnyH_ready (rs := [11, 12]) (by kernel_rfl) (by simp) ?_
        refine AllReadyH.cons rfl (fun K hK => ?_) (AllReadyH.cons rfl (fun K hK => ?_) AllReadyH.nil)
        · go_simp
          refine hK.out _ _ ?_ (fun hHeld => ?_)
          · clear hK K; exact (N0.out.alloc (.cells #[.int .i64 0, .int .i64 0] 69)).drew.five
          clear hK K
          try simp only [List.getElem_toArray, List.getElem_cons_succ, List.getElem_cons_zero, Act.put, List.setIfInBounds_toArray, List.set_cons_zero, List.set_cons_succ]
          refine wpAnyH_ready (rs := [12]) (by kernel_rfl) (by simp) ?_
          refine AllReadyH.cons rfl (fun K hK => ?_) AllReadyH.nil
          go_simp
          refine hK.out _ _ ?_ (fun hHeld => ?_)
          · clear hK K; exact ((N0.out.alloc (.cells #[.int .i64 0, .int .i64 0] 69)).alloc (.cells #[.int .i64 0, .int .i64 0] 69)).drew.five
          clear hK K
          try simp only [List.getElem_toArray, List.getElem_cons_succ, List.getElem_cons_zero, Act.put, List.setIfInBounds_toArray, List.set_cons_zero, List.set_cons_succ]
          obtain ⟨ka0, ka1, kaf0, kaf1⟩ := bk2 (show Bk (((W.alloc (.cells #[.int .i64 0, .int .i64 0] 69)).alloc (.cells #[.int .i64 0, .int .i64 0] 69)).drew) W.heap.size 69 #[.int .i64 0, .int .i64 0] from ((Bk.new W 69 #[.int .i64 0, .int .i64 0]).alloc (.cells #[.int .i64 0, .int .i64 0] 69)).drew)
          obtain ⟨kb0, kb1, kbf0, kbf1⟩ := bk2 (show Bk (((W.alloc (.cells #[.int .i64 0, .int .i64 0] 69)).alloc (.cells #[.int .i64 0, .int .i64 0] 69)).drew) (W.heap.size + 1) 69 #[.int .i64 0, .int .i64 0] from by simpa using (Bk.new (W.alloc (.cells #[.int .i64 0, .int .i64 0] 69)) 69 #[.int .i64 0, .int .i64 0]).drew)
          refine wpAnyH_ready (rs := [13]) (by kernel_rfl) (by simp) ?_
          refine AllReadyH.cons rfl (fun K hK => ?_) AllReadyH.nil
          go_simp
          refine hK.out _ _ ?_ (fun hHeld => ?_)
          · clear hK K; exact ((N0.out.alloc (.cells #[.int .i64 a1, .int .i64 a2] 69)).alloc (.cells #[.int .i64 0, .int .i64 0] 69)).drew.five
          clear hK K
          try simp only [List.getElem_toArray, List.getElem_cons_succ, List.getElem_cons_zero, Act.put, List.setIfInBounds_toArray, List.set_cons_zero, List.set_cons_succ]
          clear ka0 ka1 kaf0 kaf1 kb0 kb1 kbf0 kbf1
          obtain ⟨ka0, ka1, kaf0, kaf1⟩ := bk2 (show Bk (((W.alloc (.cells #[.int .i64 a1, .int .i64 a2] 69)).alloc (.cells #[.int .i64 0, .int .i64 0] 69)).drew) W.heap.size 69 #[.int .i64 a1, .int .i64 a2] from ((Bk.new W 69 #[.int .i64 a1, .int .i64 a2]).alloc (.cells #[.int .i64 0, .int .i64 0] 69)).drew)
          obtain ⟨kb0, kb1, kbf0, kbf1⟩ := bk2 (show Bk (((W.alloc (.cells #[.int .i64 a1, .int .i64 a2] 69)).alloc (.cells #[.int .i64 0, .int .i64 0] 69)).drew) (W.heap.size + 1) 69 #[.int .i64 0, .int .i64 0] from by simpa using (Bk.new (W.alloc (.cells #[.int .i64 a1, .int .i64 a2] 69)) 69 #[.int .i64 0, .int .i64 0]).drew)
          refine wpAnyH_ready (rs := [14]) (by kernel_rfl) (by simp) ?_
          refine AllReadyH.cons rfl (fun K hK => ?_) AllReadyH.nil
          go_simp
          refine hK.out _ _ ?_ (fun hHeld => ?_)
          · clear hK K; exact ((N0.out.alloc (.cells #[.int .i64 a1, .int .i64 a2] 69)).alloc (.cells #[.int .i64 b1, .int .i64 b2] 69)).drew.five
          clear hK K
          try simp only [List.getElem_toArray, List.getElem_cons_succ, List.getElem_cons_zero, Act.put, List.setIfInBounds_toArray, List.set_cons_zero, List.set_cons_succ]
          refine wpAnyH_done (by kernel_rfl) ?_ _
          go_wp2_with fail
          go_meet
          exact ⟨W.heap.size, (W.heap.size + 1), rfl, rfl, Lib.hid (((Bk.new W 69 #[.int .i64 a1, .int .i64 a2]).alloc (.cells #[.int .i64 b1, .int .i64 b2] 69)).drew), Lib.hid ((by simpa using (Bk.new (W.alloc (.cells #[.int .i64 a1, .int .i64 a2] 69)) 69 #[.int .i64 b1, .int .i64 b2]).drew)), Lib.hid ((N0.out.alloc (.cells #[.int .i64 a1, .int .i64 a2] 69)).alloc (.cells #[.int .i64 b1, .int .i64 b2] 69)).drew⟩
        · go_simp
          refine hK.out _ _ ?_ (fun hHeld => ?_)
          · clear hK K; exact (N0.out.alloc (.cells #[.int .i64 0, .int .i64 0] 69)).drew.five
          clear hK K
          try simp only [List.getElem_toArray, List.getElem_cons_succ, List.getElem_cons_zero, Act.put, List.setIfInBounds_toArray, List.set_cons_zero, List.set_cons_succ]
          refine wpAnyH_ready (rs := [11]) (by kernel_rfl) (by simp) ?_
          refine AllReadyH.cons rfl (fun K hK => ?_) AllReadyH.nil
          go_simp
          refine hK.out _ _ ?_ (fun hHeld => ?_)
          · clear hK K; exact ((N0.out.alloc (.cells #[.int .i64 0, .int .i64 0] 69)).alloc (.cells #[.int .i64 0, .int .i64 0] 69)).drew.five
          clear hK K
          try simp only [List.getElem_toArray, List.getElem_cons_succ, List.getElem_cons_zero, Act.put, List.setIfInBounds_toArray, List.set_cons_zero, List.set_cons_succ]
          obtain ⟨ka0, ka1, kaf0, kaf1⟩ := bk2 (show Bk (((W.alloc (.cells #[.int .i64 0, .int .i64 0] 69)).alloc (.cells #[.int .i64 0, .int .i64 0] 69)).drew) W.heap.size 69 #[.int .i64 0, .int .i64 0] from ((Bk.new W 69 #[.int .i64 0, .int .i64 0]).alloc (.cells #[.int .i64 0, .int .i64 0] 69)).drew)
          obtain ⟨kb0, kb1, kbf0, kbf1⟩ := bk2 (show Bk (((W.alloc (.cells #[.int .i64 0, .int .i64 0] 69)).alloc (.cells #[.int .i64 0, .int .i64 0] 69)).drew) (W.heap.size + 1) 69 #[.int .i64 0, .int .i64 0] from by simpa using (Bk.new (W.alloc (.cells #[.int .i64 0, .int .i64 0] 69)) 69 #[.int .i64 0, .int .i64 0]).drew)
          refine wpAnyH_ready (rs := [13]) (by kernel_rfl) (by simp) ?_
          refine AllReadyH.cons rfl (fun K hK => ?_) AllReadyH.nil
          go_simp
          refine hK.out _ _ ?_ (fun hHeld => ?_)
          · clear hK K; exact ((N0.out.alloc (.cells #[.int .i64 0, .int .i64 0] 69)).alloc (.cells #[.int .i64 a1, .int .i64 a2] 69)).drew.five
          clear hK K
          try simp only [List.getElem_toArray, List.getElem_cons_succ, List.getElem_cons_zero, Act.put, List.setIfInBounds_toArray, List.set_cons_zero, List.set_cons_succ]
          clear ka0 ka1 kaf0 kaf1 kb0 kb1 kbf0 kbf1
          obtain ⟨ka0, ka1, kaf0, kaf1⟩ := bk2 (show Bk (((W.alloc (.cells #[.int .i64 0, .int .i64 0] 69)).alloc (.cells #[.int .i64 a1, .int .i64 a2] 69)).drew) W.heap.size 69 #[.int .i64 0, .int .i64 0] from ((Bk.new W 69 #[.int .i64 0, .int .i64 0]).alloc (.cells #[.int .i64 a1, .int .i64 a2] 69)).drew)
          obtain ⟨kb0, kb1, kbf0, kbf1⟩ := bk2 (show Bk (((W.alloc (.cells #[.int .i64 0, .int .i64 0] 69)).alloc (.cells #[.int .i64 a1, .int .i64 a2] 69)).drew) (W.heap.size + 1) 69 #[.int .i64 a1, .int .i64 a2] from by simpa using (Bk.new (W.alloc (.cells #[.int .i64 0, .int .i64 0] 69)) 69 #[.int .i64 a1, .int .i64 a2]).drew)
          refine wpAnyH_ready (rs := [14]) (by kernel_rfl) (by simp) ?_
          refine AllReadyH.cons rfl (fun K hK => ?_) AllReadyH.nil
          go_simp
          refine hK.out _ _ ?_ (fun hHeld => ?_)
          · clear hK K; exact ((N0.out.alloc (.cells #[.int .i64 b1, .int .i64 b2] 69)).alloc (.cells #[.int .i64 a1, .int .i64 a2] 69)).drew.five
          clear hK K
          try simp only [List.getElem_toArray, List.getElem_cons_succ, List.getElem_cons_zero, Act.put, List.setIfInBounds_toArray, List.set_cons_zero, List.set_cons_succ]
          refine wpAnyH_done (by kernel_rfl) ?_ _
          go_wp2_with fail
          go_meet
          exact ⟨(W.heap.size + 1), W.heap.size, rfl, rfl, Lib.hid ((by simpa using (Bk.new (W.alloc (.cells #[.int .i64 b1, .int .i64 b2] 69)) 69 #[.int .i64 a1, .int .i64 a2]).drew)), Lib.hid (((Bk.new W 69 #[.int .i64 b1, .int .i64 b2]).alloc (.cells #[.int .i64 a1, .int .i64 a2] 69)).drew), Lib.hid ((N0.out.alloc (.cells #[.int .i64 b1, .int .i64 b2] 69)).alloc (.cells #[.int .i64 a1, .int .i64 a2] 69)).drew⟩
      case rest =>
        obtain ⟨ga, gb, rfl, rfl, KA, KB, NN⟩ := hcut
        obtain ⟨ka0, ka1, _, _⟩ := bk2 KA.out
        obtain ⟨kb0, kb1, _, _⟩ := bk2 KB.out
        obtain ⟨tr, rx, ry, KR⟩ := NN.out.res
        obtain ⟨kr0, kr1, krf0, krf1⟩ := bk2' KR
        have BW := NN.out.bel
        obtain ⟨w9, hw9⟩ : ∃ W, W = wc := ⟨_, rfl⟩
        subst hw9
        clear KA KB NN KR c0 h1 h2 HC HB HE N0
        go_wp2
        go_quiet (fail)
        clear ka1 kb1
        go_wp2
        go_quiet (fail)
        go_wp2_with (first | (go_at_call 43; refine (CFl.out _).mono ?_; rintro e w' ⟨rfl, rfl⟩) | (go_at_call 36; refine (CCe.out _).mono ?_; rintro e w' ⟨rfl, rfl⟩))
        refine bodyPost_ret (v := .agg #[.int .i64 PL, .int .i64 PH]) (by simp [results, Try.results48, go_sem, kr0, kr1, krf0, krf1]) rfl ⟨rfl, ?_⟩
        go_grown
        all_goals exact belowDrewN BW _
set_option maxRecDepth 100000 in
theorem refFirst_any (n c : Nat) (ns : List (Int × Int)) (A : Option Addr) (w : World) (hr : RdP w A n ns) (hn : 0 < n) (hn2 : n ≤ 1000000) (a1 a2 : Int) (ha : ns.getD 0 (0, 0) = (a1, a2)) :
    Calls Try.prog 38 #[.agg #[.slice A n c]] w fun e w' => e = .returned (.agg #[.int .i64 a1, .int .i64 a2]) ∧ Below w.heap.size w w' := by
  obtain ⟨ad, rfl, hgl, hcs⟩ := hr.2 hn
  obtain ⟨h1, h2⟩ := hcs 0 hn
  rw [ha] at h1 h2
  rw [Nat.zero_mul, show ad.add 0 = ad from rfl] at h1 h2
  obtain ⟨ad1, had1⟩ : ∃ a, ad.add 1 = a := ⟨_, rfl⟩
  rw [had1] at h2
  have c1 : ((w.alloc (.cells #[.slice (some ad) n c] 24)).alloc (.cells #[.int .i64 0, .int .i64 0] 69)).cell? ad = some (.int .i64 a1) := cellA _ (cellA _ h1)
  have c2 : ((w.alloc (.cells #[.slice (some ad) n c] 24)).alloc (.cells #[.int .i64 0, .int .i64 0] 69)).cell? ad1 = some (.int .i64 a2) := cellA _ (cellA _ h2)
  have hnI : (0 : Int) < (n : Int) := by omega
  clear hcs h1 h2 hr ha
  go_enter Try.func38, Try.ntmps38
  go_wp2
  refine bodyPost_ret (v := .agg #[.int .i64 a1, .int .i64 a2]) (by simp [results, Try.results38, go_sem]) rfl ⟨rfl, ?_⟩
  go_grown
set_option maxRecDepth 100000 in
theorem refLast_any (n c : Nat) (ns : List (Int × Int)) (A : Option Addr) (w : World) (hr : RdP w A n ns) (q : Nat) (hn : n = q + 1) (hn2 : n ≤ 1000000) (a1 a2 : Int) (ha : ns.getD q (0, 0) = (a1, a2)) :
    Calls Try.prog 39 #[.agg #[.slice A n c]] w fun e w' => e = .returned (.agg #[.int .i64 a1, .int .i64 a2]) ∧ Below w.heap.size w w' := by
  obtain ⟨ad, rfl, hgl, hcs⟩ := hr.2 (by omega)
  obtain ⟨h1, h2⟩ := hcs q (by omega)
  rw [ha] at h1 h2
  obtain ⟨aq, haq⟩ : ∃ a, ad.add (q * 2) = a := ⟨_, rfl⟩
  rw [haq] at h1 h2
  obtain ⟨aq1, haq1⟩ : ∃ a, aq.add 1 = a := ⟨_, rfl⟩
  rw [haq1] at h2
  have c1 : ((w.alloc (.cells #[.slice (some ad) n c] 24)).alloc (.cells #[.int .i64 0, .int .i64 0] 69)).cell? aq = some (.int .i64 a1) := cellA _ (cellA _ h1)
  have c2 : ((w.alloc (.cells #[.slice (some ad) n c] 24)).alloc (.cells #[.int .i64 0, .int .i64 0] 69)).cell? aq1 = some (.int .i64 a2) := cellA _ (cellA _ h2)
  have w1 : IntKind.i64.wrap ((n : Int) - 1) = (q : Int) := by rw [show (n : Int) - 1 = (q : Int) by omega]; exact IntWalk.i64_in _ (by omega)
  have hnI : (q : Int) < (n : Int) := by omega
  have hnN : q < n := by omega
  clear hcs h1 h2 hr ha hn
  go_enter Try.func39, Try.ntmps39
  go_wp2
  refine bodyPost_ret (v := .agg #[.int .i64 a1, .int .i64 a2]) (by simp [results, Try.results39, go_sem]) rfl ⟨rfl, ?_⟩
  go_grown
set_option maxRecDepth 100000 in
theorem few_any (A : Option Addr) (n c : Nat) (w : World) :
    Calls Try.prog 13 #[.agg #[.slice A n c]] w fun e w' => e = .returned (.bool (decide (n ≤ 22))) ∧ Below w.heap.size w w' := by
  have e1 : decide ((n : Int) ≤ 22) = decide (n ≤ 22) := decide_eq_decide.2 (by omega)
  have HE := Lib.hid e1
  clear e1
  go_enter Try.func13, Try.ntmps13
  go_wp2
  go_ret
  exact ⟨retB HE.out, below1 _ _⟩

end Go.Proofs.Ytepcciodhppbnaa


namespace Go.Proofs.Ytepcciodhppbnaa
open Go.RowKit

/-! ### copies of maps and rules -/
def pairCells (ps : List (Int × Int)) : List Value := ps.flatMap fun p => [.int .i64 p.1, .int .i64 p.2]
theorem pairCells_at : ∀ (ps : List (Int × Int)) (j : Nat), j < ps.length → (pairCells ps)[j * 2]? = some (.int .i64 (ps.getD j (0, 0)).1) ∧ (pairCells ps)[j * 2 + 1]? = some (.int .i64 (ps.getD j (0, 0)).2)
  | [], j, h => absurd h (by simp)
  | p :: ps, 0, _ => ⟨rfl, rfl⟩
  | p :: ps, j + 1, h => by
    have ih := pairCells_at ps j (by simpa using h)
    have e : pairCells (p :: ps) = .int .i64 p.1 :: .int .i64 p.2 :: pairCells ps := rfl
    rw [e, show (j + 1) * 2 = j * 2 + 1 + 1 by omega]
    simpa using ih
theorem pairCells_length (ps : List (Int × Int)) : (pairCells ps).length = ps.length * 2 := by
  induction ps with
  | nil => rfl
  | cons p ps ih =>
    have e : pairCells (p :: ps) = .int .i64 p.1 :: .int .i64 p.2 :: pairCells ps := rfl
    rw [e, List.length_cons, List.length_cons, List.length_cons, ih]; omega
theorem pairCells_one (ps : List (Int × Int)) : ∀ u ∈ pairCells ps, u.oneCell' = true := by
  intro u hu
  simp only [pairCells, List.mem_flatMap] at hu
  obtain ⟨p, _, hp⟩ := hu
  simp at hp
  rcases hp with rfl | rfl <;> rfl
theorem rdN_of_own {w : World} {base g n cap : Nat} {t : TypeId} {ps : List (Int × Int)} (h : w.ownsRow base t 2 (.slice (some ⟨g, 0, none⟩) n cap) n (pairCells ps)) (hl : ps.length = n) : RdN w (some ⟨g, 0, none⟩) n ps := by
  refine ⟨hl, fun _ => ⟨g, rfl, (h.lt g rfl).2, fun j hj => ?_⟩⟩
  obtain ⟨h1, h2⟩ := pairCells_at ps j (by omega)
  exact ⟨(h.cellAt (j * 2) (by omega)).trans h1, (h.cellAt (j * 2 + 1) (by omega)).trans h2⟩
theorem rdp_news {W : World} {ad : Addr} {n : Nat} {ps : List (Int × Int)} (h : RdP W (some ad) n ps) : ∀ j u, (pairCells ps)[j]? = some u → W.cell? (ad.add j) = some u := by
  intro j u hu
  have hj : j < (pairCells ps).length := (List.getElem?_eq_some_iff.1 hu).1
  rw [pairCells_length, h.1] at hj
  have hl := h.1
  obtain ⟨ad', ha, hlt, hc⟩ := h.2 (by omega)
  obtain rfl := Option.some.inj ha
  obtain ⟨h1, h2⟩ := hc (j / 2) (by omega)
  obtain ⟨p1, p2⟩ := pairCells_at ps (j / 2) (by omega)
  rcases (by omega : j = j / 2 * 2 ∨ j = j / 2 * 2 + 1) with e | e
  · obtain ⟨q, hq⟩ : ∃ q, j / 2 = q := ⟨_, rfl⟩
    rw [hq] at h1 h2 p1 p2 e
    subst e
    rw [p1] at hu
    rw [h1]; exact hu
  · obtain ⟨q, hq⟩ : ∃ q, j / 2 = q := ⟨_, rfl⟩
    rw [hq] at h1 h2 p1 p2 e
    subst e
    rw [p2] at hu
    rw [add_add'] at h2
    rw [h2]; exact hu
/-- A map that is copied. -/
def CpM (w : World) (n : Nat) (ns : List (Int × Int)) (e : Ending) (w' : World) : Prop := (∃ g c, e = .returned (.agg #[.slice (some ⟨g, 0, none⟩) n c]) ∧ RdN w' (some ⟨g, 0, none⟩) n ns ∧ n ≤ c ∧ w.heap.size ≤ g) ∧ Below w.heap.size w w'
theorem nodInfo : (Try.prog.info? 69).map (fun i => (i.zero, i.size, i.bytes)) = some (some (.agg #[.int .i64 0, .int .i64 0]), 2, 16) := by kernel_rfl
theorem rdN_far {w : World} {g n : Nat} {ns : List (Int × Int)} (h : RdN w (some ⟨g, 0, none⟩) n ns) (p : Addr) (hp : g ≠ p.block) (u : Value) : RdN (w.setCell p u) (some ⟨g, 0, none⟩) n ns := by
  refine ⟨h.1, fun hn => ?_⟩
  obtain ⟨g', e, hlt, hc⟩ := h.2 hn
  obtain rfl : g = g' := by injection e with e; injection e
  refine ⟨g, rfl, by simpa using hlt, fun j hj => ?_⟩
  rw [World.cell?_setCell_far _ _ _ _ (fun e => hp (by simpa using e.symm)), World.cell?_setCell_far _ _ _ _ (fun e => hp (by simpa using e.symm))]
  exact hc j hj
set_option maxRecDepth 100000 in
set_option maxHeartbeats 2000000 in
theorem copyMap_any (A : Option Addr) (n c : Nat) (ns : List (Int × Int)) (w : World) (hA : A = none → n = 0 ∧ c = 0) (hr : RdP w A n ns) (hn : n ≤ 1000000) :
    Calls Try.prog 41 #[.agg #[.slice A n c]] w (CpM w n ns) := by
  have hB2 : Below w.heap.size w ((w.alloc (.cells #[.slice A n c] 24)).alloc (.cells #[.slice none 0 0] 24)) := below2 _ _ _
  have KR : Hid (Bk ((w.alloc (.cells #[.slice A n c] 24)).alloc (.cells #[.slice none 0 0] 24)) (w.heap.size + 1) 24 #[.slice none 0 0]) := Lib.hid (by simpa using Bk.new (w.alloc (.cells #[.slice A n c] 24)) 24 #[.slice none 0 0])
  have hsz : ((w.alloc (.cells #[.slice A n c] 24)).alloc (.cells #[.slice none 0 0] 24)).heap.size = w.heap.size + 1 + 1 := by simp
  have ho : Hid ((((w.alloc (.cells #[.slice A n c] 24)).alloc (.cells #[.slice none 0 0] 24)).alloc (.cells #[] 69)).ownsRow (w.heap.size + 1 + 1) 69 2 (.slice (some ⟨w.heap.size + 1 + 1, 0, none⟩) 0 0) 0 ([] : List Value)) := Lib.hid (by
    have h := World.ownsRow_lit (base := ((w.alloc (.cells #[.slice A n c] 24)).alloc (.cells #[.slice none 0 0] 24)).heap.size) (e := 69) (size := 2) ((w.alloc (.cells #[.slice A n c] 24)).alloc (.cells #[.slice none 0 0] 24)) #[] 0 (Nat.le_refl _) (by unfold maxLen; omega) rfl
    rw [hsz] at h
    exact h)
  have HR : Hid (RdP (((w.alloc (.cells #[.slice A n c] 24)).alloc (.cells #[.slice none 0 0] 24)).alloc (.cells #[] 69)) A n ns) := Lib.hid ((hr.below hB2).below (below1 _ _))
  have HB : Hid (Below w.heap.size w (((w.alloc (.cells #[.slice A n c] 24)).alloc (.cells #[.slice none 0 0] 24)).alloc (.cells #[] 69))) := Lib.hid (hB2.alloc hB2.size _)
  have HK : Hid (Bk (((w.alloc (.cells #[.slice A n c] 24)).alloc (.cells #[.slice none 0 0] 24)).alloc (.cells #[] 69)) (w.heap.size + 1) 24 #[.slice none 0 0]) := Lib.hid (KR.out.alloc _)
  have HL : Hid (ns.length = n) := hr.1
  obtain ⟨i0, hi, hz0, hz1, hz2⟩ := info_parts nodInfo
  clear hB2 KR
  cases A with
  | none =>
    obtain ⟨rfl, rfl⟩ := hA rfl
    have hl : ns = [] := List.eq_nil_of_length_eq_zero hr.1
    subst hl
    clear hA hr HR
    go_enter Try.func41, Try.ntmps41
    go_wp2_with (at_builtin; refine wpList_append_own_none rfl (.tmp 3) (.tmp 5) 22 rfl (w.heap.size + 1 + 1) 69 i0 2 Try.underlying22 hi _ _ _ rfl ho.out rfl ?_)
    have B2 := HB.out
    refine bodyPost_ret (v := .agg #[.slice (some ⟨w.heap.size + 1 + 1, 0, none⟩) 0 0]) (by simp [results, Try.results41, go_sem]) rfl ⟨⟨_, _, rfl, ⟨rfl, fun h => absurd h (by omega)⟩, Nat.le_refl _, by omega⟩, ?_⟩
    go_grown
  | some ad =>
    have hlen : Hid ((pairCells ns).length = n * 2) := by show _ = _; rw [pairCells_length, HL.out]
    have hsrc := Lib.hid (rdp_news HR.out)
    have hone : Hid (∀ u ∈ pairCells ns, u.oneCell' = true) := pairCells_one ns
    obtain ⟨news, hnews⟩ : ∃ news, pairCells ns = news := ⟨_, rfl⟩
    rw [hnews] at hlen hsrc hone
    have HNW := Lib.hid hnews
    have hbs : w.heap.size + 1 + 1 ≤ (((w.alloc (.cells #[.slice (some ad) n c] 24)).alloc (.cells #[.slice none 0 0] 24)).alloc (.cells #[] 69)).heap.size := by simp
    clear hnews hA hr HR
    go_enter Try.func41, Try.ntmps41
    go_wp2_with (at_builtin; refine wpList_append_own _ rfl (.tmp 3) (.tmp 5) 22 rfl (w.heap.size + 1 + 1) 69 i0 _ 2 16 Try.underlying22 hi hz0 hz1 hz2 rfl (by decide) _ _ _ rfl ho.out ad n c news rfl hlen.out hsrc.out hone.out (by unfold maxLen; omega) (by omega) hbs ?_)
    intro v w2 ho2 hg2 hnil
    have b2 : Below w.heap.size w w2 := HB.out.grown hg2 (by have := HB.out.size; exact this) (fun g hg => by have := (ho.out.lt g hg).1; omega)
    have hv : ∃ g cap, v = .slice (some ⟨g, 0, none⟩) n cap ∧ n ≤ cap ∧ w.heap.size + 1 + 1 ≤ g := by
      have h2 := ho2.2
      rcases h2 with ⟨e, h0⟩ | ⟨g, cap, cur, e, hge, _, hnc, _⟩
      · exact absurd e hnil
      · refine ⟨g, cap, by rw [e], by omega, hge⟩
    obtain ⟨g, cap, rfl, hcap, hge⟩ := hv
    have o2 : RdN w2 (some ⟨g, 0, none⟩) n ns := by
      refine rdN_of_own (base := w.heap.size + 1 + 1) (t := 69) (cap := cap) ?_ HL.out
      rw [HNW.out]
      simpa using ho2
    have k2 : Bk w2 (w.heap.size + 1) 24 #[.slice none 0 0] := HK.out.grown hg2 (by intro e; have h := ho.out.lt _ (by rw [← e]); omega)
    have O2 := Lib.hid o2
    have B2 := b2
    obtain ⟨k0, kf⟩ := bk1 k2
    clear ho2 hg2 b2 hnil ho HB HK o2
    go_wp2
    refine bodyPost_ret (v := .agg #[.slice (some ⟨g, 0, none⟩) n cap]) (by simp [results, Try.results41, go_sem, k0, kf]) rfl ⟨⟨_, _, rfl, rdN_far O2.out _ (by simp; omega) _, hcap, by omega⟩, ?_⟩
    go_grown

end Go.Proofs.Ytepcciodhppbnaa


namespace Go.Proofs.Ytepcciodhppbnaa
open Go.RowKit

def ratC (n q s : Int) (m : Nat) : Int := firstNZ [rngE 1 1000 [n, q], if s ≠ 0 ∨ 0 < m then 3 else 0]
def mpC (n q s : Int) (ns : List (Int × Int)) : Int := firstNZ [(mapR ns).2, rngE 1 1000000000000 [s], if n ≠ 0 ∨ q ≠ 0 then 3 else 0]
/-- The error of rules. -/
def rulC (k d n q s : Int) (m : Nat) (ns : List (Int × Int)) : Int :=
  if k < 0 ∨ 2 ≤ k then 15 else if degE d = 0 then (if k = 0 then ratC n q s m else mpC n q s ns) else degE d
set_option maxRecDepth 100000 in
set_option maxHeartbeats 4000000 in
theorem rcheckRatio_all (k d n q s : Int) (A : Option Addr) (m c : Nat) (w : World) (hm : m ≤ 1000000) :
    Calls Try.prog 69 #[.agg #[.int .i64 k, .int .i64 d, .int .i64 n, .int .i64 q, .int .i64 s, .slice A m c]] w fun e w' => e = .returned (.int .i64 (ratC n q s m)) ∧ Below w.heap.size w w' := by
  by_cases hs : s = 0
  · by_cases hm0 : m = 0
    · subst hs; subst hm0
      have := rcheckRatio_any k d n q A c w
      have e : ratC n q 0 0 = ratE n q := by unfold ratC ratE; rw [if_neg (by simp)]
      rw [e]; exact this
    · subst hs
      have HE : Hid (ratC n q 0 m = firstNZ [rngE 1 1000 [n, q], 3]) := Lib.hid (by unfold ratC; rw [if_pos (.inr (by omega))])
      obtain ⟨F, hF⟩ : ∃ F, firstNZ [rngE 1 1000 [n, q], 3] = F := ⟨_, rfl⟩
      rw [hF] at HE
      have HF := Lib.hid hF
      have hmI : (0 : Int) < (m : Int) := by omega
      have hmN : 0 < m := by omega
      have CW := Lib.hid (fun W => when_any true 3 W)
      rw [if_pos rfl] at CW
      clear hF
      go_enter Try.func69, Try.ntmps69
      go_wp2
      have hI := OneB.start w 26 #[.int .i64 k, .int .i64 d, .int .i64 n, .int .i64 q, .int .i64 0, .slice A m c]
      go_region_held3 (fun w' : World => (w'.cell? ⟨w.heap.size, 0, none⟩ = some (.int .i64 k) ∧ w'.cell? ⟨w.heap.size, 1, none⟩ = some (.int .i64 d) ∧ w'.cell? ⟨w.heap.size, 2, none⟩ = some (.int .i64 n) ∧ w'.cell? ⟨w.heap.size, 3, none⟩ = some (.int .i64 q) ∧ w'.cell? ⟨w.heap.size, 4, none⟩ = some (.int .i64 0) ∧ w'.cell? ⟨w.heap.size, 5, none⟩ = some (.slice A m c)) ∧ OneB w w.heap.size 26 #[(.int .i64 k), (.int .i64 d), (.int .i64 n), (.int .i64 q), (.int .i64 0), (.slice A m c)] w') ((refine (fun hI => ⟨OneB.six hI, hI⟩) ?_; repeat (first | assumption | refine OneB.drew ?_ | refine OneB.alloc ?_ _))) (first
        | (go_at_call 63; refine (from_any _ _ _).mono ?_; rintro e w' ⟨rfl, rfl⟩)
        | (go_at_call 124; refine (checkEach_any _ 2 2 [n, q] 1 1000 _ _ _ (lit2 _ _ _ _ ?_ ?_) (by omega) ?_ ?_).mono ?_; (focus (simp [go_sem])); (focus (simp [go_sem])); (focus (simp [go_sem])); (focus (simp [go_sem])); rintro e w' ⟨rfl, rfl⟩)
        | (go_at_call 68; refine (CW.out _).mono ?_; rintro e w' ⟨rfl, rfl⟩)
        | (go_at_call 62; refine (firstError2 HF.out _ _ ?_ ?_).mono ?_; (focus (simp [go_sem])); (focus (simp [go_sem])); rintro e w' ⟨rfl, rfl⟩))
      all_goals
        go_wp2
        go_ret
        refine ⟨retI HE.out.symm, ?_⟩
        have := hI.b
        have := this.size
        go_grown
  · have HE : Hid (ratC n q s m = firstNZ [rngE 1 1000 [n, q], 3]) := Lib.hid (by unfold ratC; rw [if_pos (.inl hs)])
    obtain ⟨F, hF⟩ : ∃ F, firstNZ [rngE 1 1000 [n, q], 3] = F := ⟨_, rfl⟩
    rw [hF] at HE
    have HF := Lib.hid hF
    have hs1 : (s != 0) = true := neT hs
    have CW := Lib.hid (fun W => when_any true 3 W)
    rw [if_pos rfl] at CW
    clear hF hs
    go_enter Try.func69, Try.ntmps69
    go_wp2
    have hI := OneB.start w 26 #[.int .i64 k, .int .i64 d, .int .i64 n, .int .i64 q, .int .i64 s, .slice A m c]
    refine wp_region_held_drew (S := (fun w' : World => (w'.cell? ⟨w.heap.size, 0, none⟩ = some (.int .i64 k) ∧ w'.cell? ⟨w.heap.size, 1, none⟩ = some (.int .i64 d) ∧ w'.cell? ⟨w.heap.size, 2, none⟩ = some (.int .i64 n) ∧ w'.cell? ⟨w.heap.size, 3, none⟩ = some (.int .i64 q) ∧ w'.cell? ⟨w.heap.size, 4, none⟩ = some (.int .i64 s) ∧ w'.cell? ⟨w.heap.size, 5, none⟩ = some (.slice A m c)) ∧ OneB w w.heap.size 26 #[(.int .i64 k), (.int .i64 d), (.int .i64 n), (.int .i64 q), (.int .i64 s), (.slice A m c)] w')) (by kernel_rfl) ?_ ?_
    · ((refine (fun hI => ⟨OneB.six hI, hI⟩) ?_; repeat (first | assumption | refine OneB.drew ?_ | refine OneB.alloc ?_ _)))
    intro hHeld
    refine wpAnyH_take (i := 0) (v := ?_) rfl (by kernel_rfl) (by kernel_rfl) (by kernel_rfl) (fun _ _ _ h => h) (Or.inl ⟨by rfl, ?_⟩) (by assumption) ?_
    rotate_left
    · intro w hSw; (try dsimp only at hSw); go_simp; (try (with_reducible rfl))
    try simp only [List.getElem_toArray, List.getElem_cons_succ, List.getElem_cons_zero, Act.put, List.setIfInBounds_toArray, List.set_cons_zero, List.set_cons_succ]
    refine wpAnyH_take (i := 1) (v := ?_) rfl (by kernel_rfl) (by kernel_rfl) (by kernel_rfl) (fun _ _ _ h => h) (Or.inl ⟨by rfl, ?_⟩) (by assumption) ?_
    rotate_left
    · intro w hSw; (try dsimp only at hSw); go_simp; (try (with_reducible rfl))
    try simp only [List.getElem_toArray, List.getElem_cons_succ, List.getElem_cons_zero, Act.put, List.setIfInBounds_toArray, List.set_cons_zero, List.set_cons_succ]
    refine wpAnyH_take (i := 2) (v := ?_) rfl (by kernel_rfl) (by kernel_rfl) (by kernel_rfl) (fun _ _ _ h => h) (Or.inl ⟨by rfl, ?_⟩) (by assumption) ?_
    rotate_left
    · intro w hSw; (try dsimp only at hSw); go_simp; (try (with_reducible rfl))
    try simp only [List.getElem_toArray, List.getElem_cons_succ, List.getElem_cons_zero, Act.put, List.setIfInBounds_toArray, List.set_cons_zero, List.set_cons_succ]
    refine wpAnyH_take (i := 3) (v := ?_) rfl (by kernel_rfl) (by kernel_rfl) (by kernel_rfl) (fun _ _ _ h => h) (Or.inl ⟨by rfl, ?_⟩) (by assumption) ?_
    rotate_left
    · intro w hSw; (try dsimp only at hSw); go_simp; (try (with_reducible rfl))
    try simp only [List.getElem_toArray, List.getElem_cons_succ, List.getElem_cons_zero, Act.put, List.setIfInBounds_toArray, List.set_cons_zero, List.set_cons_succ]
    refine wpAnyH_take (i := 7) (v := ?_) rfl (by kernel_rfl) (by kernel_rfl) (by kernel_rfl) (fun _ _ _ h => h) (Or.inl ⟨by rfl, ?_⟩) (by assumption) ?_
    rotate_left
    · intro w hSw; (try dsimp only at hSw); go_simp; (try (with_reducible rfl))
    try simp only [List.getElem_toArray, List.getElem_cons_succ, List.getElem_cons_zero, Act.put, List.setIfInBounds_toArray, List.set_cons_zero, List.set_cons_succ]
    refine wpAnyH_take (i := 8) (v := ?_) rfl (by kernel_rfl) (by kernel_rfl) (by kernel_rfl) (fun _ _ _ h => h) (Or.inl ⟨by rfl, ?_⟩) (by assumption) ?_
    rotate_left
    · intro w hSw; (try dsimp only at hSw); go_simp; (try (with_reducible rfl))
    try simp only [List.getElem_toArray, List.getElem_cons_succ, List.getElem_cons_zero, Act.put, List.setIfInBounds_toArray, List.set_cons_zero, List.set_cons_succ]
    refine wpAnyH_take (i := 9) (v := ?_) rfl (by kernel_rfl) (by kernel_rfl) (by kernel_rfl) (fun _ _ _ h => h) (Or.inl ⟨by rfl, ?_⟩) (by assumption) ?_
    rotate_left
    · intro w hSw; (try dsimp only at hSw); go_simp; (try (with_reducible rfl))
    try simp only [List.getElem_toArray, List.getElem_cons_succ, List.getElem_cons_zero, Act.put, List.setIfInBounds_toArray, List.set_cons_zero, List.set_cons_succ]
    refine wpAnyH_ready (rs := [4, 5]) (by kernel_rfl) (by simp) ?_
    refine AllReadyH.cons rfl (fun K hK => ?_) (AllReadyH.cons rfl (fun K hK => ?_) AllReadyH.nil)
    · go_simp
      refine hK.out _ _ ?_ (fun hHeld => ?_)
      · clear hK K; ((refine (fun hI => ⟨OneB.six hI, hI⟩) ?_; repeat (first | assumption | refine OneB.drew ?_ | refine OneB.alloc ?_ _)))
      clear hK K
      try simp only [List.getElem_toArray, List.getElem_cons_succ, List.getElem_cons_zero, Act.put, List.setIfInBounds_toArray, List.set_cons_zero, List.set_cons_succ]
      refine wpAnyH_ready (rs := [5]) (by kernel_rfl) (by simp) ?_
      refine AllReadyH.cons rfl (fun K hK => ?_) AllReadyH.nil
      go_simp
      (go_at_call 63; refine (from_any _ _ _).mono ?_; rintro e w' ⟨rfl, rfl⟩)
      go_wp2_with fail
      refine hK.out _ _ ?_ (fun hHeld => ?_)
      · clear hK K; ((refine (fun hI => ⟨OneB.six hI, hI⟩) ?_; repeat (first | assumption | refine OneB.drew ?_ | refine OneB.alloc ?_ _)))
      clear hK K
      try simp only [List.getElem_toArray, List.getElem_cons_succ, List.getElem_cons_zero, Act.put, List.setIfInBounds_toArray, List.set_cons_zero, List.set_cons_succ]
      refine wpAnyH_ready (rs := [6]) (by kernel_rfl) (by simp) ?_
      refine AllReadyH.cons rfl (fun K hK => ?_) AllReadyH.nil
      go_simp
      (go_at_call 124; refine (checkEach_any _ 2 2 [n, q] 1 1000 _ _ _ (lit2 _ _ _ _ ?_ ?_) (by omega) ?_ ?_).mono ?_; (focus (simp [go_sem])); (focus (simp [go_sem])); (focus (simp [go_sem])); (focus (simp [go_sem])); rintro e w' ⟨rfl, rfl⟩)
      go_wp2_with fail
      refine hK.out _ _ ?_ (fun hHeld => ?_)
      · clear hK K; ((refine (fun hI => ⟨OneB.six hI, hI⟩) ?_; repeat (first | assumption | refine OneB.drew ?_ | refine OneB.alloc ?_ _)))
      clear hK K
      try simp only [List.getElem_toArray, List.getElem_cons_succ, List.getElem_cons_zero, Act.put, List.setIfInBounds_toArray, List.set_cons_zero, List.set_cons_succ]
      refine wpAnyH_take (i := 10) (v := ?_) rfl (by kernel_rfl) (by kernel_rfl) (by kernel_rfl) (fun _ _ _ h => h) (Or.inl ⟨by rfl, ?_⟩) (by assumption) ?_
      rotate_left
      · intro w hSw; (try dsimp only at hSw); go_simp; (try (with_reducible rfl))
      try simp only [List.getElem_toArray, List.getElem_cons_succ, List.getElem_cons_zero, Act.put, List.setIfInBounds_toArray, List.set_cons_zero, List.set_cons_succ]
      refine wpAnyH_take (i := 11) (v := undef) rfl (by kernel_rfl) (by kernel_rfl) (by kernel_rfl) (fun _ _ _ h => h) (Or.inr ⟨by rfl, rfl⟩) (by assumption) ?_
      try simp only [List.getElem_toArray, List.getElem_cons_succ, List.getElem_cons_zero, Act.put, List.setIfInBounds_toArray, List.set_cons_zero, List.set_cons_succ]
      refine wpAnyH_take (i := 12) (v := undef) rfl (by kernel_rfl) (by kernel_rfl) (by kernel_rfl) (fun _ _ _ h => h) (Or.inr ⟨by rfl, rfl⟩) (by assumption) ?_
      try simp only [List.getElem_toArray, List.getElem_cons_succ, List.getElem_cons_zero, Act.put, List.setIfInBounds_toArray, List.set_cons_zero, List.set_cons_succ]
      refine wpAnyH_take (i := 13) (v := undef) rfl (by kernel_rfl) (by kernel_rfl) (by kernel_rfl) (fun _ _ _ h => h) (Or.inr ⟨by rfl, rfl⟩) (by assumption) ?_
      try simp only [List.getElem_toArray, List.getElem_cons_succ, List.getElem_cons_zero, Act.put, List.setIfInBounds_toArray, List.set_cons_zero, List.set_cons_succ]
      refine wpAnyH_take (i := 14) (v := undef) rfl (by kernel_rfl) (by kernel_rfl) (by kernel_rfl) (fun _ _ _ h => h) (Or.inr ⟨by rfl, rfl⟩) (by assumption) ?_
      try simp only [List.getElem_toArray, List.getElem_cons_succ, List.getElem_cons_zero, Act.put, List.setIfInBounds_toArray, List.set_cons_zero, List.set_cons_succ]
      refine wpAnyH_take (i := 15) (v := undef) rfl (by kernel_rfl) (by kernel_rfl) (by kernel_rfl) (fun _ _ _ h => h) (Or.inr ⟨by rfl, rfl⟩) (by assumption) ?_
      try simp only [List.getElem_toArray, List.getElem_cons_succ, List.getElem_cons_zero, Act.put, List.setIfInBounds_toArray, List.set_cons_zero, List.set_cons_succ]
      refine wpAnyH_take (i := 16) (v := ?_) rfl (by kernel_rfl) (by kernel_rfl) (by kernel_rfl) (fun _ _ _ h => h) (Or.inl ⟨by rfl, ?_⟩) (by assumption) ?_
      rotate_left
      · intro w hSw; (try dsimp only at hSw); go_simp; (try (with_reducible rfl))
      try simp only [List.getElem_toArray, List.getElem_cons_succ, List.getElem_cons_zero, Act.put, List.setIfInBounds_toArray, List.set_cons_zero, List.set_cons_succ]
      refine wpAnyH_ready (rs := [17]) (by kernel_rfl) (by simp) ?_
      refine AllReadyH.cons rfl (fun K hK => ?_) AllReadyH.nil
      go_simp
      (go_at_call 68; refine (CW.out _).mono ?_; rintro e w' ⟨rfl, rfl⟩)
      go_wp2_with fail
      refine hK.out _ _ ?_ (fun hHeld => ?_)
      · clear hK K; ((refine (fun hI => ⟨OneB.six hI, hI⟩) ?_; repeat (first | assumption | refine OneB.drew ?_ | refine OneB.alloc ?_ _)))
      clear hK K
      try simp only [List.getElem_toArray, List.getElem_cons_succ, List.getElem_cons_zero, Act.put, List.setIfInBounds_toArray, List.set_cons_zero, List.set_cons_succ]
      refine wpAnyH_ready (rs := [18]) (by kernel_rfl) (by simp) ?_
      refine AllReadyH.cons rfl (fun K hK => ?_) AllReadyH.nil
      go_simp
      refine hK.out _ _ ?_ (fun hHeld => ?_)
      · clear hK K; ((refine (fun hI => ⟨OneB.six hI, hI⟩) ?_; repeat (first | assumption | refine OneB.drew ?_ | refine OneB.alloc ?_ _)))
      clear hK K
      try simp only [List.getElem_toArray, List.getElem_cons_succ, List.getElem_cons_zero, Act.put, List.setIfInBounds_toArray, List.set_cons_zero, List.set_cons_succ]
      refine wpAnyH_ready (rs := [19]) (by kernel_rfl) (by simp) ?_
      refine AllReadyH.cons rfl (fun K hK => ?_) AllReadyH.nil
      go_simp
      (go_at_call 62; refine (firstError2 HF.out _ _ ?_ ?_).mono ?_; (focus (simp [go_sem])); (focus (simp [go_sem])); rintro e w' ⟨rfl, rfl⟩)
      go_wp2_with fail
      refine hK.out _ _ ?_ (fun hHeld => ?_)
      · clear hK K; ((refine (fun hI => ⟨OneB.six hI, hI⟩) ?_; repeat (first | assumption | refine OneB.drew ?_ | refine OneB.alloc ?_ _)))
      clear hK K
      try simp only [List.getElem_toArray, List.getElem_cons_succ, List.getElem_cons_zero, Act.put, List.setIfInBounds_toArray, List.set_cons_zero, List.set_cons_succ]
      refine wpAnyH_take (i := 20) (v := ?_) rfl (by kernel_rfl) (by kernel_rfl) (by kernel_rfl) (fun _ _ _ h => h) (Or.inl ⟨by rfl, ?_⟩) (by assumption) ?_
      rotate_left
      · intro w hSw; (try dsimp only at hSw); go_simp; (try (with_reducible rfl))
      try simp only [List.getElem_toArray, List.getElem_cons_succ, List.getElem_cons_zero, Act.put, List.setIfInBounds_toArray, List.set_cons_zero, List.set_cons_succ]
      refine wpAnyH_done (by kernel_rfl) ?_ _
      go_wp2
      go_ret
      refine ⟨retI HE.out.symm, ?_⟩
      have := hI.b
      have := this.size
      go_grown
    · go_simp
      (go_at_call 63; refine (from_any _ _ _).mono ?_; rintro e w' ⟨rfl, rfl⟩)
      go_wp2_with fail
      refine hK.out _ _ ?_ (fun hHeld => ?_)
      · clear hK K; ((refine (fun hI => ⟨OneB.six hI, hI⟩) ?_; repeat (first | assumption | refine OneB.drew ?_ | refine OneB.alloc ?_ _)))
      clear hK K
      try simp only [List.getElem_toArray, List.getElem_cons_succ, List.getElem_cons_zero, Act.put, List.setIfInBounds_toArray, List.set_cons_zero, List.set_cons_succ]
      refine wpAnyH_ready (rs := [4]) (by kernel_rfl) (by simp) ?_
      refine AllReadyH.cons rfl (fun K hK => ?_) AllReadyH.nil
      go_simp
      refine hK.out _ _ ?_ (fun hHeld => ?_)
      · clear hK K; ((refine (fun hI => ⟨OneB.six hI, hI⟩) ?_; repeat (first | assumption | refine OneB.drew ?_ | refine OneB.alloc ?_ _)))
      clear hK K
      try simp only [List.getElem_toArray, List.getElem_cons_succ, List.getElem_cons_zero, Act.put, List.setIfInBounds_toArray, List.set_cons_zero, List.set_cons_succ]
      refine wpAnyH_ready (rs := [6]) (by kernel_rfl) (by simp) ?_
      refine AllReadyH.cons rfl (fun K hK => ?_) AllReadyH.nil
      go_simp
      (go_at_call 124; refine (checkEach_any _ 2 2 [n, q] 1 1000 _ _ _ (lit2 _ _ _ _ ?_ ?_) (by omega) ?_ ?_).mono ?_; (focus (simp [go_sem])); (focus (simp [go_sem])); (focus (simp [go_sem])); (focus (simp [go_sem])); rintro e w' ⟨rfl, rfl⟩)
      go_wp2_with fail
      refine hK.out _ _ ?_ (fun hHeld => ?_)
      · clear hK K; ((refine (fun hI => ⟨OneB.six hI, hI⟩) ?_; repeat (first | assumption | refine OneB.drew ?_ | refine OneB.alloc ?_ _)))
      clear hK K
      try simp only [List.getElem_toArray, List.getElem_cons_succ, List.getElem_cons_zero, Act.put, List.setIfInBounds_toArray, List.set_cons_zero, List.set_cons_succ]
      refine wpAnyH_take (i := 10) (v := ?_) rfl (by kernel_rfl) (by kernel_rfl) (by kernel_rfl) (fun _ _ _ h => h) (Or.inl ⟨by rfl, ?_⟩) (by assumption) ?_
      rotate_left
      · intro w hSw; (try dsimp only at hSw); go_simp; (try (with_reducible rfl))
      try simp only [List.getElem_toArray, List.getElem_cons_succ, List.getElem_cons_zero, Act.put, List.setIfInBounds_toArray, List.set_cons_zero, List.set_cons_succ]
      refine wpAnyH_take (i := 11) (v := undef) rfl (by kernel_rfl) (by kernel_rfl) (by kernel_rfl) (fun _ _ _ h => h) (Or.inr ⟨by rfl, rfl⟩) (by assumption) ?_
      try simp only [List.getElem_toArray, List.getElem_cons_succ, List.getElem_cons_zero, Act.put, List.setIfInBounds_toArray, List.set_cons_zero, List.set_cons_succ]
      refine wpAnyH_take (i := 12) (v := undef) rfl (by kernel_rfl) (by kernel_rfl) (by kernel_rfl) (fun _ _ _ h => h) (Or.inr ⟨by rfl, rfl⟩) (by assumption) ?_
      try simp only [List.getElem_toArray, List.getElem_cons_succ, List.getElem_cons_zero, Act.put, List.setIfInBounds_toArray, List.set_cons_zero, List.set_cons_succ]
      refine wpAnyH_take (i := 13) (v := undef) rfl (by kernel_rfl) (by kernel_rfl) (by kernel_rfl) (fun _ _ _ h => h) (Or.inr ⟨by rfl, rfl⟩) (by assumption) ?_
      try simp only [List.getElem_toArray, List.getElem_cons_succ, List.getElem_cons_zero, Act.put, List.setIfInBounds_toArray, List.set_cons_zero, List.set_cons_succ]
      refine wpAnyH_take (i := 14) (v := undef) rfl (by kernel_rfl) (by kernel_rfl) (by kernel_rfl) (fun _ _ _ h => h) (Or.inr ⟨by rfl, rfl⟩) (by assumption) ?_
      try simp only [List.getElem_toArray, List.getElem_cons_succ, List.getElem_cons_zero, Act.put, List.setIfInBounds_toArray, List.set_cons_zero, List.set_cons_succ]
      refine wpAnyH_take (i := 15) (v := undef) rfl (by kernel_rfl) (by kernel_rfl) (by kernel_rfl) (fun _ _ _ h => h) (Or.inr ⟨by rfl, rfl⟩) (by assumption) ?_
      try simp only [List.getElem_toArray, List.getElem_cons_succ, List.getElem_cons_zero, Act.put, List.setIfInBounds_toArray, List.set_cons_zero, List.set_cons_succ]
      refine wpAnyH_take (i := 16) (v := ?_) rfl (by kernel_rfl) (by kernel_rfl) (by kernel_rfl) (fun _ _ _ h => h) (Or.inl ⟨by rfl, ?_⟩) (by assumption) ?_
      rotate_left
      · intro w hSw; (try dsimp only at hSw); go_simp; (try (with_reducible rfl))
      try simp only [List.getElem_toArray, List.getElem_cons_succ, List.getElem_cons_zero, Act.put, List.setIfInBounds_toArray, List.set_cons_zero, List.set_cons_succ]
      refine wpAnyH_ready (rs := [17]) (by kernel_rfl) (by simp) ?_
      refine AllReadyH.cons rfl (fun K hK => ?_) AllReadyH.nil
      go_simp
      (go_at_call 68; refine (CW.out _).mono ?_; rintro e w' ⟨rfl, rfl⟩)
      go_wp2_with fail
      refine hK.out _ _ ?_ (fun hHeld => ?_)
      · clear hK K; ((refine (fun hI => ⟨OneB.six hI, hI⟩) ?_; repeat (first | assumption | refine OneB.drew ?_ | refine OneB.alloc ?_ _)))
      clear hK K
      try simp only [List.getElem_toArray, List.getElem_cons_succ, List.getElem_cons_zero, Act.put, List.setIfInBounds_toArray, List.set_cons_zero, List.set_cons_succ]
      refine wpAnyH_ready (rs := [18]) (by kernel_rfl) (by simp) ?_
      refine AllReadyH.cons rfl (fun K hK => ?_) AllReadyH.nil
      go_simp
      refine hK.out _ _ ?_ (fun hHeld => ?_)
      · clear hK K; ((refine (fun hI => ⟨OneB.six hI, hI⟩) ?_; repeat (first | assumption | refine OneB.drew ?_ | refine OneB.alloc ?_ _)))
      clear hK K
      try simp only [List.getElem_toArray, List.getElem_cons_succ, List.getElem_cons_zero, Act.put, List.setIfInBounds_toArray, List.set_cons_zero, List.set_cons_succ]
      refine wpAnyH_ready (rs := [19]) (by kernel_rfl) (by simp) ?_
      refine AllReadyH.cons rfl (fun K hK => ?_) AllReadyH.nil
      go_simp
      (go_at_call 62; refine (firstError2 HF.out _ _ ?_ ?_).mono ?_; (focus (simp [go_sem])); (focus (simp [go_sem])); rintro e w' ⟨rfl, rfl⟩)
      go_wp2_with fail
      refine hK.out _ _ ?_ (fun hHeld => ?_)
      · clear hK K; ((refine (fun hI => ⟨OneB.six hI, hI⟩) ?_; repeat (first | assumption | refine OneB.drew ?_ | refine OneB.alloc ?_ _)))
      clear hK K
      try simp only [List.getElem_toArray, List.getElem_cons_succ, List.getElem_cons_zero, Act.put, List.setIfInBounds_toArray, List.set_cons_zero, List.set_cons_succ]
      refine wpAnyH_take (i := 20) (v := ?_) rfl (by kernel_rfl) (by kernel_rfl) (by kernel_rfl) (fun _ _ _ h => h) (Or.inl ⟨by rfl, ?_⟩) (by assumption) ?_
      rotate_left
      · intro w hSw; (try dsimp only at hSw); go_simp; (try (with_reducible rfl))
      try simp only [List.getElem_toArray, List.getElem_cons_succ, List.getElem_cons_zero, Act.put, List.setIfInBounds_toArray, List.set_cons_zero, List.set_cons_succ]
      refine wpAnyH_done (by kernel_rfl) ?_ _
      go_wp2
      go_ret
      refine ⟨retI HE.out.symm, ?_⟩
      have := hI.b
      have := this.size
      go_grown
set_option maxRecDepth 100000 in
set_option maxHeartbeats 4000000 in
theorem rcheckMap_all (k d n q s : Int) (A : Option Addr) (m c : Nat) (ns : List (Int × Int)) (w : World) (hr : RdN w A m ns) (hm : m ≤ 1000000) :
    Calls Try.prog 70 #[.agg #[.int .i64 k, .int .i64 d, .int .i64 n, .int .i64 q, .int .i64 s, .slice A m c]] w fun e w' => e = .returned (.int .i64 (mpC n q s ns)) ∧ Below w.heap.size w w' := by
  by_cases hn : n = 0
  · subst hn
    by_cases hq : q = 0
    · subst hq
      have e : mpC 0 0 s ns = rmE s ns := by unfold mpC rmE; rw [if_neg (by simp)]
      rw [e]
      exact rcheckMap_any k d s A m c ns w hr hm
    · have CM : Hid (∀ w', Below w.heap.size w w' → Calls Try.prog 45 #[.agg #[.slice A m c]] w' fun e w'' => e = .returned (.tuple #[.int .i64 (mapR ns).1, .int .i64 (mapR ns).2]) ∧ Below w'.heap.size w' w'') := fun w' hb => CheckMap_any A m c ns w' (hr.below hb) hm
      have HE : Hid (mpC 0 q s ns = firstNZ [(mapR ns).2, rngE 1 1000000000000 [s], 3]) := Lib.hid (by unfold mpC; rw [if_pos (.inr hq)])
      obtain ⟨⟨i, E⟩, hE⟩ : ∃ p, mapR ns = p := ⟨_, rfl⟩
      rw [hE] at CM HE
      dsimp only at CM HE
      clear hE hr
      have C3 := Lib.hid (fun x y w h1 h2 => from1_any s 1 1000000000000 x y w h1 h2)
      obtain ⟨E2, hE2⟩ : ∃ E, rngE 1 1000000000000 [s] = E := ⟨_, rfl⟩
      rw [hE2] at HE C3
      obtain ⟨F, hF⟩ : ∃ F, firstNZ [E, E2, 3] = F := ⟨_, rfl⟩
      rw [hF] at HE
      have HF := Lib.hid hF
      have CW := Lib.hid (fun W => when_any true 3 W)
      rw [if_pos rfl] at CW
      have hq1 : (q != 0) = true := neT hq
      clear hF hE2 hq
      go_enter Try.func70, Try.ntmps70
      go_wp2_with fail
      refine (CM.out _ (below1 _ _)).mono ?_
      rintro e w1 ⟨rfl, hb1⟩
      have hI := OneB.later hb1 (OneB.start w 26 #[.int .i64 k, .int .i64 d, .int .i64 0, .int .i64 q, .int .i64 s, .slice A m c])
      clear hb1
      obtain ⟨c0, c1, c2, c3, c4, c5⟩ := hI.six
      go_wp2
      go_region_held3 (fun w' : World => (w'.cell? ⟨w.heap.size, 0, none⟩ = some (.int .i64 k) ∧ w'.cell? ⟨w.heap.size, 1, none⟩ = some (.int .i64 d) ∧ w'.cell? ⟨w.heap.size, 2, none⟩ = some (.int .i64 0) ∧ w'.cell? ⟨w.heap.size, 3, none⟩ = some (.int .i64 q) ∧ w'.cell? ⟨w.heap.size, 4, none⟩ = some (.int .i64 s) ∧ w'.cell? ⟨w.heap.size, 5, none⟩ = some (.slice A m c)) ∧ OneB w w.heap.size 26 #[(.int .i64 k), (.int .i64 d), (.int .i64 0), (.int .i64 q), (.int .i64 s), (.slice A m c)] w') ((refine (fun hI => ⟨OneB.six hI, hI⟩) ?_; repeat (first | assumption | refine OneB.drew ?_ | refine OneB.alloc ?_ _))) (first
        | (go_at_call 63; refine (from_any _ _ _).mono ?_; rintro e w' ⟨rfl, rfl⟩)
        | (go_at_call 117; refine (C3.out _ _ _ ?_ ?_).mono ?_; (focus (simp [go_sem])); (focus (simp [go_sem])); rintro e w' ⟨rfl, rfl⟩)
        | (go_at_call 68; refine (CW.out _).mono ?_; rintro e w' ⟨rfl, rfl⟩)
        | (go_at_call 62; refine (firstError3 HF.out _ _ ?_ ?_ ?_).mono ?_; (focus (simp [go_sem])); (focus (simp [go_sem])); (focus (simp [go_sem])); rintro e w' ⟨rfl, rfl⟩))
      all_goals
        go_wp2
        go_ret
        refine ⟨retI HE.out.symm, ?_⟩
        have := hI.b
        have := this.size
        go_grown
  · have CM : Hid (∀ w', Below w.heap.size w w' → Calls Try.prog 45 #[.agg #[.slice A m c]] w' fun e w'' => e = .returned (.tuple #[.int .i64 (mapR ns).1, .int .i64 (mapR ns).2]) ∧ Below w'.heap.size w' w'') := fun w' hb => CheckMap_any A m c ns w' (hr.below hb) hm
    have HE : Hid (mpC n q s ns = firstNZ [(mapR ns).2, rngE 1 1000000000000 [s], 3]) := Lib.hid (by unfold mpC; rw [if_pos (.inl hn)])
    obtain ⟨⟨i, E⟩, hE⟩ : ∃ p, mapR ns = p := ⟨_, rfl⟩
    rw [hE] at CM HE
    dsimp only at CM HE
    clear hE hr
    have C3 := Lib.hid (fun x y w h1 h2 => from1_any s 1 1000000000000 x y w h1 h2)
    obtain ⟨E2, hE2⟩ : ∃ E, rngE 1 1000000000000 [s] = E := ⟨_, rfl⟩
    rw [hE2] at HE C3
    obtain ⟨F, hF⟩ : ∃ F, firstNZ [E, E2, 3] = F := ⟨_, rfl⟩
    rw [hF] at HE
    have HF := Lib.hid hF
    have CW := Lib.hid (fun W => when_any true 3 W)
    rw [if_pos rfl] at CW
    have hn1 : (n != 0) = true := neT hn
    clear hF hE2 hn
    go_enter Try.func70, Try.ntmps70
    go_wp2_with fail
    refine (CM.out _ (below1 _ _)).mono ?_
    rintro e w1 ⟨rfl, hb1⟩
    have hI := OneB.later hb1 (OneB.start w 26 #[.int .i64 k, .int .i64 d, .int .i64 n, .int .i64 q, .int .i64 s, .slice A m c])
    clear hb1
    obtain ⟨c0, c1, c2, c3, c4, c5⟩ := hI.six
    go_wp2
    refine wp_region_held_drew (S := (fun w' : World => (w'.cell? ⟨w.heap.size, 0, none⟩ = some (.int .i64 k) ∧ w'.cell? ⟨w.heap.size, 1, none⟩ = some (.int .i64 d) ∧ w'.cell? ⟨w.heap.size, 2, none⟩ = some (.int .i64 n) ∧ w'.cell? ⟨w.heap.size, 3, none⟩ = some (.int .i64 q) ∧ w'.cell? ⟨w.heap.size, 4, none⟩ = some (.int .i64 s) ∧ w'.cell? ⟨w.heap.size, 5, none⟩ = some (.slice A m c)) ∧ OneB w w.heap.size 26 #[(.int .i64 k), (.int .i64 d), (.int .i64 n), (.int .i64 q), (.int .i64 s), (.slice A m c)] w')) (by kernel_rfl) ?_ ?_
    · ((refine (fun hI => ⟨OneB.six hI, hI⟩) ?_; repeat (first | assumption | refine OneB.drew ?_ | refine OneB.alloc ?_ _)))
    intro hHeld
    refine wpAnyH_take (i := 0) (v := ?_) rfl (by kernel_rfl) (by kernel_rfl) (by kernel_rfl) (fun _ _ _ h => h) (Or.inl ⟨by rfl, ?_⟩) (by assumption) ?_
    rotate_left
    · intro w hSw; (try dsimp only at hSw); go_simp; (try (with_reducible rfl))
    try simp only [List.getElem_toArray, List.getElem_cons_succ, List.getElem_cons_zero, Act.put, List.setIfInBounds_toArray, List.set_cons_zero, List.set_cons_succ]
    refine wpAnyH_take (i := 2) (v := ?_) rfl (by kernel_rfl) (by kernel_rfl) (by kernel_rfl) (fun _ _ _ h => h) (Or.inl ⟨by rfl, ?_⟩) (by assumption) ?_
    rotate_left
    · intro w hSw; (try dsimp only at hSw); go_simp; (try (with_reducible rfl))
    try simp only [List.getElem_toArray, List.getElem_cons_succ, List.getElem_cons_zero, Act.put, List.setIfInBounds_toArray, List.set_cons_zero, List.set_cons_succ]
    refine wpAnyH_take (i := 3) (v := ?_) rfl (by kernel_rfl) (by kernel_rfl) (by kernel_rfl) (fun _ _ _ h => h) (Or.inl ⟨by rfl, ?_⟩) (by assumption) ?_
    rotate_left
    · intro w hSw; (try dsimp only at hSw); go_simp; (try (with_reducible rfl))
    try simp only [List.getElem_toArray, List.getElem_cons_succ, List.getElem_cons_zero, Act.put, List.setIfInBounds_toArray, List.set_cons_zero, List.set_cons_succ]
    refine wpAnyH_take (i := 5) (v := ?_) rfl (by kernel_rfl) (by kernel_rfl) (by kernel_rfl) (fun _ _ _ h => h) (Or.inl ⟨by rfl, ?_⟩) (by assumption) ?_
    rotate_left
    · intro w hSw; (try dsimp only at hSw); go_simp; (try (with_reducible rfl))
    try simp only [List.getElem_toArray, List.getElem_cons_succ, List.getElem_cons_zero, Act.put, List.setIfInBounds_toArray, List.set_cons_zero, List.set_cons_succ]
    refine wpAnyH_take (i := 6) (v := ?_) rfl (by kernel_rfl) (by kernel_rfl) (by kernel_rfl) (fun _ _ _ h => h) (Or.inl ⟨by rfl, ?_⟩) (by assumption) ?_
    rotate_left
    · intro w hSw; (try dsimp only at hSw); go_simp; (try (with_reducible rfl))
    try simp only [List.getElem_toArray, List.getElem_cons_succ, List.getElem_cons_zero, Act.put, List.setIfInBounds_toArray, List.set_cons_zero, List.set_cons_succ]
    refine wpAnyH_take (i := 7) (v := ?_) rfl (by kernel_rfl) (by kernel_rfl) (by kernel_rfl) (fun _ _ _ h => h) (Or.inl ⟨by rfl, ?_⟩) (by assumption) ?_
    rotate_left
    · intro w hSw; (try dsimp only at hSw); go_simp; (try (with_reducible rfl))
    try simp only [List.getElem_toArray, List.getElem_cons_succ, List.getElem_cons_zero, Act.put, List.setIfInBounds_toArray, List.set_cons_zero, List.set_cons_succ]
    refine wpAnyH_ready (rs := [1]) (by kernel_rfl) (by simp) ?_
    refine AllReadyH.cons rfl (fun K hK => ?_) AllReadyH.nil
    go_simp
    (go_at_call 63; refine (from_any _ _ _).mono ?_; rintro e w' ⟨rfl, rfl⟩)
    go_wp2_with fail
    refine hK.out _ _ ?_ (fun hHeld => ?_)
    · clear hK K; ((refine (fun hI => ⟨OneB.six hI, hI⟩) ?_; repeat (first | assumption | refine OneB.drew ?_ | refine OneB.alloc ?_ _)))
    clear hK K
    try simp only [List.getElem_toArray, List.getElem_cons_succ, List.getElem_cons_zero, Act.put, List.setIfInBounds_toArray, List.set_cons_zero, List.set_cons_succ]
    refine wpAnyH_ready (rs := [4]) (by kernel_rfl) (by simp) ?_
    refine AllReadyH.cons rfl (fun K hK => ?_) AllReadyH.nil
    go_simp
    (go_at_call 117; refine (C3.out _ _ _ ?_ ?_).mono ?_; (focus (simp [go_sem])); (focus (simp [go_sem])); rintro e w' ⟨rfl, rfl⟩)
    go_wp2_with fail
    refine hK.out _ _ ?_ (fun hHeld => ?_)
    · clear hK K; ((refine (fun hI => ⟨OneB.six hI, hI⟩) ?_; repeat (first | assumption | refine OneB.drew ?_ | refine OneB.alloc ?_ _)))
    clear hK K
    try simp only [List.getElem_toArray, List.getElem_cons_succ, List.getElem_cons_zero, Act.put, List.setIfInBounds_toArray, List.set_cons_zero, List.set_cons_succ]
    refine wpAnyH_take (i := 8) (v := ?_) rfl (by kernel_rfl) (by kernel_rfl) (by kernel_rfl) (fun _ _ _ h => h) (Or.inl ⟨by rfl, ?_⟩) (by assumption) ?_
    rotate_left
    · intro w hSw; (try dsimp only at hSw); go_simp; (try (with_reducible rfl))
    try simp only [List.getElem_toArray, List.getElem_cons_succ, List.getElem_cons_zero, Act.put, List.setIfInBounds_toArray, List.set_cons_zero, List.set_cons_succ]
    refine wpAnyH_take (i := 9) (v := undef) rfl (by kernel_rfl) (by kernel_rfl) (by kernel_rfl) (fun _ _ _ h => h) (Or.inr ⟨by rfl, rfl⟩) (by assumption) ?_
    try simp only [List.getElem_toArray, List.getElem_cons_succ, List.getElem_cons_zero, Act.put, List.setIfInBounds_toArray, List.set_cons_zero, List.set_cons_succ]
    refine wpAnyH_take (i := 10) (v := undef) rfl (by kernel_rfl) (by kernel_rfl) (by kernel_rfl) (fun _ _ _ h => h) (Or.inr ⟨by rfl, rfl⟩) (by assumption) ?_
    try simp only [List.getElem_toArray, List.getElem_cons_succ, List.getElem_cons_zero, Act.put, List.setIfInBounds_toArray, List.set_cons_zero, List.set_cons_succ]
    refine wpAnyH_take (i := 11) (v := undef) rfl (by kernel_rfl) (by kernel_rfl) (by kernel_rfl) (fun _ _ _ h => h) (Or.inr ⟨by rfl, rfl⟩) (by assumption) ?_
    try simp only [List.getElem_toArray, List.getElem_cons_succ, List.getElem_cons_zero, Act.put, List.setIfInBounds_toArray, List.set_cons_zero, List.set_cons_succ]
    refine wpAnyH_take (i := 12) (v := ?_) rfl (by kernel_rfl) (by kernel_rfl) (by kernel_rfl) (fun _ _ _ h => h) (Or.inl ⟨by rfl, ?_⟩) (by assumption) ?_
    rotate_left
    · intro w hSw; (try dsimp only at hSw); go_simp; (try (with_reducible rfl))
    try simp only [List.getElem_toArray, List.getElem_cons_succ, List.getElem_cons_zero, Act.put, List.setIfInBounds_toArray, List.set_cons_zero, List.set_cons_succ]
    refine wpAnyH_ready (rs := [13]) (by kernel_rfl) (by simp) ?_
    refine AllReadyH.cons rfl (fun K hK => ?_) AllReadyH.nil
    go_simp
    (go_at_call 68; refine (CW.out _).mono ?_; rintro e w' ⟨rfl, rfl⟩)
    go_wp2_with fail
    refine hK.out _ _ ?_ (fun hHeld => ?_)
    · clear hK K; ((refine (fun hI => ⟨OneB.six hI, hI⟩) ?_; repeat (first | assumption | refine OneB.drew ?_ | refine OneB.alloc ?_ _)))
    clear hK K
    try simp only [List.getElem_toArray, List.getElem_cons_succ, List.getElem_cons_zero, Act.put, List.setIfInBounds_toArray, List.set_cons_zero, List.set_cons_succ]
    refine wpAnyH_ready (rs := [14]) (by kernel_rfl) (by simp) ?_
    refine AllReadyH.cons rfl (fun K hK => ?_) AllReadyH.nil
    go_simp
    refine hK.out _ _ ?_ (fun hHeld => ?_)
    · clear hK K; ((refine (fun hI => ⟨OneB.six hI, hI⟩) ?_; repeat (first | assumption | refine OneB.drew ?_ | refine OneB.alloc ?_ _)))
    clear hK K
    try simp only [List.getElem_toArray, List.getElem_cons_succ, List.getElem_cons_zero, Act.put, List.setIfInBounds_toArray, List.set_cons_zero, List.set_cons_succ]
    refine wpAnyH_ready (rs := [15]) (by kernel_rfl) (by simp) ?_
    refine AllReadyH.cons rfl (fun K hK => ?_) AllReadyH.nil
    go_simp
    (go_at_call 62; refine (firstError3 HF.out _ _ ?_ ?_ ?_).mono ?_; (focus (simp [go_sem])); (focus (simp [go_sem])); (focus (simp [go_sem])); rintro e w' ⟨rfl, rfl⟩)
    go_wp2_with fail
    refine hK.out _ _ ?_ (fun hHeld => ?_)
    · clear hK K; ((refine (fun hI => ⟨OneB.six hI, hI⟩) ?_; repeat (first | assumption | refine OneB.drew ?_ | refine OneB.alloc ?_ _)))
    clear hK K
    try simp only [List.getElem_toArray, List.getElem_cons_succ, List.getElem_cons_zero, Act.put, List.setIfInBounds_toArray, List.set_cons_zero, List.set_cons_succ]
    refine wpAnyH_take (i := 16) (v := ?_) rfl (by kernel_rfl) (by kernel_rfl) (by kernel_rfl) (fun _ _ _ h => h) (Or.inl ⟨by rfl, ?_⟩) (by assumption) ?_
    rotate_left
    · intro w hSw; (try dsimp only at hSw); go_simp; (try (with_reducible rfl))
    try simp only [List.getElem_toArray, List.getElem_cons_succ, List.getElem_cons_zero, Act.put, List.setIfInBounds_toArray, List.set_cons_zero, List.set_cons_succ]
    refine wpAnyH_done (by kernel_rfl) ?_ _
    go_wp2
    go_ret
    refine ⟨retI HE.out.symm, ?_⟩
    have := hI.b
    have := this.size
    go_grown

end Go.Proofs.Ytepcciodhppbnaa


namespace Go.Proofs.Ytepcciodhppbnaa
open Go.RowKit

set_option maxRecDepth 100000 in
set_option maxHeartbeats 4000000 in
theorem cr_neg_1 (k : Int) (n q s : Int) (A : Option Addr) (m c : Nat) (ns : List (Int × Int)) (w : World) (hk : k < 0) (hr : RdN w A m ns) (hm : m ≤ 1000000) :
    Calls Try.prog 17 #[.agg #[.int .i64 k, .int .i64 1, .int .i64 n, .int .i64 q, .int .i64 s, .slice A m c]] w fun e w' => e = .returned (.int .i64 (15)) ∧ Below w.heap.size w w' := by
  have C1 := Lib.hid (fun w => itpOf_1 w)
  unfold itp1 at C1
  have hk1 : decide (k < 0) = true := decide_eq_true hk
  clear hr
  go_enter Try.func17, Try.ntmps17
  go_wp2_with fail
  refine (C1.out _).mono ?_
  rintro e w1 ⟨rfl, hb1⟩
  have hI := OneB.later hb1 (OneB.start w 26 #[.int .i64 k, .int .i64 1, .int .i64 n, .int .i64 q, .int .i64 s, .slice A m c])
  have hlt := hI.k.lt
  have hne : ¬ w.heap.size = w1.heap.size := by omega
  clear hb1
  obtain ⟨c0, c1, c2, c3, c4, c5⟩ := hI.six
  have HI := Lib.hid hI
  clear hI
  go_wp2_with (first
    | (go_at_call 68; refine (when_any _ _ _).mono ?_; rintro e w' ⟨rfl, rfl⟩)
    | (go_at_call 62; refine (firstError2 (E1 := 15) (E2 := 0) (F := 15) rfl _ _ ?_ ?_).mono ?_; (focus (simp [go_sem])); (focus (simp [go_sem])); rintro e w' ⟨rfl, rfl⟩))
  go_ret
  refine ⟨rfl, ?_⟩
  have h1 := HI.out.b
  have h2 := h1.size
  go_grown
set_option maxRecDepth 100000 in
set_option maxHeartbeats 4000000 in
theorem cr_neg_3 (k : Int) (n q s : Int) (A : Option Addr) (m c : Nat) (ns : List (Int × Int)) (w : World) (hk : k < 0) (hr : RdN w A m ns) (hm : m ≤ 1000000) :
    Calls Try.prog 17 #[.agg #[.int .i64 k, .int .i64 3, .int .i64 n, .int .i64 q, .int .i64 s, .slice A m c]] w fun e w' => e = .returned (.int .i64 (15)) ∧ Below w.heap.size w w' := by
  have C1 := Lib.hid (fun w => itpOf_3 w)
  unfold itp3 at C1
  have hk1 : decide (k < 0) = true := decide_eq_true hk
  clear hr
  go_enter Try.func17, Try.ntmps17
  go_wp2_with fail
  refine (C1.out _).mono ?_
  rintro e w1 ⟨rfl, hb1⟩
  have hI := OneB.later hb1 (OneB.start w 26 #[.int .i64 k, .int .i64 3, .int .i64 n, .int .i64 q, .int .i64 s, .slice A m c])
  have hlt := hI.k.lt
  have hne : ¬ w.heap.size = w1.heap.size := by omega
  clear hb1
  obtain ⟨c0, c1, c2, c3, c4, c5⟩ := hI.six
  have HI := Lib.hid hI
  clear hI
  go_wp2_with (first
    | (go_at_call 68; refine (when_any _ _ _).mono ?_; rintro e w' ⟨rfl, rfl⟩)
    | (go_at_call 62; refine (firstError2 (E1 := 15) (E2 := 0) (F := 15) rfl _ _ ?_ ?_).mono ?_; (focus (simp [go_sem])); (focus (simp [go_sem])); rintro e w' ⟨rfl, rfl⟩))
  go_ret
  refine ⟨rfl, ?_⟩
  have h1 := HI.out.b
  have h2 := h1.size
  go_grown
set_option maxRecDepth 100000 in
set_option maxHeartbeats 4000000 in
theorem cr_neg_no (k : Int) (d : Int) (n q s : Int) (A : Option Addr) (m c : Nat) (ns : List (Int × Int)) (w : World) (hk : k < 0) (h1 : d ≠ 1) (h3 : d ≠ 3) (hr : RdN w A m ns) (hm : m ≤ 1000000) :
    Calls Try.prog 17 #[.agg #[.int .i64 k, .int .i64 d, .int .i64 n, .int .i64 q, .int .i64 s, .slice A m c]] w fun e w' => e = .returned (.int .i64 (15)) ∧ Below w.heap.size w w' := by
  have C1 := Lib.hid (fun w => itpOf_no d w h1 h3)
  unfold itp0 at C1
  have hk1 : decide (k < 0) = true := decide_eq_true hk
  clear hr
  go_enter Try.func17, Try.ntmps17
  go_wp2_with fail
  refine (C1.out _).mono ?_
  rintro e w1 ⟨rfl, hb1⟩
  have hI := OneB.later hb1 (OneB.start w 26 #[.int .i64 k, .int .i64 d, .int .i64 n, .int .i64 q, .int .i64 s, .slice A m c])
  have hlt := hI.k.lt
  have hne : ¬ w.heap.size = w1.heap.size := by omega
  clear hb1
  obtain ⟨c0, c1, c2, c3, c4, c5⟩ := hI.six
  have HI := Lib.hid hI
  clear hI
  go_wp2_with (first
    | (go_at_call 68; refine (when_any _ _ _).mono ?_; rintro e w' ⟨rfl, rfl⟩)
    | (go_at_call 62; refine (firstError2 (E1 := 15) (E2 := 15) (F := 15) rfl _ _ ?_ ?_).mono ?_; (focus (simp [go_sem])); (focus (simp [go_sem])); rintro e w' ⟨rfl, rfl⟩))
  go_ret
  refine ⟨rfl, ?_⟩
  have h1 := HI.out.b
  have h2 := h1.size
  go_grown
set_option maxRecDepth 100000 in
set_option maxHeartbeats 4000000 in
theorem cr_big_1 (k : Int) (n q s : Int) (A : Option Addr) (m c : Nat) (ns : List (Int × Int)) (w : World) (hk : 2 ≤ k) (hr : RdN w A m ns) (hm : m ≤ 1000000) :
    Calls Try.prog 17 #[.agg #[.int .i64 k, .int .i64 1, .int .i64 n, .int .i64 q, .int .i64 s, .slice A m c]] w fun e w' => e = .returned (.int .i64 (15)) ∧ Below w.heap.size w w' := by
  have C1 := Lib.hid (fun w => itpOf_1 w)
  unfold itp1 at C1
  have hk0 : ¬ k < 0 := by omega
  have hk1 : decide (k < 0) = false := decide_eq_false hk0
  clear hr
  go_enter Try.func17, Try.ntmps17
  go_wp2_with fail
  refine (C1.out _).mono ?_
  rintro e w1 ⟨rfl, hb1⟩
  have hI := OneB.later hb1 (OneB.start w 26 #[.int .i64 k, .int .i64 1, .int .i64 n, .int .i64 q, .int .i64 s, .slice A m c])
  have hlt := hI.k.lt
  have hne : ¬ w.heap.size = w1.heap.size := by omega
  clear hb1
  obtain ⟨c0, c1, c2, c3, c4, c5⟩ := hI.six
  have HI := Lib.hid hI
  clear hI
  go_wp2_with (first
    | (go_at_call 68; refine (when_any _ _ _).mono ?_; rintro e w' ⟨rfl, rfl⟩)
    | (go_at_call 62; refine (firstError2 (E1 := 15) (E2 := 0) (F := 15) rfl _ _ ?_ ?_).mono ?_; (focus (simp [go_sem])); (focus (simp [go_sem])); rintro e w' ⟨rfl, rfl⟩))
  go_ret
  refine ⟨rfl, ?_⟩
  have h1 := HI.out.b
  have h2 := h1.size
  go_grown
set_option maxRecDepth 100000 in
set_option maxHeartbeats 4000000 in
theorem cr_big_3 (k : Int) (n q s : Int) (A : Option Addr) (m c : Nat) (ns : List (Int × Int)) (w : World) (hk : 2 ≤ k) (hr : RdN w A m ns) (hm : m ≤ 1000000) :
    Calls Try.prog 17 #[.agg #[.int .i64 k, .int .i64 3, .int .i64 n, .int .i64 q, .int .i64 s, .slice A m c]] w fun e w' => e = .returned (.int .i64 (15)) ∧ Below w.heap.size w w' := by
  have C1 := Lib.hid (fun w => itpOf_3 w)
  unfold itp3 at C1
  have hk0 : ¬ k < 0 := by omega
  have hk1 : decide (k < 0) = false := decide_eq_false hk0
  clear hr
  go_enter Try.func17, Try.ntmps17
  go_wp2_with fail
  refine (C1.out _).mono ?_
  rintro e w1 ⟨rfl, hb1⟩
  have hI := OneB.later hb1 (OneB.start w 26 #[.int .i64 k, .int .i64 3, .int .i64 n, .int .i64 q, .int .i64 s, .slice A m c])
  have hlt := hI.k.lt
  have hne : ¬ w.heap.size = w1.heap.size := by omega
  clear hb1
  obtain ⟨c0, c1, c2, c3, c4, c5⟩ := hI.six
  have HI := Lib.hid hI
  clear hI
  go_wp2_with (first
    | (go_at_call 68; refine (when_any _ _ _).mono ?_; rintro e w' ⟨rfl, rfl⟩)
    | (go_at_call 62; refine (firstError2 (E1 := 15) (E2 := 0) (F := 15) rfl _ _ ?_ ?_).mono ?_; (focus (simp [go_sem])); (focus (simp [go_sem])); rintro e w' ⟨rfl, rfl⟩))
  go_ret
  refine ⟨rfl, ?_⟩
  have h1 := HI.out.b
  have h2 := h1.size
  go_grown
set_option maxRecDepth 100000 in
set_option maxHeartbeats 4000000 in
theorem cr_big_no (k : Int) (d : Int) (n q s : Int) (A : Option Addr) (m c : Nat) (ns : List (Int × Int)) (w : World) (hk : 2 ≤ k) (h1 : d ≠ 1) (h3 : d ≠ 3) (hr : RdN w A m ns) (hm : m ≤ 1000000) :
    Calls Try.prog 17 #[.agg #[.int .i64 k, .int .i64 d, .int .i64 n, .int .i64 q, .int .i64 s, .slice A m c]] w fun e w' => e = .returned (.int .i64 (15)) ∧ Below w.heap.size w w' := by
  have C1 := Lib.hid (fun w => itpOf_no d w h1 h3)
  unfold itp0 at C1
  have hk0 : ¬ k < 0 := by omega
  have hk1 : decide (k < 0) = false := decide_eq_false hk0
  clear hr
  go_enter Try.func17, Try.ntmps17
  go_wp2_with fail
  refine (C1.out _).mono ?_
  rintro e w1 ⟨rfl, hb1⟩
  have hI := OneB.later hb1 (OneB.start w 26 #[.int .i64 k, .int .i64 d, .int .i64 n, .int .i64 q, .int .i64 s, .slice A m c])
  have hlt := hI.k.lt
  have hne : ¬ w.heap.size = w1.heap.size := by omega
  clear hb1
  obtain ⟨c0, c1, c2, c3, c4, c5⟩ := hI.six
  have HI := Lib.hid hI
  clear hI
  go_wp2_with (first
    | (go_at_call 68; refine (when_any _ _ _).mono ?_; rintro e w' ⟨rfl, rfl⟩)
    | (go_at_call 62; refine (firstError2 (E1 := 15) (E2 := 15) (F := 15) rfl _ _ ?_ ?_).mono ?_; (focus (simp [go_sem])); (focus (simp [go_sem])); rintro e w' ⟨rfl, rfl⟩))
  go_ret
  refine ⟨rfl, ?_⟩
  have h1 := HI.out.b
  have h2 := h1.size
  go_grown
set_option maxRecDepth 100000 in
set_option maxHeartbeats 4000000 in
theorem cr_0_1 (n q s : Int) (A : Option Addr) (m c : Nat) (ns : List (Int × Int)) (w : World)  (hr : RdN w A m ns) (hm : m ≤ 1000000) :
    Calls Try.prog 17 #[.agg #[.int .i64 0, .int .i64 1, .int .i64 n, .int .i64 q, .int .i64 s, .slice A m c]] w fun e w' => e = .returned (.int .i64 (ratC n q s m)) ∧ Below w.heap.size w w' := by
  have CX : Hid (∀ w', Below w.heap.size w w' → Calls Try.prog 69 #[.agg #[.int .i64 0, .int .i64 1, .int .i64 n, .int .i64 q, .int .i64 s, .slice A m c]] w' fun e w'' => e = .returned (.int .i64 (ratC n q s m)) ∧ Below w'.heap.size w' w'') := fun w' hb => rcheckRatio_all 0 1 n q s A m c w' hm
  obtain ⟨E, hE⟩ : ∃ E, ratC n q s m = E := ⟨_, rfl⟩
  rw [hE] at CX ⊢
  clear hE
  have C1 := Lib.hid (fun w => itpOf_1 w)
  unfold itp1 at C1
  clear hr
  go_enter Try.func17, Try.ntmps17
  go_wp2_with fail
  refine (C1.out _).mono ?_
  rintro e w1 ⟨rfl, hb1⟩
  have hI := OneB.later hb1 (OneB.start w 26 #[.int .i64 0, .int .i64 1, .int .i64 n, .int .i64 q, .int .i64 s, .slice A m c])
  have hlt := hI.k.lt
  have hne : ¬ w.heap.size = w1.heap.size := by omega
  clear hb1
  obtain ⟨c0, c1, c2, c3, c4, c5⟩ := hI.six
  have HI := Lib.hid hI
  clear hI
  go_wp2_with (first
    | (go_at_call 68; refine (when_any _ _ _).mono ?_; rintro e w' ⟨rfl, rfl⟩)
    | (go_at_call 62; refine (firstError2 (E1 := 0) (E2 := 0) (F := 0) rfl _ _ ?_ ?_).mono ?_; (focus (simp [go_sem])); (focus (simp [go_sem])); rintro e w' ⟨rfl, rfl⟩))
  refine (CX.out _ (by have := HI.out.b; have := this.size; go_grown)).mono ?_
  rintro e w2 ⟨rfl, hb2⟩
  have BW : Hid (Below w.heap.size w w2) := by
    have h1 := HI.out.b
    have h2 := h1.size
    have h3 : Below w.heap.size w ((w1.alloc (.cells #[.int .i64 1, .int .i64 0, .int .i64 64, .func (.func 120) #[] #[], .int .i64 8192, .func (.func 121) #[] #[]] 112)).alloc (.cells #[.int .i64 0, .int .i64 0] 30)) := (h1.alloc h2 _).alloc (by simp; omega) _
    exact h3.trans (hb2.mono (by simp; omega))
  clear hb2
  go_wp2
  go_ret
  exact ⟨rfl, BW.out⟩
set_option maxRecDepth 100000 in
set_option maxHeartbeats 4000000 in
theorem cr_0_3 (n q s : Int) (A : Option Addr) (m c : Nat) (ns : List (Int × Int)) (w : World)  (hr : RdN w A m ns) (hm : m ≤ 1000000) :
    Calls Try.prog 17 #[.agg #[.int .i64 0, .int .i64 3, .int .i64 n, .int .i64 q, .int .i64 s, .slice A m c]] w fun e w' => e = .returned (.int .i64 (ratC n q s m)) ∧ Below w.heap.size w w' := by
  have CX : Hid (∀ w', Below w.heap.size w w' → Calls Try.prog 69 #[.agg #[.int .i64 0, .int .i64 3, .int .i64 n, .int .i64 q, .int .i64 s, .slice A m c]] w' fun e w'' => e = .returned (.int .i64 (ratC n q s m)) ∧ Below w'.heap.size w' w'') := fun w' hb => rcheckRatio_all 0 3 n q s A m c w' hm
  obtain ⟨E, hE⟩ : ∃ E, ratC n q s m = E := ⟨_, rfl⟩
  rw [hE] at CX ⊢
  clear hE
  have C1 := Lib.hid (fun w => itpOf_3 w)
  unfold itp3 at C1
  clear hr
  go_enter Try.func17, Try.ntmps17
  go_wp2_with fail
  refine (C1.out _).mono ?_
  rintro e w1 ⟨rfl, hb1⟩
  have hI := OneB.later hb1 (OneB.start w 26 #[.int .i64 0, .int .i64 3, .int .i64 n, .int .i64 q, .int .i64 s, .slice A m c])
  have hlt := hI.k.lt
  have hne : ¬ w.heap.size = w1.heap.size := by omega
  clear hb1
  obtain ⟨c0, c1, c2, c3, c4, c5⟩ := hI.six
  have HI := Lib.hid hI
  clear hI
  go_wp2_with (first
    | (go_at_call 68; refine (when_any _ _ _).mono ?_; rintro e w' ⟨rfl, rfl⟩)
    | (go_at_call 62; refine (firstError2 (E1 := 0) (E2 := 0) (F := 0) rfl _ _ ?_ ?_).mono ?_; (focus (simp [go_sem])); (focus (simp [go_sem])); rintro e w' ⟨rfl, rfl⟩))
  refine (CX.out _ (by have := HI.out.b; have := this.size; go_grown)).mono ?_
  rintro e w2 ⟨rfl, hb2⟩
  have BW : Hid (Below w.heap.size w w2) := by
    have h1 := HI.out.b
    have h2 := h1.size
    have h3 : Below w.heap.size w ((w1.alloc (.cells #[.int .i64 3, .int .i64 1, .int .i64 1572864, .func (.func 122) #[] #[], .int .i64 402653184, .func (.func 123) #[] #[]] 112)).alloc (.cells #[.int .i64 0, .int .i64 0] 30)) := (h1.alloc h2 _).alloc (by simp; omega) _
    exact h3.trans (hb2.mono (by simp; omega))
  clear hb2
  go_wp2
  go_ret
  exact ⟨rfl, BW.out⟩
set_option maxRecDepth 100000 in
set_option maxHeartbeats 4000000 in
theorem cr_0_no (d : Int) (n q s : Int) (A : Option Addr) (m c : Nat) (ns : List (Int × Int)) (w : World)  (h1 : d ≠ 1) (h3 : d ≠ 3) (hr : RdN w A m ns) (hm : m ≤ 1000000) :
    Calls Try.prog 17 #[.agg #[.int .i64 0, .int .i64 d, .int .i64 n, .int .i64 q, .int .i64 s, .slice A m c]] w fun e w' => e = .returned (.int .i64 (15)) ∧ Below w.heap.size w w' := by
  have C1 := Lib.hid (fun w => itpOf_no d w h1 h3)
  unfold itp0 at C1
  clear hr
  go_enter Try.func17, Try.ntmps17
  go_wp2_with fail
  refine (C1.out _).mono ?_
  rintro e w1 ⟨rfl, hb1⟩
  have hI := OneB.later hb1 (OneB.start w 26 #[.int .i64 0, .int .i64 d, .int .i64 n, .int .i64 q, .int .i64 s, .slice A m c])
  have hlt := hI.k.lt
  have hne : ¬ w.heap.size = w1.heap.size := by omega
  clear hb1
  obtain ⟨c0, c1, c2, c3, c4, c5⟩ := hI.six
  have HI := Lib.hid hI
  clear hI
  go_wp2_with (first
    | (go_at_call 68; refine (when_any _ _ _).mono ?_; rintro e w' ⟨rfl, rfl⟩)
    | (go_at_call 62; refine (firstError2 (E1 := 0) (E2 := 15) (F := 15) rfl _ _ ?_ ?_).mono ?_; (focus (simp [go_sem])); (focus (simp [go_sem])); rintro e w' ⟨rfl, rfl⟩))
  go_ret
  refine ⟨rfl, ?_⟩
  have h1 := HI.out.b
  have h2 := h1.size
  go_grown
set_option maxRecDepth 100000 in
set_option maxHeartbeats 4000000 in
theorem cr_1_1 (n q s : Int) (A : Option Addr) (m c : Nat) (ns : List (Int × Int)) (w : World)  (hr : RdN w A m ns) (hm : m ≤ 1000000) :
    Calls Try.prog 17 #[.agg #[.int .i64 1, .int .i64 1, .int .i64 n, .int .i64 q, .int .i64 s, .slice A m c]] w fun e w' => e = .returned (.int .i64 (mpC n q s ns)) ∧ Below w.heap.size w w' := by
  have CX : Hid (∀ w', Below w.heap.size w w' → Calls Try.prog 70 #[.agg #[.int .i64 1, .int .i64 1, .int .i64 n, .int .i64 q, .int .i64 s, .slice A m c]] w' fun e w'' => e = .returned (.int .i64 (mpC n q s ns)) ∧ Below w'.heap.size w' w'') := fun w' hb => rcheckMap_all 1 1 n q s A m c ns w' (hr.below hb) hm
  obtain ⟨E, hE⟩ : ∃ E, mpC n q s ns = E := ⟨_, rfl⟩
  rw [hE] at CX ⊢
  clear hE
  have C1 := Lib.hid (fun w => itpOf_1 w)
  unfold itp1 at C1
  clear hr
  go_enter Try.func17, Try.ntmps17
  go_wp2_with fail
  refine (C1.out _).mono ?_
  rintro e w1 ⟨rfl, hb1⟩
  have hI := OneB.later hb1 (OneB.start w 26 #[.int .i64 1, .int .i64 1, .int .i64 n, .int .i64 q, .int .i64 s, .slice A m c])
  have hlt := hI.k.lt
  have hne : ¬ w.heap.size = w1.heap.size := by omega
  clear hb1
  obtain ⟨c0, c1, c2, c3, c4, c5⟩ := hI.six
  have HI := Lib.hid hI
  clear hI
  go_wp2_with (first
    | (go_at_call 68; refine (when_any _ _ _).mono ?_; rintro e w' ⟨rfl, rfl⟩)
    | (go_at_call 62; refine (firstError2 (E1 := 0) (E2 := 0) (F := 0) rfl _ _ ?_ ?_).mono ?_; (focus (simp [go_sem])); (focus (simp [go_sem])); rintro e w' ⟨rfl, rfl⟩))
  refine (CX.out _ (by have := HI.out.b; have := this.size; go_grown)).mono ?_
  rintro e w2 ⟨rfl, hb2⟩
  have BW : Hid (Below w.heap.size w w2) := by
    have h1 := HI.out.b
    have h2 := h1.size
    have h3 : Below w.heap.size w ((w1.alloc (.cells #[.int .i64 1, .int .i64 0, .int .i64 64, .func (.func 120) #[] #[], .int .i64 8192, .func (.func 121) #[] #[]] 112)).alloc (.cells #[.int .i64 0, .int .i64 0] 30)) := (h1.alloc h2 _).alloc (by simp; omega) _
    exact h3.trans (hb2.mono (by simp; omega))
  clear hb2
  go_wp2
  go_ret
  exact ⟨rfl, BW.out⟩
set_option maxRecDepth 100000 in
set_option maxHeartbeats 4000000 in
theorem cr_1_3 (n q s : Int) (A : Option Addr) (m c : Nat) (ns : List (Int × Int)) (w : World)  (hr : RdN w A m ns) (hm : m ≤ 1000000) :
    Calls Try.prog 17 #[.agg #[.int .i64 1, .int .i64 3, .int .i64 n, .int .i64 q, .int .i64 s, .slice A m c]] w fun e w' => e = .returned (.int .i64 (mpC n q s ns)) ∧ Below w.heap.size w w' := by
  have CX : Hid (∀ w', Below w.heap.size w w' → Calls Try.prog 70 #[.agg #[.int .i64 1, .int .i64 3, .int .i64 n, .int .i64 q, .int .i64 s, .slice A m c]] w' fun e w'' => e = .returned (.int .i64 (mpC n q s ns)) ∧ Below w'.heap.size w' w'') := fun w' hb => rcheckMap_all 1 3 n q s A m c ns w' (hr.below hb) hm
  obtain ⟨E, hE⟩ : ∃ E, mpC n q s ns = E := ⟨_, rfl⟩
  rw [hE] at CX ⊢
  clear hE
  have C1 := Lib.hid (fun w => itpOf_3 w)
  unfold itp3 at C1
  clear hr
  go_enter Try.func17, Try.ntmps17
  go_wp2_with fail
  refine (C1.out _).mono ?_
  rintro e w1 ⟨rfl, hb1⟩
  have hI := OneB.later hb1 (OneB.start w 26 #[.int .i64 1, .int .i64 3, .int .i64 n, .int .i64 q, .int .i64 s, .slice A m c])
  have hlt := hI.k.lt
  have hne : ¬ w.heap.size = w1.heap.size := by omega
  clear hb1
  obtain ⟨c0, c1, c2, c3, c4, c5⟩ := hI.six
  have HI := Lib.hid hI
  clear hI
  go_wp2_with (first
    | (go_at_call 68; refine (when_any _ _ _).mono ?_; rintro e w' ⟨rfl, rfl⟩)
    | (go_at_call 62; refine (firstError2 (E1 := 0) (E2 := 0) (F := 0) rfl _ _ ?_ ?_).mono ?_; (focus (simp [go_sem])); (focus (simp [go_sem])); rintro e w' ⟨rfl, rfl⟩))
  refine (CX.out _ (by have := HI.out.b; have := this.size; go_grown)).mono ?_
  rintro e w2 ⟨rfl, hb2⟩
  have BW : Hid (Below w.heap.size w w2) := by
    have h1 := HI.out.b
    have h2 := h1.size
    have h3 : Below w.heap.size w ((w1.alloc (.cells #[.int .i64 3, .int .i64 1, .int .i64 1572864, .func (.func 122) #[] #[], .int .i64 402653184, .func (.func 123) #[] #[]] 112)).alloc (.cells #[.int .i64 0, .int .i64 0] 30)) := (h1.alloc h2 _).alloc (by simp; omega) _
    exact h3.trans (hb2.mono (by simp; omega))
  clear hb2
  go_wp2
  go_ret
  exact ⟨rfl, BW.out⟩
set_option maxRecDepth 100000 in
set_option maxHeartbeats 4000000 in
theorem cr_1_no (d : Int) (n q s : Int) (A : Option Addr) (m c : Nat) (ns : List (Int × Int)) (w : World)  (h1 : d ≠ 1) (h3 : d ≠ 3) (hr : RdN w A m ns) (hm : m ≤ 1000000) :
    Calls Try.prog 17 #[.agg #[.int .i64 1, .int .i64 d, .int .i64 n, .int .i64 q, .int .i64 s, .slice A m c]] w fun e w' => e = .returned (.int .i64 (15)) ∧ Below w.heap.size w w' := by
  have C1 := Lib.hid (fun w => itpOf_no d w h1 h3)
  unfold itp0 at C1
  clear hr
  go_enter Try.func17, Try.ntmps17
  go_wp2_with fail
  refine (C1.out _).mono ?_
  rintro e w1 ⟨rfl, hb1⟩
  have hI := OneB.later hb1 (OneB.start w 26 #[.int .i64 1, .int .i64 d, .int .i64 n, .int .i64 q, .int .i64 s, .slice A m c])
  have hlt := hI.k.lt
  have hne : ¬ w.heap.size = w1.heap.size := by omega
  clear hb1
  obtain ⟨c0, c1, c2, c3, c4, c5⟩ := hI.six
  have HI := Lib.hid hI
  clear hI
  go_wp2_with (first
    | (go_at_call 68; refine (when_any _ _ _).mono ?_; rintro e w' ⟨rfl, rfl⟩)
    | (go_at_call 62; refine (firstError2 (E1 := 0) (E2 := 15) (F := 15) rfl _ _ ?_ ?_).mono ?_; (focus (simp [go_sem])); (focus (simp [go_sem])); rintro e w' ⟨rfl, rfl⟩))
  go_ret
  refine ⟨rfl, ?_⟩
  have h1 := HI.out.b
  have h2 := h1.size
  go_grown
theorem CheckRules_all (k d n q s : Int) (A : Option Addr) (m c : Nat) (ns : List (Int × Int)) (w : World) (hr : RdN w A m ns) (hm : m ≤ 1000000) :
    Calls Try.prog 17 #[.agg #[.int .i64 k, .int .i64 d, .int .i64 n, .int .i64 q, .int .i64 s, .slice A m c]] w fun e w' => e = .returned (.int .i64 (rulC k d n q s m ns)) ∧ Below w.heap.size w w' := by
  unfold rulC degE
  by_cases hk : k < 0 ∨ 2 ≤ k
  · rw [if_pos hk]
    by_cases h1 : d = 1
    · subst h1
      rcases hk with hk | hk
      · exact cr_neg_1 k n q s A m c ns w hk hr hm
      · exact cr_big_1 k n q s A m c ns w hk hr hm
    · by_cases h3 : d = 3
      · subst h3
        rcases hk with hk | hk
        · exact cr_neg_3 k n q s A m c ns w hk hr hm
        · exact cr_big_3 k n q s A m c ns w hk hr hm
      · rcases hk with hk | hk
        · exact cr_neg_no k d n q s A m c ns w hk h1 h3 hr hm
        · exact cr_big_no k d n q s A m c ns w hk h1 h3 hr hm
  · rw [if_neg hk]
    rcases (by omega : k = 0 ∨ k = 1) with rfl | rfl
    · by_cases h1 : d = 1
      · subst h1; exact cr_0_1 n q s A m c ns w hr hm
      · by_cases h3 : d = 3
        · subst h3; exact cr_0_3 n q s A m c ns w hr hm
        · rw [show (if d = 1 ∨ d = 3 then (0 : Int) else 15) = 15 from if_neg (by omega), if_neg (by decide)]
          exact cr_0_no d n q s A m c ns w h1 h3 hr hm
    · by_cases h1 : d = 1
      · subst h1; exact cr_1_1 n q s A m c ns w hr hm
      · by_cases h3 : d = 3
        · subst h3; exact cr_1_3 n q s A m c ns w hr hm
        · rw [show (if d = 1 ∨ d = 3 then (0 : Int) else 15) = 15 from if_neg (by omega), if_neg (by decide)]
          exact cr_1_no d n q s A m c ns w h1 h3 hr hm
set_option maxRecDepth 100000 in
set_option maxHeartbeats 4000000 in
theorem rre_K (k : Int) (d n q s : Int) (A : Option Addr) (m c : Nat) (ns : List (Int × Int)) (w : World) (hr : RdP w A m ns) (hm : m ≤ 1000000)
    (CK : ∀ W, Calls Try.prog 18 #[.int .i64 k, .int .i64 0, .int .i64 1] W fun e w' => e = .returned (.bool false) ∧ W = w')
    : Calls Try.prog 16 #[.agg #[.int .i64 k, .int .i64 d, .int .i64 n, .int .i64 q, .int .i64 s, .slice A m c]] w fun e w' => e = .returned (.int .i64 (15)) ∧ Below w.heap.size w w' := by
  have CK := Lib.hid CK
  have K0 := Lib.hid (Bk.new w 26 #[.int .i64 k, .int .i64 d, .int .i64 n, .int .i64 q, .int .i64 s, .slice A m c])
  have B0 := Lib.hid (below1 w (.cells #[.int .i64 k, .int .i64 d, .int .i64 n, .int .i64 q, .int .i64 s, .slice A m c] 26))
  have X0 := Lib.hid (hr.below (below1 w (.cells #[.int .i64 k, .int .i64 d, .int .i64 n, .int .i64 q, .int .i64 s, .slice A m c] 26)))
  clear hr
  obtain ⟨c0, c1, c2, c3, c4, c5⟩ := bk6 K0.out
  go_enter Try.func16, Try.ntmps16
  go_wp2_with fail
  refine (CK.out _).mono ?_
  rintro e w' ⟨rfl, rfl⟩
  go_wp2
  go_ret
  exact ⟨rfl, B0.out⟩
set_option maxRecDepth 100000 in
set_option maxHeartbeats 4000000 in
theorem rre_D (k : Int) (d n q s : Int) (A : Option Addr) (m c : Nat) (ns : List (Int × Int)) (w : World) (hr : RdP w A m ns) (hm : m ≤ 1000000) (hkk : k = 0 ∨ k = 1) (D : Int) (hD : ¬ D = 0)
    (CK : ∀ W, Calls Try.prog 18 #[.int .i64 k, .int .i64 0, .int .i64 1] W fun e w' => e = .returned (.bool true) ∧ W = w')
    (CD : ∀ W, Calls Try.prog 66 #[.int .i64 d] W fun e w' => e = .returned (.int .i64 D) ∧ W = w')
    : Calls Try.prog 16 #[.agg #[.int .i64 k, .int .i64 d, .int .i64 n, .int .i64 q, .int .i64 s, .slice A m c]] w fun e w' => e = .returned (.int .i64 (D)) ∧ Below w.heap.size w w' := by
  have CK := Lib.hid CK
  have CD := Lib.hid CD
  have dD := neT hD
  clear hD hkk
  have K0 := Lib.hid (Bk.new w 26 #[.int .i64 k, .int .i64 d, .int .i64 n, .int .i64 q, .int .i64 s, .slice A m c])
  have B0 := Lib.hid (below1 w (.cells #[.int .i64 k, .int .i64 d, .int .i64 n, .int .i64 q, .int .i64 s, .slice A m c] 26))
  have X0 := Lib.hid (hr.below (below1 w (.cells #[.int .i64 k, .int .i64 d, .int .i64 n, .int .i64 q, .int .i64 s, .slice A m c] 26)))
  clear hr
  obtain ⟨c0, c1, c2, c3, c4, c5⟩ := bk6 K0.out
  go_enter Try.func16, Try.ntmps16
  go_wp2_with fail
  refine (CK.out _).mono ?_
  rintro e w' ⟨rfl, rfl⟩
  go_wp2_with fail
  refine (CD.out _).mono ?_
  rintro e w' ⟨rfl, rfl⟩
  go_wp2
  go_ret
  exact ⟨rfl, B0.out⟩
set_option maxRecDepth 100000 in
set_option maxHeartbeats 4000000 in
theorem rre_rn (d n q s : Int) (A : Option Addr) (m c : Nat) (ns : List (Int × Int)) (w : World) (hr : RdP w A m ns) (hm : m ≤ 1000000)
    (CK : ∀ W, Calls Try.prog 18 #[.int .i64 0, .int .i64 0, .int .i64 1] W fun e w' => e = .returned (.bool true) ∧ W = w')
    (CD : ∀ W, Calls Try.prog 66 #[.int .i64 d] W fun e w' => e = .returned (.int .i64 0) ∧ W = w')
    (CN : ∀ W, Calls Try.prog 18 #[.int .i64 n, .int .i64 1, .int .i64 1000] W fun e w' => e = .returned (.bool false) ∧ W = w')
    : Calls Try.prog 16 #[.agg #[.int .i64 0, .int .i64 d, .int .i64 n, .int .i64 q, .int .i64 s, .slice A m c]] w fun e w' => e = .returned (.int .i64 (2)) ∧ Below w.heap.size w w' := by
  have CK := Lib.hid CK
  have CD := Lib.hid CD
  have CN := Lib.hid CN
  have K0 := Lib.hid (Bk.new w 26 #[.int .i64 0, .int .i64 d, .int .i64 n, .int .i64 q, .int .i64 s, .slice A m c])
  have B0 := Lib.hid (below1 w (.cells #[.int .i64 0, .int .i64 d, .int .i64 n, .int .i64 q, .int .i64 s, .slice A m c] 26))
  have X0 := Lib.hid (hr.below (below1 w (.cells #[.int .i64 0, .int .i64 d, .int .i64 n, .int .i64 q, .int .i64 s, .slice A m c] 26)))
  clear hr
  obtain ⟨c0, c1, c2, c3, c4, c5⟩ := bk6 K0.out
  go_enter Try.func16, Try.ntmps16
  go_wp2_with fail
  refine (CK.out _).mono ?_
  rintro e w' ⟨rfl, rfl⟩
  go_wp2_with fail
  refine (CD.out _).mono ?_
  rintro e w' ⟨rfl, rfl⟩
  go_wp2_with fail
  refine (CN.out _).mono ?_
  rintro e w' ⟨rfl, rfl⟩
  go_wp2
  go_ret
  exact ⟨rfl, B0.out⟩
set_option maxRecDepth 100000 in
set_option maxHeartbeats 4000000 in
theorem rre_rq (d n q s : Int) (A : Option Addr) (m c : Nat) (ns : List (Int × Int)) (w : World) (hr : RdP w A m ns) (hm : m ≤ 1000000)
    (CK : ∀ W, Calls Try.prog 18 #[.int .i64 0, .int .i64 0, .int .i64 1] W fun e w' => e = .returned (.bool true) ∧ W = w')
    (CD : ∀ W, Calls Try.prog 66 #[.int .i64 d] W fun e w' => e = .returned (.int .i64 0) ∧ W = w')
    (CN : ∀ W, Calls Try.prog 18 #[.int .i64 n, .int .i64 1, .int .i64 1000] W fun e w' => e = .returned (.bool true) ∧ W = w')
    (CQ : ∀ W, Calls Try.prog 18 #[.int .i64 q, .int .i64 1, .int .i64 1000] W fun e w' => e = .returned (.bool false) ∧ W = w')
    : Calls Try.prog 16 #[.agg #[.int .i64 0, .int .i64 d, .int .i64 n, .int .i64 q, .int .i64 s, .slice A m c]] w fun e w' => e = .returned (.int .i64 (2)) ∧ Below w.heap.size w w' := by
  have CK := Lib.hid CK
  have CD := Lib.hid CD
  have CN := Lib.hid CN
  have CQ := Lib.hid CQ
  have K0 := Lib.hid (Bk.new w 26 #[.int .i64 0, .int .i64 d, .int .i64 n, .int .i64 q, .int .i64 s, .slice A m c])
  have B0 := Lib.hid (below1 w (.cells #[.int .i64 0, .int .i64 d, .int .i64 n, .int .i64 q, .int .i64 s, .slice A m c] 26))
  have X0 := Lib.hid (hr.below (below1 w (.cells #[.int .i64 0, .int .i64 d, .int .i64 n, .int .i64 q, .int .i64 s, .slice A m c] 26)))
  clear hr
  obtain ⟨c0, c1, c2, c3, c4, c5⟩ := bk6 K0.out
  go_enter Try.func16, Try.ntmps16
  go_wp2_with fail
  refine (CK.out _).mono ?_
  rintro e w' ⟨rfl, rfl⟩
  go_wp2_with fail
  refine (CD.out _).mono ?_
  rintro e w' ⟨rfl, rfl⟩
  go_wp2_with fail
  refine (CN.out _).mono ?_
  rintro e w' ⟨rfl, rfl⟩
  go_wp2_with fail
  refine (CQ.out _).mono ?_
  rintro e w' ⟨rfl, rfl⟩
  go_wp2
  go_ret
  exact ⟨rfl, B0.out⟩
set_option maxRecDepth 100000 in
set_option maxHeartbeats 4000000 in
theorem rre_rs (d n q s : Int) (A : Option Addr) (m c : Nat) (ns : List (Int × Int)) (w : World) (hr : RdP w A m ns) (hm : m ≤ 1000000) (hs : ¬ s = 0)
    (CK : ∀ W, Calls Try.prog 18 #[.int .i64 0, .int .i64 0, .int .i64 1] W fun e w' => e = .returned (.bool true) ∧ W = w')
    (CD : ∀ W, Calls Try.prog 66 #[.int .i64 d] W fun e w' => e = .returned (.int .i64 0) ∧ W = w')
    (CN : ∀ W, Calls Try.prog 18 #[.int .i64 n, .int .i64 1, .int .i64 1000] W fun e w' => e = .returned (.bool true) ∧ W = w')
    (CQ : ∀ W, Calls Try.prog 18 #[.int .i64 q, .int .i64 1, .int .i64 1000] W fun e w' => e = .returned (.bool true) ∧ W = w')
    : Calls Try.prog 16 #[.agg #[.int .i64 0, .int .i64 d, .int .i64 n, .int .i64 q, .int .i64 s, .slice A m c]] w fun e w' => e = .returned (.int .i64 (3)) ∧ Below w.heap.size w w' := by
  have CK := Lib.hid CK
  have CD := Lib.hid CD
  have CN := Lib.hid CN
  have CQ := Lib.hid CQ
  have dS := neT hs
  clear hs
  have K0 := Lib.hid (Bk.new w 26 #[.int .i64 0, .int .i64 d, .int .i64 n, .int .i64 q, .int .i64 s, .slice A m c])
  have B0 := Lib.hid (below1 w (.cells #[.int .i64 0, .int .i64 d, .int .i64 n, .int .i64 q, .int .i64 s, .slice A m c] 26))
  have X0 := Lib.hid (hr.below (below1 w (.cells #[.int .i64 0, .int .i64 d, .int .i64 n, .int .i64 q, .int .i64 s, .slice A m c] 26)))
  clear hr
  obtain ⟨c0, c1, c2, c3, c4, c5⟩ := bk6 K0.out
  go_enter Try.func16, Try.ntmps16
  go_wp2_with fail
  refine (CK.out _).mono ?_
  rintro e w' ⟨rfl, rfl⟩
  go_wp2_with fail
  refine (CD.out _).mono ?_
  rintro e w' ⟨rfl, rfl⟩
  go_wp2_with fail
  refine (CN.out _).mono ?_
  rintro e w' ⟨rfl, rfl⟩
  go_wp2_with fail
  refine (CQ.out _).mono ?_
  rintro e w' ⟨rfl, rfl⟩
  go_wp2
  go_ret
  exact ⟨rfl, B0.out⟩
set_option maxRecDepth 100000 in
set_option maxHeartbeats 4000000 in
theorem rre_rm (d n q s : Int) (A : Option Addr) (m c : Nat) (ns : List (Int × Int)) (w : World) (hr : RdP w A m ns) (hm : m ≤ 1000000) (hm0 : 0 < m)
    (CK : ∀ W, Calls Try.prog 18 #[.int .i64 0, .int .i64 0, .int .i64 1] W fun e w' => e = .returned (.bool true) ∧ W = w')
    (CD : ∀ W, Calls Try.prog 66 #[.int .i64 d] W fun e w' => e = .returned (.int .i64 0) ∧ W = w')
    (CN : ∀ W, Calls Try.prog 18 #[.int .i64 n, .int .i64 1, .int .i64 1000] W fun e w' => e = .returned (.bool true) ∧ W = w')
    (CQ : ∀ W, Calls Try.prog 18 #[.int .i64 q, .int .i64 1, .int .i64 1000] W fun e w' => e = .returned (.bool true) ∧ W = w')
    : Calls Try.prog 16 #[.agg #[.int .i64 0, .int .i64 d, .int .i64 n, .int .i64 q, .int .i64 0, .slice A m c]] w fun e w' => e = .returned (.int .i64 (3)) ∧ Below w.heap.size w w' := by
  have CK := Lib.hid CK
  have CD := Lib.hid CD
  have CN := Lib.hid CN
  have CQ := Lib.hid CQ
  have dM : ((m : Int) != 0) = true := by rw [bne_iff_ne]; omega
  clear hm0
  have K0 := Lib.hid (Bk.new w 26 #[.int .i64 0, .int .i64 d, .int .i64 n, .int .i64 q, .int .i64 0, .slice A m c])
  have B0 := Lib.hid (below1 w (.cells #[.int .i64 0, .int .i64 d, .int .i64 n, .int .i64 q, .int .i64 0, .slice A m c] 26))
  have X0 := Lib.hid (hr.below (below1 w (.cells #[.int .i64 0, .int .i64 d, .int .i64 n, .int .i64 q, .int .i64 0, .slice A m c] 26)))
  clear hr
  obtain ⟨c0, c1, c2, c3, c4, c5⟩ := bk6 K0.out
  go_enter Try.func16, Try.ntmps16
  go_wp2_with fail
  refine (CK.out _).mono ?_
  rintro e w' ⟨rfl, rfl⟩
  go_wp2_with fail
  refine (CD.out _).mono ?_
  rintro e w' ⟨rfl, rfl⟩
  go_wp2_with fail
  refine (CN.out _).mono ?_
  rintro e w' ⟨rfl, rfl⟩
  go_wp2_with fail
  refine (CQ.out _).mono ?_
  rintro e w' ⟨rfl, rfl⟩
  go_wp2
  go_ret
  exact ⟨rfl, B0.out⟩
set_option maxRecDepth 100000 in
set_option maxHeartbeats 4000000 in
theorem rre_rok (d n q s : Int) (A : Option Addr) (m c : Nat) (ns : List (Int × Int)) (w : World) (hr : RdP w A m ns) (hm : m ≤ 1000000) (hm0 : m = 0)
    (CK : ∀ W, Calls Try.prog 18 #[.int .i64 0, .int .i64 0, .int .i64 1] W fun e w' => e = .returned (.bool true) ∧ W = w')
    (CD : ∀ W, Calls Try.prog 66 #[.int .i64 d] W fun e w' => e = .returned (.int .i64 0) ∧ W = w')
    (CN : ∀ W, Calls Try.prog 18 #[.int .i64 n, .int .i64 1, .int .i64 1000] W fun e w' => e = .returned (.bool true) ∧ W = w')
    (CQ : ∀ W, Calls Try.prog 18 #[.int .i64 q, .int .i64 1, .int .i64 1000] W fun e w' => e = .returned (.bool true) ∧ W = w')
    : Calls Try.prog 16 #[.agg #[.int .i64 0, .int .i64 d, .int .i64 n, .int .i64 q, .int .i64 0, .slice A m c]] w fun e w' => e = .returned (.int .i64 (0)) ∧ Below w.heap.size w w' := by
  have CK := Lib.hid CK
  have CD := Lib.hid CD
  have CN := Lib.hid CN
  have CQ := Lib.hid CQ
  subst hm0
  have K0 := Lib.hid (Bk.new w 26 #[.int .i64 0, .int .i64 d, .int .i64 n, .int .i64 q, .int .i64 0, .slice A 0 c])
  have B0 := Lib.hid (below1 w (.cells #[.int .i64 0, .int .i64 d, .int .i64 n, .int .i64 q, .int .i64 0, .slice A 0 c] 26))
  have X0 := Lib.hid (hr.below (below1 w (.cells #[.int .i64 0, .int .i64 d, .int .i64 n, .int .i64 q, .int .i64 0, .slice A 0 c] 26)))
  clear hr
  obtain ⟨c0, c1, c2, c3, c4, c5⟩ := bk6 K0.out
  go_enter Try.func16, Try.ntmps16
  go_wp2_with fail
  refine (CK.out _).mono ?_
  rintro e w' ⟨rfl, rfl⟩
  go_wp2_with fail
  refine (CD.out _).mono ?_
  rintro e w' ⟨rfl, rfl⟩
  go_wp2_with fail
  refine (CN.out _).mono ?_
  rintro e w' ⟨rfl, rfl⟩
  go_wp2_with fail
  refine (CQ.out _).mono ?_
  rintro e w' ⟨rfl, rfl⟩
  go_wp2
  go_ret
  exact ⟨rfl, B0.out⟩
set_option maxRecDepth 100000 in
set_option maxHeartbeats 4000000 in
theorem rre_mE (d n q s : Int) (A : Option Addr) (m c : Nat) (ns : List (Int × Int)) (w : World) (hr : RdP w A m ns) (hm : m ≤ 1000000) (M : Int) (hM : ¬ M = 0)
    (CK : ∀ W, Calls Try.prog 18 #[.int .i64 1, .int .i64 0, .int .i64 1] W fun e w' => e = .returned (.bool true) ∧ W = w')
    (CD : ∀ W, Calls Try.prog 66 #[.int .i64 d] W fun e w' => e = .returned (.int .i64 0) ∧ W = w')
    (CM : ∀ W, RdP W A m ns → Calls Try.prog 37 #[.agg #[.slice A m c]] W fun e w' => e = .returned (.int .i64 M) ∧ Below W.heap.size W w')
    : Calls Try.prog 16 #[.agg #[.int .i64 1, .int .i64 d, .int .i64 n, .int .i64 q, .int .i64 s, .slice A m c]] w fun e w' => e = .returned (.int .i64 (M)) ∧ Below w.heap.size w w' := by
  have CK := Lib.hid CK
  have CD := Lib.hid CD
  have CM := Lib.hid CM
  have dM := neT hM
  clear hM
  have K0 := Lib.hid (Bk.new w 26 #[.int .i64 1, .int .i64 d, .int .i64 n, .int .i64 q, .int .i64 s, .slice A m c])
  have B0 := Lib.hid (below1 w (.cells #[.int .i64 1, .int .i64 d, .int .i64 n, .int .i64 q, .int .i64 s, .slice A m c] 26))
  have X0 := Lib.hid (hr.below (below1 w (.cells #[.int .i64 1, .int .i64 d, .int .i64 n, .int .i64 q, .int .i64 s, .slice A m c] 26)))
  clear hr
  obtain ⟨c0, c1, c2, c3, c4, c5⟩ := bk6 K0.out
  go_enter Try.func16, Try.ntmps16
  go_wp2_with fail
  refine (CK.out _).mono ?_
  rintro e w' ⟨rfl, rfl⟩
  go_wp2_with fail
  refine (CD.out _).mono ?_
  rintro e w' ⟨rfl, rfl⟩
  clear c0 c1 c2 c3 c4
  go_wp2_with fail
  refine (CM.out _ X0.out).mono ?_
  rintro e w1 ⟨rfl, hb⟩
  have K1 := Lib.hid (K0.out.later hb)
  have B1 := Lib.hid (B0.out.trans (hb.mono B0.out.size))
  have X1 := Lib.hid (X0.out.below hb)
  clear K0 B0 X0 hb
  clear c5
  obtain ⟨c0, c1, c2, c3, c4, c5⟩ := bk6 K1.out
  go_wp2
  go_ret
  exact ⟨rfl, B1.out⟩
set_option maxRecDepth 100000 in
set_option maxHeartbeats 4000000 in
theorem rre_ms (d n q s : Int) (A : Option Addr) (m c : Nat) (ns : List (Int × Int)) (w : World) (hr : RdP w A m ns) (hm : m ≤ 1000000)
    (CK : ∀ W, Calls Try.prog 18 #[.int .i64 1, .int .i64 0, .int .i64 1] W fun e w' => e = .returned (.bool true) ∧ W = w')
    (CD : ∀ W, Calls Try.prog 66 #[.int .i64 d] W fun e w' => e = .returned (.int .i64 0) ∧ W = w')
    (CM : ∀ W, RdP W A m ns → Calls Try.prog 37 #[.agg #[.slice A m c]] W fun e w' => e = .returned (.int .i64 0) ∧ Below W.heap.size W w')
    (CS : ∀ W, Calls Try.prog 18 #[.int .i64 s, .int .i64 1, .int .i64 1000000000000] W fun e w' => e = .returned (.bool false) ∧ W = w')
    : Calls Try.prog 16 #[.agg #[.int .i64 1, .int .i64 d, .int .i64 n, .int .i64 q, .int .i64 s, .slice A m c]] w fun e w' => e = .returned (.int .i64 (2)) ∧ Below w.heap.size w w' := by
  have CK := Lib.hid CK
  have CD := Lib.hid CD
  have CM := Lib.hid CM
  have CS := Lib.hid CS
  have K0 := Lib.hid (Bk.new w 26 #[.int .i64 1, .int .i64 d, .int .i64 n, .int .i64 q, .int .i64 s, .slice A m c])
  have B0 := Lib.hid (below1 w (.cells #[.int .i64 1, .int .i64 d, .int .i64 n, .int .i64 q, .int .i64 s, .slice A m c] 26))
  have X0 := Lib.hid (hr.below (below1 w (.cells #[.int .i64 1, .int .i64 d, .int .i64 n, .int .i64 q, .int .i64 s, .slice A m c] 26)))
  clear hr
  obtain ⟨c0, c1, c2, c3, c4, c5⟩ := bk6 K0.out
  go_enter Try.func16, Try.ntmps16
  go_wp2_with fail
  refine (CK.out _).mono ?_
  rintro e w' ⟨rfl, rfl⟩
  go_wp2_with fail
  refine (CD.out _).mono ?_
  rintro e w' ⟨rfl, rfl⟩
  clear c0 c1 c2 c3 c4
  go_wp2_with fail
  refine (CM.out _ X0.out).mono ?_
  rintro e w1 ⟨rfl, hb⟩
  have K1 := Lib.hid (K0.out.later hb)
  have B1 := Lib.hid (B0.out.trans (hb.mono B0.out.size))
  have X1 := Lib.hid (X0.out.below hb)
  clear K0 B0 X0 hb
  clear c5
  obtain ⟨c0, c1, c2, c3, c4, c5⟩ := bk6 K1.out
  go_wp2_with fail
  refine (CS.out _).mono ?_
  rintro e w' ⟨rfl, rfl⟩
  go_wp2
  go_ret
  exact ⟨rfl, B1.out⟩
set_option maxRecDepth 100000 in
set_option maxHeartbeats 4000000 in
theorem rre_mn (d n q s : Int) (A : Option Addr) (m c : Nat) (ns : List (Int × Int)) (w : World) (hr : RdP w A m ns) (hm : m ≤ 1000000) (hn : ¬ n = 0)
    (CK : ∀ W, Calls Try.prog 18 #[.int .i64 1, .int .i64 0, .int .i64 1] W fun e w' => e = .returned (.bool true) ∧ W = w')
    (CD : ∀ W, Calls Try.prog 66 #[.int .i64 d] W fun e w' => e = .returned (.int .i64 0) ∧ W = w')
    (CM : ∀ W, RdP W A m ns → Calls Try.prog 37 #[.agg #[.slice A m c]] W fun e w' => e = .returned (.int .i64 0) ∧ Below W.heap.size W w')
    (CS : ∀ W, Calls Try.prog 18 #[.int .i64 s, .int .i64 1, .int .i64 1000000000000] W fun e w' => e = .returned (.bool true) ∧ W = w')
    : Calls Try.prog 16 #[.agg #[.int .i64 1, .int .i64 d, .int .i64 n, .int .i64 q, .int .i64 s, .slice A m c]] w fun e w' => e = .returned (.int .i64 (3)) ∧ Below w.heap.size w w' := by
  have CK := Lib.hid CK
  have CD := Lib.hid CD
  have CM := Lib.hid CM
  have CS := Lib.hid CS
  have dN := neT hn
  clear hn
  have K0 := Lib.hid (Bk.new w 26 #[.int .i64 1, .int .i64 d, .int .i64 n, .int .i64 q, .int .i64 s, .slice A m c])
  have B0 := Lib.hid (below1 w (.cells #[.int .i64 1, .int .i64 d, .int .i64 n, .int .i64 q, .int .i64 s, .slice A m c] 26))
  have X0 := Lib.hid (hr.below (below1 w (.cells #[.int .i64 1, .int .i64 d, .int .i64 n, .int .i64 q, .int .i64 s, .slice A m c] 26)))
  clear hr
  obtain ⟨c0, c1, c2, c3, c4, c5⟩ := bk6 K0.out
  go_enter Try.func16, Try.ntmps16
  go_wp2_with fail
  refine (CK.out _).mono ?_
  rintro e w' ⟨rfl, rfl⟩
  go_wp2_with fail
  refine (CD.out _).mono ?_
  rintro e w' ⟨rfl, rfl⟩
  clear c0 c1 c2 c3 c4
  go_wp2_with fail
  refine (CM.out _ X0.out).mono ?_
  rintro e w1 ⟨rfl, hb⟩
  have K1 := Lib.hid (K0.out.later hb)
  have B1 := Lib.hid (B0.out.trans (hb.mono B0.out.size))
  have X1 := Lib.hid (X0.out.below hb)
  clear K0 B0 X0 hb
  clear c5
  obtain ⟨c0, c1, c2, c3, c4, c5⟩ := bk6 K1.out
  go_wp2_with fail
  refine (CS.out _).mono ?_
  rintro e w' ⟨rfl, rfl⟩
  go_wp2
  go_ret
  exact ⟨rfl, B1.out⟩
set_option maxRecDepth 100000 in
set_option maxHeartbeats 4000000 in
theorem rre_mq (d n q s : Int) (A : Option Addr) (m c : Nat) (ns : List (Int × Int)) (w : World) (hr : RdP w A m ns) (hm : m ≤ 1000000) (hq : ¬ q = 0)
    (CK : ∀ W, Calls Try.prog 18 #[.int .i64 1, .int .i64 0, .int .i64 1] W fun e w' => e = .returned (.bool true) ∧ W = w')
    (CD : ∀ W, Calls Try.prog 66 #[.int .i64 d] W fun e w' => e = .returned (.int .i64 0) ∧ W = w')
    (CM : ∀ W, RdP W A m ns → Calls Try.prog 37 #[.agg #[.slice A m c]] W fun e w' => e = .returned (.int .i64 0) ∧ Below W.heap.size W w')
    (CS : ∀ W, Calls Try.prog 18 #[.int .i64 s, .int .i64 1, .int .i64 1000000000000] W fun e w' => e = .returned (.bool true) ∧ W = w')
    : Calls Try.prog 16 #[.agg #[.int .i64 1, .int .i64 d, .int .i64 0, .int .i64 q, .int .i64 s, .slice A m c]] w fun e w' => e = .returned (.int .i64 (3)) ∧ Below w.heap.size w w' := by
  have CK := Lib.hid CK
  have CD := Lib.hid CD
  have CM := Lib.hid CM
  have CS := Lib.hid CS
  have dQ := neT hq
  clear hq
  have K0 := Lib.hid (Bk.new w 26 #[.int .i64 1, .int .i64 d, .int .i64 0, .int .i64 q, .int .i64 s, .slice A m c])
  have B0 := Lib.hid (below1 w (.cells #[.int .i64 1, .int .i64 d, .int .i64 0, .int .i64 q, .int .i64 s, .slice A m c] 26))
  have X0 := Lib.hid (hr.below (below1 w (.cells #[.int .i64 1, .int .i64 d, .int .i64 0, .int .i64 q, .int .i64 s, .slice A m c] 26)))
  clear hr
  obtain ⟨c0, c1, c2, c3, c4, c5⟩ := bk6 K0.out
  go_enter Try.func16, Try.ntmps16
  go_wp2_with fail
  refine (CK.out _).mono ?_
  rintro e w' ⟨rfl, rfl⟩
  go_wp2_with fail
  refine (CD.out _).mono ?_
  rintro e w' ⟨rfl, rfl⟩
  clear c0 c1 c2 c3 c4
  go_wp2_with fail
  refine (CM.out _ X0.out).mono ?_
  rintro e w1 ⟨rfl, hb⟩
  have K1 := Lib.hid (K0.out.later hb)
  have B1 := Lib.hid (B0.out.trans (hb.mono B0.out.size))
  have X1 := Lib.hid (X0.out.below hb)
  clear K0 B0 X0 hb
  clear c5
  obtain ⟨c0, c1, c2, c3, c4, c5⟩ := bk6 K1.out
  go_wp2_with fail
  refine (CS.out _).mono ?_
  rintro e w' ⟨rfl, rfl⟩
  go_wp2
  go_ret
  exact ⟨rfl, B1.out⟩
set_option maxRecDepth 100000 in
set_option maxHeartbeats 4000000 in
theorem rre_mok (d n q s : Int) (A : Option Addr) (m c : Nat) (ns : List (Int × Int)) (w : World) (hr : RdP w A m ns) (hm : m ≤ 1000000)
    (CK : ∀ W, Calls Try.prog 18 #[.int .i64 1, .int .i64 0, .int .i64 1] W fun e w' => e = .returned (.bool true) ∧ W = w')
    (CD : ∀ W, Calls Try.prog 66 #[.int .i64 d] W fun e w' => e = .returned (.int .i64 0) ∧ W = w')
    (CM : ∀ W, RdP W A m ns → Calls Try.prog 37 #[.agg #[.slice A m c]] W fun e w' => e = .returned (.int .i64 0) ∧ Below W.heap.size W w')
    (CS : ∀ W, Calls Try.prog 18 #[.int .i64 s, .int .i64 1, .int .i64 1000000000000] W fun e w' => e = .returned (.bool true) ∧ W = w')
    : Calls Try.prog 16 #[.agg #[.int .i64 1, .int .i64 d, .int .i64 0, .int .i64 0, .int .i64 s, .slice A m c]] w fun e w' => e = .returned (.int .i64 (0)) ∧ Below w.heap.size w w' := by
  have CK := Lib.hid CK
  have CD := Lib.hid CD
  have CM := Lib.hid CM
  have CS := Lib.hid CS
  have K0 := Lib.hid (Bk.new w 26 #[.int .i64 1, .int .i64 d, .int .i64 0, .int .i64 0, .int .i64 s, .slice A m c])
  have B0 := Lib.hid (below1 w (.cells #[.int .i64 1, .int .i64 d, .int .i64 0, .int .i64 0, .int .i64 s, .slice A m c] 26))
  have X0 := Lib.hid (hr.below (below1 w (.cells #[.int .i64 1, .int .i64 d, .int .i64 0, .int .i64 0, .int .i64 s, .slice A m c] 26)))
  clear hr
  obtain ⟨c0, c1, c2, c3, c4, c5⟩ := bk6 K0.out
  go_enter Try.func16, Try.ntmps16
  go_wp2_with fail
  refine (CK.out _).mono ?_
  rintro e w' ⟨rfl, rfl⟩
  go_wp2_with fail
  refine (CD.out _).mono ?_
  rintro e w' ⟨rfl, rfl⟩
  clear c0 c1 c2 c3 c4
  go_wp2_with fail
  refine (CM.out _ X0.out).mono ?_
  rintro e w1 ⟨rfl, hb⟩
  have K1 := Lib.hid (K0.out.later hb)
  have B1 := Lib.hid (B0.out.trans (hb.mono B0.out.size))
  have X1 := Lib.hid (X0.out.below hb)
  clear K0 B0 X0 hb
  clear c5
  obtain ⟨c0, c1, c2, c3, c4, c5⟩ := bk6 K1.out
  go_wp2_with fail
  refine (CS.out _).mono ?_
  rintro e w' ⟨rfl, rfl⟩
  go_wp2
  go_ret
  exact ⟨rfl, B1.out⟩
theorem fromB_two (lo hi x y : Int) : fromB lo hi [x, y] = (fromB lo hi [x] && fromB lo hi [y]) := by simp [fromB]
theorem refRulesErr_any (k d n q s : Int) (A : Option Addr) (m c : Nat) (ns : List (Int × Int)) (w : World) (hr : RdP w A m ns) (hm : m ≤ 1000000) :
    Calls Try.prog 16 #[.agg #[.int .i64 k, .int .i64 d, .int .i64 n, .int .i64 q, .int .i64 s, .slice A m c]] w fun e w' => e = .returned (.int .i64 (rulC k d n q s m ns)) ∧ Below w.heap.size w w' := by
  have CK := fun W => within_any k 0 1 W
  have CD := fun W => refDegreeErr_any d W
  have CM := fun W (h : RdP W A m ns) => refMapErr_any A m c ns W h hm
  unfold rulC
  by_cases hk : k < 0 ∨ 2 ≤ k
  · rw [if_pos hk]
    rw [show fromB 0 1 [k] = false by rw [fromB_one]; exact decide_eq_false (by omega)] at CK
    exact rre_K k d n q s A m c ns w hr hm CK
  rw [if_neg hk]
  rw [show fromB 0 1 [k] = true by rw [fromB_one]; exact decide_eq_true (by omega)] at CK
  by_cases hD : degE d = 0
  rotate_left
  · rw [if_neg hD]
    exact rre_D k d n q s A m c ns w hr hm (by omega) _ hD CK CD
  rw [if_pos hD]
  rw [hD] at CD
  rcases (by omega : k = 0 ∨ k = 1) with rfl | rfl
  · rw [if_pos rfl]
    have CN := fun W => within_any n 1 1000 W
    have CQ := fun W => within_any q 1 1000 W
    unfold ratC rngE
    rw [fromB_two]
    cases hn : fromB 1 1000 [n] with
    | false =>
      rw [hn] at CN
      rw [if_neg (by simp)]
      exact rre_rn d n q s A m c ns w hr hm CK CD CN
    | true =>
      rw [hn] at CN
      cases hq : fromB 1 1000 [q] with
      | false =>
        rw [hq] at CQ
        rw [if_neg (by simp)]
        exact rre_rq d n q s A m c ns w hr hm CK CD CN CQ
      | true =>
        rw [hq] at CQ
        rw [if_pos (by simp)]
        by_cases hs : s = 0
        · subst hs
          by_cases hm0 : m = 0
          · rw [if_neg (by omega)]
            exact rre_rok d n q 0 A m c ns w hr hm hm0 CK CD CN CQ
          · rw [if_pos (by omega)]
            exact rre_rm d n q 0 A m c ns w hr hm (by omega) CK CD CN CQ
        · rw [if_pos (.inl hs)]
          exact rre_rs d n q s A m c ns w hr hm hs CK CD CN CQ
  · rw [if_neg (by omega)]
    have CS := fun W => within_any s 1 1000000000000 W
    unfold mpC rngE
    by_cases hM : (mapR ns).2 = 0
    rotate_left
    · rw [show firstNZ [(mapR ns).2, (if fromB 1 1000000000000 [s] = true then 0 else 2), if n ≠ 0 ∨ q ≠ 0 then 3 else 0] = (mapR ns).2 by simp [firstNZ, hM]]
      exact rre_mE d n q s A m c ns w hr hm _ hM CK CD CM
    rw [hM] at CM ⊢
    cases hs : fromB 1 1000000000000 [s] with
    | false =>
      rw [hs] at CS
      rw [if_neg (by simp)]
      exact rre_ms d n q s A m c ns w hr hm CK CD CM CS
    | true =>
      rw [hs] at CS
      rw [if_pos rfl]
      by_cases hn : n = 0
      · subst hn
        by_cases hq : q = 0
        · subst hq
          rw [if_neg (by simp)]
          exact rre_mok d 0 0 s A m c ns w hr hm CK CD CM CS
        · rw [if_pos (.inr hq)]
          exact rre_mq d 0 q s A m c ns w hr hm hq CK CD CM CS
      · rw [if_pos (.inl hn)]
        exact rre_mn d n q s A m c ns w hr hm hn CK CD CM CS

end Go.Proofs.Ytepcciodhppbnaa

