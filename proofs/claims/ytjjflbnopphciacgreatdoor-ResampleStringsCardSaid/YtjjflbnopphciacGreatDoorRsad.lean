import Derived.Test.YtjjflbnopphciacGreatDoorRsac
import Derived.Deep.OwnRows
import Derived.Test.YtjjflbnopphciacGreatDoorRsaa
import Derived.Deep.Slices
import Derived.Lib.Atoi
import Derived.Lib.ItoaNum
import Derived.Lib.ItoaMem
import Derived.Lib.SplitLaws
import Derived.Lib.Join
import Derived.Lib.JoinLaws
import Derived.Laws.IdiomStrings
import Derived.Lib.AtoiAll
import Derived.Lib.AtoiTie

namespace Go.Proofs.YtjjflbnopphciacGreatDoor
open Go.RowKit

/-- The slice '.slice A n c' reads as pairs. -/
def RdP (w : World) (A : Option Addr) (n : Nat) (ps : List (Int × Int)) : Prop :=
  ps.length = n ∧ (0 < n → ∃ ad, A = some ad ∧ ad.block < w.heap.size ∧ ∀ j, j < n → w.cell? (ad.add (j * 2)) = some (.int .i64 (ps.getD j (0, 0)).1) ∧ w.cell? ((ad.add (j * 2)).add 1) = some (.int .i64 (ps.getD j (0, 0)).2))
theorem RdP.below {w w' : World} {A : Option Addr} {n : Nat} {ps : List (Int × Int)} (h : RdP w A n ps) (hb : Below w.heap.size w w') : RdP w' A n ps := by
  refine ⟨h.1, fun hn => ?_⟩
  obtain ⟨ad, e, hlt, hc⟩ := h.2 hn
  exact ⟨ad, e, Nat.lt_of_lt_of_le hlt hb.size, fun j hj => ⟨(hb.cell (by rw [addBlock]; exact hlt)).trans (hc j hj).1, (hb.cell (by rw [addBlock, addBlock]; exact hlt)).trans (hc j hj).2⟩⟩

theorem refIsPos_any (n : Int) (w : World) : Calls Tryz.prog 97 #[.int .i64 n] w fun e w' => e = .returned (.bool (fromB 0 1000000 [n])) ∧ w = w' := by
  have CW := Lib.hid (fun w => within_any n 0 1000000 w)
  obtain ⟨b, hb⟩ : ∃ b, fromB 0 1000000 [n] = b := ⟨_, rfl⟩
  rw [hb] at CW ⊢
  clear hb
  go_enter Tryz.func97, Tryz.ntmps97
  go_wp2_with (go_at_call 44; refine (CW.out _).mono ?_; rintro e w' ⟨rfl, rfl⟩)
  go_ret
  exact ⟨rfl, rfl⟩
theorem refIsTick_any (n : Int) (w : World) : Calls Tryz.prog 98 #[.int .i64 n] w fun e w' => e = .returned (.bool (fromB 0 1000000000000 [n])) ∧ w = w' := by
  have CW := Lib.hid (fun w => within_any n 0 1000000000000 w)
  obtain ⟨b, hb⟩ : ∃ b, fromB 0 1000000000000 [n] = b := ⟨_, rfl⟩
  rw [hb] at CW ⊢
  clear hb
  go_enter Tryz.func98, Tryz.ntmps98
  go_wp2_with (go_at_call 44; refine (CW.out _).mono ?_; rintro e w' ⟨rfl, rfl⟩)
  go_ret
  exact ⟨rfl, rfl⟩
theorem nodeE_bad {b x : Int × Int} (h : fromB 0 1000000 [x.1] = false ∨ (fromB 0 1000000 [x.1] = true ∧ fromB 0 1000000000000 [x.2] = false)) : nodeE b x = 2 := by
  unfold nodeE rngE
  rcases h with h | ⟨h, h2⟩
  · rw [h]; simp [firstNZ]
  · rw [h, h2]; simp [firstNZ]
theorem nodeE_ord {b x : Int × Int} (h1 : fromB 0 1000000 [x.1] = true) (h2 : fromB 0 1000000000000 [x.2] = true) (h : x.1 ≤ b.1 ∨ x.2 ≤ b.2) : nodeE b x = 9 := by
  unfold nodeE rngE
  rw [h1, h2, if_pos h]; simp [firstNZ]
theorem nodeE_ok {b x : Int × Int} (h1 : fromB 0 1000000 [x.1] = true) (h2 : fromB 0 1000000000000 [x.2] = true) (h : ¬ (x.1 ≤ b.1 ∨ x.2 ≤ b.2)) : nodeE b x = 0 := by
  unfold nodeE rngE
  rw [h1, h2, if_neg h]; simp [firstNZ]
theorem OneB.drewN {w W : World} {g : Nat} {t : TypeId} {cs : Array Value} (h : OneB w g t cs W) (k : Nat) : OneB w g t cs (W.drewN k) := ⟨h.k.drewN k, belowDrewN h.b k⟩
/-- The node before the k-th one. -/
def befN (ns : List (Int × Int)) (k : Nat) : Int × Int := if k = 0 then (-1, -1) else ns.getD (k - 1) (0, 0)
set_option maxRecDepth 100000 in
set_option maxHeartbeats 4000000 in
theorem refCheckMap_any (A : Option Addr) (n c : Nat) (ns : List (Int × Int)) (w : World) (hr : RdP w A n ns) (hn : n ≤ 1000000) :
    Calls Tryz.prog 75 #[.agg #[.slice A n c]] w fun e w' => e = .returned (.tuple #[.int .i64 (mapR ns).1, .int .i64 (mapR ns).2]) ∧ Below w.heap.size w w' := by
  have R0 := Lib.hid (OneB.start w 24 #[.slice A n c])
  have c0 := R0.out.one
  have HR := Lib.hid hr
  have hl := hr.1
  clear hr
  have hM : mapR ns = if n < 2 then (0, 10) else if 20 < n then (0, 8) else mapGo (-1, -1) 0 ns := by unfold mapR; rw [hl]
  have HL := Lib.hid hl
  clear hl
  obtain ⟨⟨p1, p2⟩, hP⟩ : ∃ P, mapR ns = P := ⟨_, rfl⟩
  rw [hP] at hM ⊢
  clear hP
  by_cases h1 : n < 2
  · rw [if_pos h1] at hM
    obtain ⟨rfl, rfl⟩ := Prod.mk.inj hM
    have h1I : (n : Int) < 2 := by omega
    clear hM
    go_enter Tryz.func75, Tryz.ntmps75
    go_wp2
    go_ret2
    exact ⟨rfl, R0.out.b⟩
  rw [if_neg h1] at hM
  have h1I : ¬ (n : Int) < 2 := by omega
  by_cases h2 : 20 < n
  · rw [if_pos h2] at hM
    obtain ⟨rfl, rfl⟩ := Prod.mk.inj hM
    have h2I : (20 : Int) < n := by omega
    clear hM
    go_enter Tryz.func75, Tryz.ntmps75
    go_wp2
    go_ret2
    exact ⟨rfl, R0.out.b⟩
  rw [if_neg h2] at hM
  have h2I : ¬ (20 : Int) < n := by omega
  have HM := Lib.hid hM
  clear hM
  go_enter Tryz.func75, Tryz.ntmps75
  go_wp2
  clear c0
  go_loopw [4] (fun i wr => ∃ k : Nat, k ≤ n ∧ i = .int .i64 k ∧ Hid (OneB w w.heap.size 24 #[.slice A n c] wr) ∧ Hid ((p1, p2) = mapGo (befN ns k) k (ns.drop k))) (fun i _ => n - (intOf i).toNat)
  case atStart => exact ⟨0, Nat.zero_le _, rfl, R0, HM⟩
  case round =>
    obtain ⟨k, hk, rfl, RW, HG⟩ := hrel
    have c0 := RW.out.one
    by_cases hlt : k < n
    · have hkI : (k : Int) < (n : Int) := by omega
      have hRN := HR.out.below RW.out.b
      obtain ⟨ad, rfl, hgl, hcs⟩ := hRN.2 (by omega)
      obtain ⟨n1, n2⟩ := hcs k hlt
      have hs := mapGo_step (befN ns k) k ns (by have := HL.out; omega)
      have hbn : 0 < k → befN ns k = ns.getD (k - 1) (0, 0) := fun h => by unfold befN; rw [if_neg (by omega)]
      have hbz : k = 0 → befN ns k = (-1, -1) := fun h => by unfold befN; rw [if_pos h]
      have hbs : befN ns (k + 1) = ns.getD k (0, 0) := rfl
      have HS : Hid ((p1, p2) = if nodeE (befN ns k) (ns.getD k (0, 0)) = 0 then mapGo (befN ns (k + 1)) (k + 1) (ns.drop (k + 1)) else ((k : Int), nodeE (befN ns k) (ns.getD k (0, 0)))) := Lib.hid (by rw [HG.out, hs, hbs])
      clear hs hbs HG
      have W1 : Hid (OneB w w.heap.size 24 #[.slice (some ad) n c] (wr.alloc (.cells #[.int .i64 (ns.getD k (0, 0)).1, .int .i64 (ns.getD k (0, 0)).2] 99))) := Lib.hid (RW.out.alloc _)
      have hcp : 0 < k → (wr.alloc (.cells #[.int .i64 (ns.getD k (0, 0)).1, .int .i64 (ns.getD k (0, 0)).2] 99)).cell? (ad.add ((k - 1) * 2)) = some (.int .i64 (befN ns k).1) ∧ (wr.alloc (.cells #[.int .i64 (ns.getD k (0, 0)).1, .int .i64 (ns.getD k (0, 0)).2] 99)).cell? ((ad.add ((k - 1) * 2)).add 1) = some (.int .i64 (befN ns k).2) := fun h => by
        rw [hbn h]
        have := hcs (k - 1) (by omega)
        exact ⟨cellA _ this.1, cellA _ this.2⟩
      clear hcs hbn hRN
      obtain ⟨⟨b1, b2⟩, hbb⟩ : ∃ p, befN ns k = p := ⟨_, rfl⟩
      obtain ⟨⟨x, y⟩, hxy⟩ : ∃ p, ns.getD k (0, 0) = p := ⟨_, rfl⟩
      rw [hxy] at n1 n2 HS W1 hcp
      rw [hbb] at hbz HS hcp
      clear hxy hbb
      dsimp only at n1 n2 W1 hcp
      obtain ⟨ak, hak⟩ : ∃ a, ad.add (k * 2) = a := ⟨_, rfl⟩
      rw [hak] at n1 n2
      obtain ⟨ak1, hak1⟩ : ∃ a, ak.add 1 = a := ⟨_, rfl⟩
      rw [hak1] at n2
      have K1 : Hid (Bk (wr.alloc (.cells #[.int .i64 x, .int .i64 y] 99)) wr.heap.size 99 #[.int .i64 x, .int .i64 y]) := Lib.hid (Bk.new _ _ _)
      have C1 := Lib.hid (fun w => refIsPos_any x w)
      have C2 := Lib.hid (fun w => refIsTick_any y w)
      have HC := Lib.hid hcp
      have HBZ := Lib.hid hbz
      clear hcp hbz
      obtain ⟨t1, ht1⟩ : ∃ t, fromB 0 1000000 [x] = t := ⟨_, rfl⟩
      obtain ⟨t2, ht2⟩ : ∃ t, fromB 0 1000000000000 [y] = t := ⟨_, rfl⟩
      rw [ht1] at C1
      rw [ht2] at C2
      cases t1 with
      | false =>
        have h := HS.out
        rw [nodeE_bad (b := (b1, b2)) (x := (x, y)) (.inl ht1), if_neg (by decide)] at h
        obtain ⟨rfl, rfl⟩ := Prod.mk.inj h
        clear h ht1 ht2 HS C2
        go_wp2_with fail
        refine (C1.out _).mono ?_
        rintro e w' ⟨rfl, rfl⟩
        go_wp2
        go_ret2
        exact ⟨rfl, W1.out.b⟩
      | true =>
        cases t2 with
        | false =>
          have h := HS.out
          rw [nodeE_bad (b := (b1, b2)) (x := (x, y)) (.inr ⟨ht1, ht2⟩), if_neg (by decide)] at h
          obtain ⟨rfl, rfl⟩ := Prod.mk.inj h
          clear h ht1 ht2 HS
          go_wp2_with fail
          refine (C1.out _).mono ?_
          rintro e w' ⟨rfl, rfl⟩
          go_wp2_with fail
          refine (C2.out _).mono ?_
          rintro e w' ⟨rfl, rfl⟩
          go_wp2
          go_ret2
          exact ⟨rfl, W1.out.b⟩
        | true =>
          go_wp2_with fail
          refine (C1.out _).mono ?_
          rintro e w' ⟨rfl, rfl⟩
          go_wp2_with fail
          refine (C2.out _).mono ?_
          rintro e w' ⟨rfl, rfl⟩
          clear n1 n2 c0
          have c0 := W1.out.one
          obtain ⟨m1, m2, _, _⟩ := bk2 K1.out
          obtain ⟨W, hW⟩ : ∃ W, wr.alloc (.cells #[.int .i64 x, .int .i64 y] 99) = W := ⟨_, rfl⟩
          obtain ⟨gx, hgx⟩ : ∃ gx, wr.heap.size = gx := ⟨_, rfl⟩
          rw [hW] at c0 m1 m2 W1 HC K1 ⊢
          rw [hgx] at m1 m2 K1 ⊢
          clear hW hgx RW C1 C2 K1
          by_cases hk0 : k = 0
          · have hkz : ¬ (0 : Int) < (k : Int) := by omega
            have hd : decide ((0 : Int) < (k : Int)) = false := decide_eq_false hkz
            have hkN : ¬ 0 < k := by omega
            have hx : 0 ≤ x ∧ 0 ≤ y := by
              simp [fromB] at ht1 ht2; omega
            have hb := HBZ.out hk0
            have HS2 : Hid ((p1, p2) = mapGo (befN ns (k + 1)) (k + 1) (ns.drop (k + 1))) := by
              show _ = _
              rw [HS.out, nodeE_ok ht1 ht2 (by have h1 := congrArg Prod.fst hb; have h2 := congrArg Prod.snd hb; simp at h1 h2; simp; omega), if_pos rfl]
            clear HS HBZ HC hb ht1 ht2 hk0
            go_wp2
            go_quiet (fail)
            go_wp2
            go_roundw
            case rel => exact ⟨k + 1, by omega, by go_num, W1.out.drewN _, HS2⟩
            case measure => simp [intOf]; omega
          · have hkz : (0 : Int) < (k : Int) := by omega
            have hd : decide ((0 : Int) < (k : Int)) = true := decide_eq_true hkz
            have hkN : 0 < k := by omega
            obtain ⟨q1, q2⟩ := HC.out (by omega)
            obtain ⟨i, hi⟩ : ∃ i, k - 1 = i := ⟨_, rfl⟩
            rw [hi] at q1 q2
            obtain ⟨ai, hai⟩ : ∃ a, ad.add (i * 2) = a := ⟨_, rfl⟩
            rw [hai] at q1 q2
            obtain ⟨ai1, hai1⟩ : ∃ a, ai.add 1 = a := ⟨_, rfl⟩
            rw [hai1] at q2
            have w4 : IntKind.i64.wrap ((k : Int) - 1) = (i : Int) := by rw [show (k : Int) - 1 = (i : Int) by omega]; exact IntWalk.i64_in _ (by omega)
            have hiI : (i : Int) < (n : Int) := by omega
            have hiN : i < n := by omega
            clear hi HBZ HC hk0
            (try dsimp only at q1 q2)
            by_cases hx : x ≤ b1
            · have hdx : decide (x ≤ b1) = true := decide_eq_true hx
              have h := HS.out
              rw [nodeE_ord (b := (b1, b2)) (x := (x, y)) ht1 ht2 (.inl hx), if_neg (by decide)] at h
              obtain ⟨rfl, rfl⟩ := Prod.mk.inj h
              clear h ht1 ht2 HS
              go_wp2
              go_quiet (fail)
              go_wp2
              go_ret2
              exact ⟨rfl, (W1.out.drewN _).b⟩
            · have hdx : decide (x ≤ b1) = false := decide_eq_false hx
              by_cases hy : y ≤ b2
              · have hdy : decide (y ≤ b2) = true := decide_eq_true hy
                have h := HS.out
                rw [nodeE_ord (b := (b1, b2)) (x := (x, y)) ht1 ht2 (.inr hy), if_neg (by decide)] at h
                obtain ⟨rfl, rfl⟩ := Prod.mk.inj h
                clear h ht1 ht2 HS
                go_wp2
                go_quiet (fail)
                go_wp2
                go_ret2
                exact ⟨rfl, (W1.out.drewN _).b⟩
              · have hdy : decide (y ≤ b2) = false := decide_eq_false hy
                have HS2 : Hid ((p1, p2) = mapGo (befN ns (k + 1)) (k + 1) (ns.drop (k + 1))) := by
                  show _ = _
                  rw [HS.out, nodeE_ok ht1 ht2 (by simp; omega), if_pos rfl]
                clear ht1 ht2 HS
                go_wp2
                go_quiet (fail)
                go_wp2
                go_roundw
                case rel => exact ⟨k + 1, by omega, by go_num, W1.out.drewN _, HS2⟩
                case measure => simp [intOf]; omega
    · obtain rfl : n = k := by omega
      have hkI : ¬ (n : Int) < (n : Int) := by omega
      have h := HG.out
      rw [List.drop_eq_nil_of_le (by have := HL.out; omega)] at h
      obtain ⟨rfl, rfl⟩ := Prod.mk.inj h
      clear h
      go_wp2
      go_ret2
      exact ⟨rfl, RW.out.b⟩
theorem refMapErr_any (A : Option Addr) (n c : Nat) (ns : List (Int × Int)) (w : World) (hr : RdP w A n ns) (hn : n ≤ 1000000) :
    Calls Tryz.prog 46 #[.agg #[.slice A n c]] w fun e w' => e = .returned (.int .i64 (mapR ns).2) ∧ Below w.heap.size w w' := by
  have R0 := Lib.hid (OneB.start w 24 #[.slice A n c])
  have CM : Hid (∀ W, Below w.heap.size w W → Calls Tryz.prog 75 #[.agg #[.slice A n c]] W fun e w' => e = .returned (.tuple #[.int .i64 (mapR ns).1, .int .i64 (mapR ns).2]) ∧ Below W.heap.size W w') := Lib.hid (fun W hb => refCheckMap_any A n c ns W (hr.below hb) hn)
  have c0 := R0.out.one
  obtain ⟨⟨p1, p2⟩, hP⟩ : ∃ P, mapR ns = P := ⟨_, rfl⟩
  rw [hP] at CM ⊢
  clear hP hr
  go_enter Tryz.func46, Tryz.ntmps46
  go_wp2_with fail
  refine (CM.out _ R0.out.b).mono ?_
  rintro e w1 ⟨rfl, hb⟩
  have R1 := Lib.hid (OneB.later hb R0.out)
  clear hb R0 c0
  go_wp2
  go_ret
  exact ⟨rfl, R1.out.b⟩

end Go.Proofs.YtjjflbnopphciacGreatDoor

namespace Go.Proofs.YtjjflbnopphciacGreatDoor.op
open Go.ChangeShapes Go.WideShapes Go.ChangeAt Go.RowKit

theorem cellsNod : Tryz.prog.cellsOf 99 = 2 := by kernel_rfl
theorem cellsMap : Tryz.prog.cellsOf 24 = 1 := by kernel_rfl
theorem cellsNods : Tryz.prog.cellsOf 22 = 1 := by kernel_rfl
theorem addZ (a : Addr) : a.add 0 = a := rfl
section
variable {H : Type} {enc : TypeId × Value → H} {w : World} {base : Nat} {spare : Nat → Bool} {held : Bool} {fuel : Nat} {cs : List Value} {x : DataW H × List MemPlace}
theorem nod_cells (h : DataW.trod enc Tryz.prog w base spare held fuel 99 cs = some x) : ∃ a b, cs = [.int .i64 a, .int .i64 b] := by
  obtain ⟨y0, y1, n, rfl, hl, h0, h1⟩ := trod_struct2 Tryz.underlying99 h
  rw [cellsNod] at hl
  dsimp only at h0 h1
  rw [cellsInt1] at h0 h1
  obtain ⟨n0, e0, _, _⟩ := DataW.trod_int Tryz.underlying3 h0
  obtain ⟨n1, e1, _, _⟩ := DataW.trod_int Tryz.underlying3 h1
  match cs, hl with
  | [c0, c1], _ =>
    simp at e0 e1
    exact ⟨n0, n1, by rw [e0, e1]⟩
/-- Nodes of a field as they come in. -/
theorem open_nodf {v : Value} (hf : DataW.trod enc Tryz.prog w base spare held fuel 22 [v] = some x) : ∃ A n c ps, v = .slice A n c ∧ RdP w A n ps ∧ n ≤ c ∧ c ≤ 9223372036854775807 ∧ (A = none → n = 0 ∧ c = 0) := by
  rcases Deep.open_slice Tryz.underlying22 hf with ⟨hcs, _⟩ | ⟨a, len, cap, m, k, D, Pl, hcs, _, hl, hm, hz, _, hx⟩
  · injection hcs with hcs
    exact ⟨none, 0, 0, [], hcs, ⟨rfl, fun h => absurd h (by omega)⟩, by omega, by omega, fun _ => ⟨rfl, rfl⟩⟩
  · injection hcs with hcs
    have hlen : len ≤ m := by rw [hz]; split <;> omega
    obtain ⟨f, hf⟩ := Deep.choose_lt (α := Int × Int) (n := len) (p := fun i q => w.cell? (a.add (i * 2)) = some (.int .i64 q.1) ∧ w.cell? ((a.add (i * 2)).add 1) = some (.int .i64 q.2)) (fun i hi => by
      obtain ⟨cs, h1, h2⟩ := hx i (by omega)
      obtain ⟨y, z, rfl⟩ := nod_cells h2
      rw [cellsNod] at h1
      obtain ⟨_, _, h3⟩ := World.cells?_some h1
      have h4 := h3 0 (by omega)
      rw [addZ] at h4
      exact ⟨(y, z), h4, h3 1 (by omega)⟩)
    refine ⟨some a, len, cap, (List.range len).map f, hcs, ⟨by simp, fun hn => ⟨a, rfl, ?_, fun j hj => ?_⟩⟩, hl, by unfold maxLen at hm; omega, fun h => by cases h⟩
    · have := lt_of_cell (hf 0 (by omega)).1
      rwa [addBlock] at this
    · have e : ((List.range len).map f).getD j (0, 0) = f j := by simp [List.getD_eq_getElem?_getD, hj]
      rw [e]
      exact hf j hj
theorem open_mapf {v : Value} (hf : DataW.trod enc Tryz.prog w base spare held fuel 24 [v] = some x) : ∃ A n c ps, v = .slice A n c ∧ RdP w A n ps ∧ n ≤ c ∧ c ≤ 9223372036854775807 ∧ (A = none → n = 0 ∧ c = 0) := by
  obtain ⟨xs, n, _, _, hl, hxl, hg⟩ := DataW.trod_struct Tryz.underlying24 hf
  match xs, hxl with
  | [y0], _ =>
    have g0 := hg 0 _ rfl
    simp [cellsNods] at g0
    exact open_nodf g0
end
set_option maxRecDepth 100000 in
/-- Rules as they come in. -/
theorem open_rules {H : Type} {enc : TypeId × Value → H} {w : World} {base : Nat} {spare : Nat → Bool} {held : Bool} {r : Reach} {b0 : Nat} {v : Value} {d : DataW H} {p : List MemPlace}
    (hv : Value.okWide Tryz.prog w r b0 26 v) (h : DataW.Trod enc Tryz.prog w base spare held 26 v d p) :
    ∃ (k dd n q s : Int) (A : Option Addr) (m c : Nat) (ps : List (Int × Int)), v = .agg #[.int .i64 k, .int .i64 dd, .int .i64 n, .int .i64 q, .int .i64 s, .slice A m c] ∧ RdP w A m ps ∧ m ≤ c ∧ c ≤ 9223372036854775807 ∧ (A = none → m = 0 ∧ c = 0) := by
  obtain ⟨cs, rfl, hsz⟩ := okWide_struct Tryz.underlying26 hv
  obtain ⟨fuel, hf⟩ := h
  obtain ⟨xs, n, _, _, hl, hxl, hg⟩ := DataW.trod_struct Tryz.underlying26 hf
  have h6 : Tryz.prog.cellsOf 26 = 6 := by kernel_rfl
  obtain ⟨l⟩ := cs
  have hl6 : l.length = 6 := by rw [← h6]; simpa using hsz
  match l, hl6, xs, hxl with
  | [c0, c1, c2, c3, c4, c5], _, [y0, y1, y2, y3, y4, y5], _ =>
    have g0 := hg 0 _ rfl
    have g1 := hg 1 _ rfl
    have g2 := hg 2 _ rfl
    have g3 := hg 3 _ rfl
    have g4 := hg 4 _ rfl
    have g5 := hg 5 _ rfl
    simp [Value.cells, cellsI, cellsMap] at g0 g1 g2 g3 g4 g5
    obtain ⟨z0, e0, _, _⟩ := DataW.trod_int Tryz.underlying3 g0
    obtain ⟨z1, e1, _, _⟩ := DataW.trod_int Tryz.underlying3 g1
    obtain ⟨z2, e2, _, _⟩ := DataW.trod_int Tryz.underlying3 g2
    obtain ⟨z3, e3, _, _⟩ := DataW.trod_int Tryz.underlying3 g3
    obtain ⟨z4, e4, _, _⟩ := DataW.trod_int Tryz.underlying3 g4
    obtain ⟨A, n', c, ps, e5, hr, h3, h4, h5⟩ := open_mapf g5
    simp at e0 e1 e2 e3 e4
    exact ⟨z0, z1, z2, z3, z4, A, n', c, ps, by rw [e0, e1, e2, e3, e4, e5], hr, h3, h4, h5⟩
end Go.Proofs.YtjjflbnopphciacGreatDoor.op

namespace Go.Proofs.YtjjflbnopphciacGreatDoor
open Go.Lib

/-! Numbers as texts: mathematics alone. -/

theorem decFrom_bad (l : List UInt8) : ∀ (k acc n : Nat) (b : UInt8), decFrom acc (l.take k) = some n → l[k]? = some b → digitVal b = none → decFrom acc l = none := by
  induction l with
  | nil => intro k acc n b _ hb _; simp at hb
  | cons x t ih =>
    intro k acc n b h hb hd
    cases k with
    | zero =>
      simp at hb; subst hb
      simp [decFrom, hd]
    | succ k =>
      simp only [List.take_succ_cons, decFrom] at h ⊢
      cases hx : digitVal x with
      | none => rfl
      | some d =>
        rw [hx] at h
        exact ih k _ n b h (by simpa using hb) hd

theorem decFrom_append (a b : List UInt8) : ∀ acc, decFrom acc (a ++ b) = (decFrom acc a).bind fun m => decFrom m b := by
  induction a with
  | nil => intro acc; rfl
  | cons x t ih =>
    intro acc
    simp only [List.cons_append, decFrom]
    cases digitVal x with
    | none => rfl
    | some d => exact ih _

theorem digitVal_of (d : Nat) (h : d < 10) : digitVal (UInt8.ofNat (48 + d)) = some d := by
  have : (UInt8.ofNat (48 + d)).toNat = 48 + d := by simp [UInt8.toNat_ofNat']; omega
  unfold digitVal
  rw [this, if_pos (by omega)]
  congr 1; omega

theorem decFrom_digits (u : Nat) : decFrom 0 (decDigits u) = some u := by
  induction u using Nat.strongRecOn with
  | ind u ih =>
    rw [decDigits]
    by_cases h : u < 10
    · rw [dif_pos h]
      simp only [decFrom, digitVal_of u h, Nat.zero_mul, Nat.zero_add]
    · rw [dif_neg h, decFrom_append, ih (u / 10) (by omega)]
      simp only [Option.bind_some, decFrom, digitVal_of (u % 10) (Nat.mod_lt _ (by omega))]
      congr 1; omega

theorem decDigits_ne (u : Nat) : decDigits u ≠ [] := by
  rw [decDigits]; split <;> simp

theorem decDigits_head (u : Nat) (h : 0 < u) : (decDigits u).head? ≠ some 48 := by
  induction u using Nat.strongRecOn with
  | ind u ih =>
    rw [decDigits]
    by_cases h10 : u < 10
    · rw [dif_pos h10]
      simp only [List.head?_cons, ne_eq, Option.some.injEq]
      intro e
      have := congrArg UInt8.toNat e
      simp [UInt8.toNat_ofNat'] at this
      omega
    · rw [dif_neg h10]
      have h1 := ih (u / 10) (by omega) (by omega)
      have hne := decDigits_ne (u / 10)
      cases hd : decDigits (u / 10) with
      | nil => exact absurd hd hne
      | cons x t => rw [hd] at h1; simpa using h1

theorem decDigits_all (u : Nat) : ∀ b ∈ decDigits u, 48 ≤ b.toNat ∧ b.toNat ≤ 57 := by
  induction u using Nat.strongRecOn with
  | ind u ih =>
    rw [decDigits]
    have one : ∀ d, d < 10 → 48 ≤ (UInt8.ofNat (48 + d)).toNat ∧ (UInt8.ofNat (48 + d)).toNat ≤ 57 := by
      intro d hd
      have : (UInt8.ofNat (48 + d)).toNat = 48 + d := by simp [UInt8.toNat_ofNat']; omega
      omega
    by_cases h : u < 10
    · rw [dif_pos h]
      intro b hb
      rw [List.mem_singleton] at hb
      rw [hb]
      exact one u h
    · rw [dif_neg h]
      intro b hb
      rcases List.mem_append.1 hb with hb | hb
      · exact ih (u / 10) (by omega) b hb
      · rw [List.mem_singleton] at hb
        rw [hb]
        exact one _ (Nat.mod_lt _ (by omega))

theorem itoa_all (n : Int) : ∀ b ∈ itoa n, b.toNat = 45 ∨ 48 ≤ b.toNat ∧ b.toNat ≤ 57 := by
  intro b hb
  unfold itoa at hb
  split at hb
  · rcases List.mem_cons.1 hb with e | e
    · exact .inl (by rw [e]; rfl)
    · exact .inr (decDigits_all _ b e)
  · exact .inr (decDigits_all _ b hb)
theorem itoa_ne (n : Int) : itoa n ≠ [] := by
  unfold itoa; split
  · simp
  · exact decDigits_ne _

/-- Digits without a zero ahead, of at most d. -/
def digs (r : List UInt8) (d : Nat) (zeroOk : Bool) : Option Nat :=
  if r = [] ∨ d < r.length ∨ (r.head? = some 48 ∧ zeroOk = false) then none else decFrom 0 r
/-- What the base's Number reads: a number of at most d digits. -/
def numS (l : List UInt8) (d : Nat) : Option Int :=
  if l.head? = some 45 then (digs l.tail d false).map fun (n : Nat) => -(n : Int) else (digs l d (decide (l.length ≤ 1))).map fun (n : Nat) => (n : Int)
/-- What numberOf reads: a number of at most six digits, none ahead of it. -/
def numN (l : List UInt8) : Option Nat := digs l 6 (decide (l.length ≤ 1))
/-- What signedNumberOf reads. -/
def numG (l : List UInt8) : Option Int :=
  if l.head? = some 45 then (match numN l.tail with | some n => if n = 0 then none else some (-(n : Int)) | none => none) else (numN l).map fun (n : Nat) => (n : Int)

theorem decFrom_ge : ∀ (l : List UInt8) (acc n : Nat), decFrom acc l = some n → acc ≤ n := by
  intro l
  induction l with
  | nil => intro acc n h; simp [decFrom] at h; omega
  | cons b t ih =>
    intro acc n h
    simp only [decFrom] at h
    cases hd : digitVal b with
    | none => rw [hd] at h; cases h
    | some d => rw [hd] at h; have := ih _ _ h; omega
theorem decFrom_pos {l : List UInt8} {n : Nat} (h : decFrom 0 l = some n) (h0 : l.head? ≠ some 48) (hne : l ≠ []) : 0 < n := by
  cases l with
  | nil => exact absurd rfl hne
  | cons b t =>
    simp only [decFrom] at h
    cases hd : digitVal b with
    | none => rw [hd] at h; cases h
    | some d =>
      rw [hd] at h
      have hg := decFrom_ge _ _ _ h
      obtain ⟨h1, h2, h3⟩ := digitVal_eq hd
      have : b.toNat ≠ 48 := by
        intro e
        apply h0
        simp only [List.head?_cons, Option.some.injEq]
        exact UInt8.toNat_inj.1 e
      omega

theorem numG_eq (l : List UInt8) : numG l = numS l 6 := by
  unfold numG numS numN
  by_cases h : l.head? = some 45
  · rw [if_pos h, if_pos h]
    generalize l.tail = r
    unfold digs
    by_cases h1 : r = [] ∨ 6 < r.length ∨ (r.head? = some 48 ∧ decide (r.length ≤ 1) = false)
    · rw [if_pos h1]
      rw [if_pos (by rcases h1 with a | a | a; exact .inl a; exact .inr (.inl a); exact .inr (.inr ⟨a.1, rfl⟩))]
      rfl
    · rw [if_neg h1]
      by_cases h2 : r.head? = some 48
      · rw [if_pos (.inr (.inr ⟨h2, rfl⟩))]
        have hne : r ≠ [] := fun e => h1 (.inl e)
        have hl1 : r.length ≤ 1 := by
          by_cases e : r.length ≤ 1
          · exact e
          · exact absurd (.inr (.inr ⟨h2, by simpa using e⟩)) h1
        match r, hne, hl1, h2 with
        | [b], _, _, h2 =>
          simp at h2; subst h2
          rfl
        | _ :: _ :: _, _, hl1, _ => simp at hl1
      · have hne : r ≠ [] := fun e => h1 (.inl e)
        rw [if_neg (by rintro (a | a | a); exact hne a; exact h1 (.inr (.inl a)); exact h2 a.1)]
        cases hd : decFrom 0 r with
        | none => rfl
        | some n =>
          have := decFrom_pos hd h2 hne
          simp [show n ≠ 0 by omega]
  · rw [if_neg h, if_neg h]

theorem numN_of_numS {l : List UInt8} {k : Int} (h : numS l 6 = some k) (hk : 0 ≤ k) : numN l = some k.toNat := by
  rw [← numG_eq] at h
  unfold numG at h
  by_cases hd : l.head? = some 45
  · rw [if_pos hd] at h
    cases hn : numN l.tail with
    | none => rw [hn] at h; cases h
    | some n =>
      rw [hn] at h
      by_cases e : n = 0
      · simp [e] at h
      · simp [e] at h; omega
  · rw [if_neg hd] at h
    cases hn : numN l with
    | none => rw [hn] at h; cases h
    | some n => rw [hn] at h; simp at h; subst h; simp
theorem numN_minus {l : List UInt8} (h : l.head? = some 45) : numN l = none := by
  unfold numN digs
  split
  · rfl
  · cases l with
    | nil => simp at h
    | cons b t =>
      simp at h; subst h
      rfl
theorem numN_none {l : List UInt8} (h : ∀ k, numS l 6 = some k → k < 0) : numN l = none := by
  by_cases hd : l.head? = some 45
  · exact numN_minus hd
  · cases hn : numN l with
    | none => rfl
    | some n =>
      have : numS l 6 = some (n : Int) := by
        rw [← numG_eq]; unfold numG; rw [if_neg hd, hn]; rfl
      have := h _ this
      omega
theorem digs_bd {r : List UInt8} {d : Nat} {z : Bool} {n : Nat} (h : digs r d z = some n) : n < 10 ^ d := by
  unfold digs at h
  split at h
  · cases h
  · rename_i h1
    have h2 := decFrom_lt r 0 n h
    have h3 : r.length ≤ d := by
      by_cases e : d < r.length
      · exact absurd (.inr (.inl e)) h1
      · omega
    exact Nat.lt_of_lt_of_le h2 (by simpa using Nat.pow_le_pow_right (by omega) h3)
theorem numS_bd {l : List UInt8} {d : Nat} {k : Int} (h : numS l d = some k) : -(10 ^ d : Nat) < k ∧ k < (10 ^ d : Nat) := by
  unfold numS at h
  split at h
  · cases hn : digs l.tail d false with
    | none => rw [hn] at h; cases h
    | some n =>
      rw [hn] at h; simp at h
      have := digs_bd hn
      omega
  · cases hn : digs l d (decide (l.length ≤ 1)) with
    | none => rw [hn] at h; cases h
    | some n =>
      rw [hn] at h; simp at h
      have := digs_bd hn
      omega

theorem nDigits_le_of (u d : Nat) (h : u < 10 ^ d) (hd : 1 ≤ d) : nDigits u ≤ d := by
  induction d generalizing u with
  | zero => omega
  | succ d ih =>
    by_cases h10 : u < 10
    · rw [nDigits_small h10]; omega
    · rw [nDigits_big h10]
      by_cases hd0 : d = 0
      · subst hd0; omega
      · have := ih (u / 10) (by rw [Nat.pow_succ] at h; omega) (by omega)
        omega

theorem digs_digits (u d : Nat) (h : u < 10 ^ d) (hd : 1 ≤ d) : digs (decDigits u) d (decide ((decDigits u).length ≤ 1)) = some u := by
  unfold digs
  rw [if_neg, decFrom_digits]
  rintro (a | a | ⟨a, b⟩)
  · exact decDigits_ne u a
  · rw [decDigits_length] at a
    have := nDigits_le_of u d h hd
    omega
  · by_cases h0 : u = 0
    · subst h0
      rw [decDigits, dif_pos (by omega)] at b
      simp at b
    · exact decDigits_head u (by omega) a

end Go.Proofs.YtjjflbnopphciacGreatDoor

namespace Go.Proofs.YtjjflbnopphciacGreatDoor
open Go.Lib

/-- A text cut at every byte c. -/
def pcs (c : UInt8) : List UInt8 → List (List UInt8)
  | [] => [[]]
  | b :: t => if b = c then [] :: pcs c t else match pcs c t with
    | p :: ps => (b :: p) :: ps
    | [] => [[b]]
theorem pcs_ne (c : UInt8) (l : List UInt8) : pcs c l ≠ [] := by
  cases l with
  | nil => simp [pcs]
  | cons b t =>
    unfold pcs
    split
    · simp
    · split <;> simp
theorem pcs_hit (c : UInt8) (l : List UInt8) : ∀ n, l[n]? = some c → (∀ q : Nat, q < n → l[q]? ≠ some c) → pcs c l = l.take n :: pcs c (l.drop (n + 1)) := by
  induction l with
  | nil => intro n h; simp at h
  | cons b t ih =>
    intro n h hno
    cases n with
    | zero =>
      simp at h; subst h
      simp [pcs]
    | succ n =>
      have hb : b ≠ c := fun e => hno 0 (by omega) (by simp [e])
      have := ih n (by simpa using h) (fun q hq => by have := hno (q + 1) (by omega); simpa using this)
      simp only [pcs, if_neg hb, List.take_succ_cons, List.drop_succ_cons]
      rw [this]
theorem pcs_miss (c : UInt8) (l : List UInt8) (h : ∀ q : Nat, l[q]? ≠ some c) : pcs c l = [l] := by
  induction l with
  | nil => rfl
  | cons b t ih =>
    have hb : b ≠ c := fun e => h 0 (by simp [e])
    have := ih (fun q => by have := h (q + 1); simpa using this)
    simp only [pcs, if_neg hb, this]
theorem pcs_app (c : UInt8) (x t : List UInt8) (h : ∀ b ∈ x, b ≠ c) : pcs c (x ++ c :: t) = x :: pcs c t := by
  induction x with
  | nil => simp [pcs]
  | cons b r ih =>
    have hb : b ≠ c := h b (by simp)
    have := ih (fun y hy => h y (by simp [hy]))
    simp only [List.cons_append, pcs, if_neg hb, this]
theorem pcs_join (c : UInt8) (xs : List (List UInt8)) (hne : xs ≠ []) (h : ∀ x ∈ xs, ∀ b ∈ x, b ≠ c) : pcs c (join xs [c]) = xs := by
  induction xs with
  | nil => exact absurd rfl hne
  | cons x r ih =>
    rw [join_cons]
    cases r with
    | nil =>
      simp only [joinTail, List.map_nil, List.flatten_nil, List.append_nil]
      refine pcs_miss c x fun q e => ?_
      have := List.mem_of_getElem? e
      exact h x (by simp) c this rfl
    | cons y s =>
      have e : joinTail [c] (y :: s) = c :: join (y :: s) [c] := by
        rw [join_cons]
        simp [joinTail]
      rw [e, pcs_app c x _ (h x (by simp)), ih (by simp) (fun z hz => h z (by simp [hz]))]

/-- What the library's index of one byte says. -/
theorem idx_one (l : List UInt8) (c : UInt8) : (index l [c] = -1 ∧ ∀ q : Nat, l[q]? ≠ some c) ∨ (∃ i : Nat, index l [c] = i ∧ l[i]? = some c ∧ ∀ q : Nat, q < i → l[q]? ≠ some c) := by
  induction l with
  | nil => exact .inl ⟨rfl, fun q => by simp⟩
  | cons b t ih =>
    by_cases hb : b = c
    · subst hb
      refine .inr ⟨0, ?_, by simp, fun q hq => by omega⟩
      simp [index, List.isPrefixOf]
    · have hp : [c].isPrefixOf (b :: t) = false := by simp [List.isPrefixOf]; exact fun e => hb e.symm
      have hi : index (b :: t) [c] = if index t [c] == -1 then -1 else index t [c] + 1 := by
        simp only [index, hp]; rfl
      rcases ih with ⟨h1, h2⟩ | ⟨i, h1, h2, h3⟩
      · refine .inl ⟨by rw [hi, h1]; rfl, fun q => ?_⟩
        cases q with
        | zero => simpa using hb
        | succ q => simpa using h2 q
      · refine .inr ⟨i + 1, ?_, by simpa using h2, fun q hq => ?_⟩
        · rw [hi, h1]
          have : ((i : Int) == -1) = false := beq_eq_false_iff_ne.2 (by omega)
          rw [this]
          simp
        · cases q with
          | zero => simpa using hb
          | succ q => simpa using h3 q (by omega)

/-- Cut at most k times. -/
theorem splitK_pcs (c : UInt8) : ∀ (k : Nat) (l : List UInt8), (splitK [c] 0 k l).length = min k ((pcs c l).length - 1) + 1 ∧ ((pcs c l).length ≤ k + 1 → splitK [c] 0 k l = pcs c l) := by
  intro k
  induction k with
  | zero =>
    intro l
    refine ⟨by simp [splitK], fun h => ?_⟩
    rcases idx_one l c with ⟨_, h2⟩ | ⟨i, _, h2, h3⟩
    · rw [pcs_miss c l h2]; rfl
    · exfalso
      rw [pcs_hit c l i h2 h3] at h
      have := pcs_ne c (l.drop (i + 1))
      have h4 : 0 < (pcs c (l.drop (i + 1))).length := List.length_pos_iff.2 this
      simp only [List.length_cons] at h
      omega
  | succ k ih =>
    intro l
    rcases idx_one l c with ⟨h1, h2⟩ | ⟨i, h1, h2, h3⟩
    · have e : splitK [c] 0 (k + 1) l = [l] := by simp [splitK, h1]
      rw [e, pcs_miss c l h2]
      exact ⟨by simp, fun _ => rfl⟩
    · have hne : ((i : Int) == -1) = false := beq_eq_false_iff_ne.2 (by omega)
      have e : splitK [c] 0 (k + 1) l = l.take i :: splitK [c] 0 k (l.drop (i + 1)) := by
        simp only [splitK, h1, hne]
        simp
      rw [e, pcs_hit c l i h2 h3]
      obtain ⟨a, b⟩ := ih (l.drop (i + 1))
      have h4 : 0 < (pcs c (l.drop (i + 1))).length := List.length_pos_iff.2 (pcs_ne c _)
      refine ⟨by simp only [List.length_cons, a]; omega, fun h => ?_⟩
      rw [b (by simp only [List.length_cons] at h; omega)]

end Go.Proofs.YtjjflbnopphciacGreatDoor

namespace Go.Proofs.YtjjflbnopphciacGreatDoor
open Go.RowKit

theorem sizeS_any (n : Int) (w : World) (h : -9223372036854775807 ≤ n ∧ n ≤ 9223372036854775807) :
    Calls Tryz.prog 96 #[.int .i64 n] w fun e w' => e = .returned (.int .i64 (n.natAbs : Int)) ∧ w = w' := by
  have hw : IntKind.i64.wrap (-n) = -n := IntWalk.i64_in _ (by omega)
  go_enter Tryz.func96, Tryz.ntmps96
  go_wp2
  all_goals go_ret
  all_goals refine ⟨?_, rfl⟩
  all_goals first
    | (rw [show ((n.natAbs : Nat) : Int) = -n by omega]; done)
    | (rw [show ((n.natAbs : Nat) : Int) = n by omega]; done)
    | (rw [show ((n.natAbs : Nat) : Int) = -n by omega]; rfl)
    | (rw [show ((n.natAbs : Nat) : Int) = n by omega]; rfl)

theorem bytes_app (a b : List UInt8) : (ByteArray.mk a.toArray ++ ByteArray.mk b.toArray) = ByteArray.mk (a ++ b).toArray := by
  apply ByteArray.ext
  simp
theorem bytes_one (x : UInt8) (b : List UInt8) : (ByteArray.mk #[x] ++ ByteArray.mk b.toArray) = ByteArray.mk (x :: b).toArray := bytes_app [x] b
theorem bytes_size (a : List UInt8) : (ByteArray.mk a.toArray).size = a.length := by simp [ByteArray.size]

/-- What the digits taken so far say. -/
structure DecI (u q : Nat) (sl : List UInt8) : Prop where
  le : q ≤ u
  len : sl.length ≤ 19
  pow : 1 ≤ q → q * 10 ^ sl.length ≤ 9223372036854775808
  dig : Lib.decDigits u = (if q = 0 then [] else Lib.decDigits q) ++ sl
theorem DecI.start (u : Nat) (h : 1 ≤ u) (hu : u ≤ 9223372036854775808) : DecI u u [] := ⟨Nat.le_refl _, by simp, fun _ => by simpa using hu, by rw [if_neg (by omega)]; simp⟩
theorem DecI.len18 {u q : Nat} {sl : List UInt8} (h : DecI u q sl) (hq : 1 ≤ q) : sl.length ≤ 18 := by
  have h1 := h.pow hq
  have h2 : 10 ^ sl.length ≤ q * 10 ^ sl.length := Nat.le_mul_of_pos_left _ (by omega)
  by_cases e : sl.length ≤ 18
  · exact e
  · have h3 : 10 ^ 19 ≤ 10 ^ sl.length := Nat.pow_le_pow_right (by omega) (by omega)
    omega
theorem DecI.step {u q : Nat} {sl : List UInt8} (h : DecI u q sl) (hq : 1 ≤ q) : DecI u (q / 10) (UInt8.ofNat (48 + q % 10) :: sl) := by
  have h18 := h.len18 hq
  refine ⟨Nat.le_trans (Nat.div_le_self _ _) h.le, by simp only [List.length_cons]; omega, fun _ => ?_, ?_⟩
  · have h1 := h.pow hq
    rw [List.length_cons, Nat.pow_succ]
    have : q / 10 * (10 ^ sl.length * 10) = (q / 10 * 10) * 10 ^ sl.length := by rw [Nat.mul_comm (10 ^ sl.length) 10, Nat.mul_assoc]
    rw [this]
    exact Nat.le_trans (Nat.mul_le_mul_right _ (by omega)) h1
  · rw [h.dig, if_neg (by omega)]
    by_cases h10 : q < 10
    · rw [if_pos (by omega)]
      rw [Lib.decDigits, dif_pos h10, Nat.mod_eq_of_lt h10]
      rfl
    · rw [if_neg (by omega), Lib.decDigits, dif_neg h10, List.append_assoc]
      rfl
theorem DecI.done {u : Nat} {sl : List UInt8} (h : DecI u 0 sl) : sl = Lib.decDigits u := by have := h.dig; simpa using this.symm

theorem digit_conv (d : Nat) (hd : d < 10) (W : World) :
    (convert 121 9 (.slice (some ⟨W.heap.size, 0, none⟩) 1 1)).run Tryz.prog (W.alloc (.cells #[.int .u8 (48 + (d : Int))] 5)) = .ok (.string ⟨#[UInt8.ofNat (48 + d)]⟩) (W.alloc (.cells #[.int .u8 (48 + (d : Int))] 5)) := by
  obtain ⟨b, hb⟩ : ∃ b, UInt8.ofNat (48 + d) = b := ⟨_, rfl⟩
  have hbn : b.toNat = 48 + d := by rw [← hb]; simp [UInt8.toNat_ofNat']; omega
  rw [hb]
  exact run_convert_bytes_back (P := Tryz.prog) (W.alloc (.cells #[.int .u8 (48 + (d : Int))] 5)) 121 9 5 ⟨W.heap.size, 0, none⟩ 1 [b] Tryz.underlying121 Tryz.underlying5 Tryz.underlying9 (fun j hj => by
    have hj0 : j = 0 := by simpa using hj
    subst hj0
    rw [show ([b][0].toNat : Int) = 48 + (d : Int) by show (b.toNat : Int) = _; rw [hbn]; omega]
    simp [go_sem, Addr.add])

set_option maxRecDepth 100000 in
set_option maxHeartbeats 1000000 in
theorem decimal_neg (u : Nat) (w : World) (h1 : 1 ≤ u) (hu : u ≤ 9223372036854775808) :
    Calls Tryz.prog 74 #[.int .i64 (-(u : Int))] w fun e w' => e = .returned (.string ⟨(45 :: Lib.decDigits u).toArray⟩) ∧ Below w.heap.size w w' := by
  have hzb : (-(u : Int) == 0) = false := beq_eq_false_iff_ne.2 (by omega)
  have hneg : -(u : Int) < 0 := by omega
  go_enter Tryz.func74, Tryz.ntmps74
  go_wp2
  go_loopw [0, 3] (fun v s wr => ∃ (q : Nat) (sl : List UInt8), v = .int .i64 (-(q : Int)) ∧ s = .string ⟨sl.toArray⟩ ∧ Hid (DecI u q sl ∧ Below w.heap.size w wr)) (fun v _ _ => (intOf v).natAbs)
  case atStart => exact ⟨u, [], rfl, rfl, DecI.start u h1 hu, Below.refl _ _⟩
  case round =>
    obtain ⟨q, sl, rfl, rfl, HB⟩ := hrel
    have hqu : q ≤ 9223372036854775808 := Nat.le_trans HB.out.1.le hu
    by_cases hq0 : q = 0
    · subst hq0
      have hs := HB.out.1.done
      have hl := HB.out.1.len
      have hsz := bytes_size sl
      have hs1 : (ByteArray.mk #[45]).size = 1 := rfl
      have HE : Hid (ByteArray.mk #[45] ++ ByteArray.mk sl.toArray = ByteArray.mk (45 :: Lib.decDigits u).toArray) := by show _ = _; rw [bytes_one, ← hs]
      clear hs
      go_wp2
      go_ret
      exact ⟨by rw [← HE.out]; rfl, HB.out.2⟩
    · have hqb : ((-(q : Int)) != 0) = true := bne_iff_ne.2 (by omega)
      have hd : (-(q : Int)).tmod 10 = -((q % 10 : Nat) : Int) := by rw [Int.neg_tmod]; rfl
      have hv : (-(q : Int)).tdiv 10 = -((q / 10 : Nat) : Int) := by rw [Int.neg_tdiv]; rfl
      have hst := HB.out.1.step (by omega)
      have hl := HB.out.1.len18 (by omega)
      have hsz := bytes_size sl
      have hs1 := HB.out.2.size
      obtain ⟨d, hdd⟩ : ∃ d, q % 10 = d := ⟨_, rfl⟩
      obtain ⟨p, hpp⟩ : ∃ p, q / 10 = p := ⟨_, rfl⟩
      rw [hdd] at hd hst
      rw [hpp] at hv hst
      have hd10 : d < 10 := by omega
      have hpq : p < q := by omega
      have hcb := digit_conv d hd10 wr
      have HST := Lib.hid hst
      obtain ⟨b, hb⟩ : ∃ b, UInt8.ofNat (48 + d) = b := ⟨_, rfl⟩
      rw [hb] at hcb HST
      have hsb : (ByteArray.mk #[b]).size = 1 := rfl
      clear hb hst hdd hpp
      go_wp2_with (go_at_call 96; refine (sizeS_any _ _ (by omega)).mono ?_; rintro e w' ⟨rfl, rfl⟩)
      go_roundw
      case rel =>
        rw [show decide (0 < u) = true from decide_eq_true (by omega)]
        exact ⟨_, _, _, _, _, _, _, _, _, _, _, _, _, _, _, _, _, ⟨p, b :: sl, rfl, by show Value.string (ByteArray.mk #[b] ++ ByteArray.mk sl.toArray) = _; rw [bytes_one], HST.out, HB.out.2.alloc hs1 _⟩, rfl⟩
      case measure => simp [intOf]; omega

set_option maxRecDepth 100000 in
set_option maxHeartbeats 1000000 in
theorem decimal_pos (u : Nat) (w : World) (h1 : 1 ≤ u) (hu : u ≤ 9223372036854775807) :
    Calls Tryz.prog 74 #[.int .i64 (u : Int)] w fun e w' => e = .returned (.string ⟨(Lib.decDigits u).toArray⟩) ∧ Below w.heap.size w w' := by
  have hzb : ((u : Int) == 0) = false := beq_eq_false_iff_ne.2 (by omega)
  have hneg : ¬ (u : Int) < 0 := by omega
  go_enter Tryz.func74, Tryz.ntmps74
  go_wp2
  go_loopw [0, 3] (fun v s wr => ∃ (q : Nat) (sl : List UInt8), v = .int .i64 (q : Int) ∧ s = .string ⟨sl.toArray⟩ ∧ Hid (DecI u q sl ∧ Below w.heap.size w wr)) (fun v _ _ => (intOf v).natAbs)
  case atStart => exact ⟨u, [], rfl, rfl, DecI.start u h1 (by omega), Below.refl _ _⟩
  case round =>
    obtain ⟨q, sl, rfl, rfl, HB⟩ := hrel
    have hqu : q ≤ 9223372036854775807 := Nat.le_trans HB.out.1.le hu
    by_cases hq0 : q = 0
    · subst hq0
      have hs := HB.out.1.done
      have hl := HB.out.1.len
      have hsz := bytes_size sl
      have hs1 : (ByteArray.mk #[]).size = 0 := rfl
      have HE : Hid (ByteArray.mk #[] ++ ByteArray.mk sl.toArray = ByteArray.mk (Lib.decDigits u).toArray) := by show _ = _; rw [show ByteArray.mk #[] = ByteArray.mk ([] : List UInt8).toArray from rfl, bytes_app, ← hs]; rfl
      have HS : Hid (ByteArray.mk sl.toArray = ByteArray.mk (Lib.decDigits u).toArray) := by show _ = _; rw [← hs]
      clear hs
      go_wp2
      go_ret
      first | exact ⟨by rw [← HE.out]; rfl, HB.out.2⟩ | exact ⟨by rw [← HS.out]; rfl, HB.out.2⟩ | exact ⟨by rw [← HE.out], HB.out.2⟩ | exact ⟨by rw [← HS.out], HB.out.2⟩
    · have hqb : ((q : Int) != 0) = true := bne_iff_ne.2 (by omega)
      have hd : (q : Int).tmod 10 = ((q % 10 : Nat) : Int) := rfl
      have hv : (q : Int).tdiv 10 = ((q / 10 : Nat) : Int) := rfl
      have hst := HB.out.1.step (by omega)
      have hl := HB.out.1.len18 (by omega)
      have hsz := bytes_size sl
      have hs1 := HB.out.2.size
      obtain ⟨d, hdd⟩ : ∃ d, q % 10 = d := ⟨_, rfl⟩
      obtain ⟨p, hpp⟩ : ∃ p, q / 10 = p := ⟨_, rfl⟩
      rw [hdd] at hd hst
      rw [hpp] at hv hst
      have hd10 : d < 10 := by omega
      have hpq : p < q := by omega
      have hcb := digit_conv d hd10 wr
      have HST := Lib.hid hst
      obtain ⟨b, hb⟩ : ∃ b, UInt8.ofNat (48 + d) = b := ⟨_, rfl⟩
      rw [hb] at hcb HST
      have hsb : (ByteArray.mk #[b]).size = 1 := rfl
      clear hb hst hdd hpp
      go_wp2_with (go_at_call 96; refine (sizeS_any _ _ (by omega)).mono ?_; rintro e w' ⟨rfl, rfl⟩)
      go_roundw
      case rel => exact ⟨p, b :: sl, by go_num, by rw [bytes_one], HST.out, HB.out.2.alloc hs1 _⟩
      case measure => simp [intOf]; omega

theorem decimal_zero (w : World) :
    Calls Tryz.prog 74 #[.int .i64 0] w fun e w' => e = .returned (.string ⟨#[48]⟩) ∧ Below w.heap.size w w' := by
  go_enter Tryz.func74, Tryz.ntmps74
  go_wp2
  go_ret
  exact ⟨rfl, Below.refl _ _⟩

theorem decimal_any (n : Int) (w : World) (h0 : -9223372036854775808 ≤ n) (h1 : n ≤ 9223372036854775807) :
    Calls Tryz.prog 74 #[.int .i64 n] w fun e w' => e = .returned (.string ⟨(Lib.itoa n).toArray⟩) ∧ Below w.heap.size w w' := by
  rcases Int.lt_trichotomy n 0 with h | h | h
  · obtain ⟨u, hu⟩ : ∃ u : Nat, n = -(u : Int) := ⟨n.natAbs, by omega⟩
    rw [hu, Lib.itoa_neg u (by omega)]
    exact decimal_neg u w (by omega) (by omega)
  · subst h
    have := decimal_zero w
    rw [show Lib.itoa 0 = [48] by rw [Lib.itoa, if_neg (by omega)]; show Lib.decDigits 0 = _; rw [Lib.decDigits, dif_pos (by omega)]; rfl]
    exact this
  · obtain ⟨u, hu⟩ : ∃ u : Nat, n = (u : Int) := ⟨n.toNat, by omega⟩
    rw [hu, Lib.itoa_nonneg u]
    exact decimal_pos u w (by omega) (by omega)

end Go.Proofs.YtjjflbnopphciacGreatDoor

namespace Go.Proofs.YtjjflbnopphciacGreatDoor
open Go.RowKit

theorem dec_step {r : List UInt8} {j n : Nat} {b : UInt8} (h : Lib.decFrom 0 (r.take j) = some n) (hb : r[j]? = some b) (h1 : 48 ≤ b.toNat) (h2 : b.toNat ≤ 57) : Lib.decFrom 0 (r.take (j + 1)) = some (10 * n + (b.toNat - 48)) := by
  have e : r.take (j + 1) = r.take j ++ [b] := by rw [List.take_add_one, hb]; rfl
  rw [e, decFrom_append, h]
  show Lib.decFrom n [b] = _
  rw [Lib.decFrom, Lib.digitVal, if_pos ⟨h1, h2⟩]
  show Lib.decFrom (n * 10 + (b.toNat - 48)) [] = _
  rw [Lib.decFrom, Nat.mul_comm]
theorem dec_bd {r : List UInt8} {n : Nat} (h : Lib.decFrom 0 r = some n) (d : Nat) (hl : r.length ≤ d) (h0 : 1 ≤ r.length) : n < 10 ^ d := by
  have : digs r d true = some n := by
    unfold digs
    rw [if_neg]
    · exact h
    · rintro (e | e | e)
      · subst e; simp at h0
      · omega
      · exact absurd e.2 (by simp)
  exact digs_bd this
theorem dec_bd' {r : List UInt8} {j n : Nat} (h : Lib.decFrom 0 (r.take j) = some n) (d : Nat) (hl : j ≤ d) (hd : d ≤ 17) : n < 100000000000000000 := by
  have h18 : 10 ^ d ≤ 10 ^ 17 := Nat.pow_le_pow_right (by omega) hd
  by_cases e : (r.take j) = []
  · rw [e] at h
    have : n = 0 := by have := Option.some.inj h; omega
    omega
  · have := dec_bd h d (by rw [List.length_take]; omega) (List.length_pos_iff.2 e)
    omega
theorem dec_none {r : List UInt8} {j n : Nat} {b : UInt8} (h : Lib.decFrom 0 (r.take j) = some n) (hb : r[j]? = some b) (h1 : ¬ (48 ≤ b.toNat ∧ b.toNat ≤ 57)) : Lib.decFrom 0 r = none :=
  decFrom_bad r j 0 n b h hb (by rw [Lib.digitVal, if_neg h1])

/-- What the words say of a string. -/
theorem str_get (s : ByteArray) (k : Nat) (h : k < s.size) : s.data.toList[k]? = some s[k] := by
  rw [List.getElem?_eq_getElem (by simpa using h)]

  rfl
end Go.Proofs.YtjjflbnopphciacGreatDoor

namespace Go.Proofs.YtjjflbnopphciacGreatDoor
open Go.RowKit

set_option maxRecDepth 100000 in
set_option maxHeartbeats 2000000 in
theorem number_neg (s : ByteArray) (d : Nat) (w : World) (hs : s.size ≤ 9223372036854775806) (hd1 : 1 ≤ d) (hd17 : d ≤ 17) (hp : 0 < s.size) (hm : s[0] = 45) :
    Calls Tryz.prog 40 #[.string s, .int .i64 (d : Int)] w fun e w' => e = .returned (.tuple #[.int .i64 ((numS s.data.toList d).getD 0), .bool (numS s.data.toList d).isSome]) ∧ w = w' := by
  have hlen : s.data.toList.length = s.size := by simp
  have HL := Lib.hid hlen; clear hlen
  have HM : Hid (numS s.data.toList d = (digs s.data.toList.tail d false).map fun (n : Nat) => -(n : Int)) := by
    show _ = _; unfold numS; rw [if_pos (by rw [List.head?_eq_getElem?, str_get s 0 hp, hm])]
  have hmm : (((s[0].toNat : Nat) : Int) == 45) = true := by rw [hm]; rfl
  clear hm
  have hgt : (0 : Int) < s.size := by omega
  by_cases h1 : s.size = 1
  · have HN : Hid (numS s.data.toList d = none) := by
      show _ = _; rw [HM.out]; unfold digs
      rw [if_pos (.inl (List.length_eq_zero_iff.1 (by rw [List.length_tail, HL.out, h1])))]; rfl
    go_enter Tryz.func40, Tryz.ntmps40
    go_wp2
    go_ret2
    exact ⟨by rw [HN.out]; rfl, rfl⟩
  have he1 : ((s.size : Int) == 1) = false := beq_eq_false_iff_ne.2 (by omega)
  by_cases h6 : d + 1 < s.size
  · have HN : Hid (numS s.data.toList d = none) := by
      show _ = _; rw [HM.out]; unfold digs
      rw [if_pos (.inr (.inl (by rw [List.length_tail, HL.out]; omega)))]; rfl
    have hgd : (d : Int) < (s.size : Int) - 1 := by omega
    go_enter Tryz.func40, Tryz.ntmps40
    go_wp2
    go_ret2
    exact ⟨by rw [HN.out]; rfl, rfl⟩
  have hgd : ¬ (d : Int) < (s.size : Int) - 1 := by omega
  have hp1 : 1 < s.size := by omega
  have hg1 : s.data.toList.tail.head? = some s[1] := by rw [List.head?_eq_getElem?, List.getElem?_tail]; exact str_get s 1 hp1
  by_cases hz : s[1] = 48
  · have HN : Hid (numS s.data.toList d = none) := by
      show _ = _; rw [HM.out]; unfold digs
      rw [if_pos (.inr (.inr ⟨by rw [hg1, hz], rfl⟩))]; rfl
    have hzz : (((s[1].toNat : Nat) : Int) == 48) = true := by rw [hz]; rfl
    clear hz hg1
    go_enter Tryz.func40, Tryz.ntmps40
    go_wp2
    go_ret2
    exact ⟨by rw [HN.out]; rfl, rfl⟩
  have HN : Hid (numS s.data.toList d = (Lib.decFrom 0 s.data.toList.tail).map fun (n : Nat) => -(n : Int)) := by
    show _ = _; rw [HM.out]; unfold digs
    rw [if_neg]
    rintro (e | e | ⟨e, e2⟩)
    · rw [e] at hg1; cases hg1
    · rw [List.length_tail, HL.out] at e; omega
    · rw [hg1] at e; exact hz (Option.some.inj e)
  have hzz : (((s[1].toNat : Nat) : Int) == 48) = false := by
    refine beq_eq_false_iff_ne.2 fun e => hz ?_
    apply UInt8.toNat_inj.1
    show s[1].toNat = 48
    omega
  clear hz hg1
  go_enter Tryz.func40, Tryz.ntmps40
  go_wp2
  go_loop [7, 8] (fun v i => ∃ k n : Nat, k + 1 ≤ s.size ∧ v = .int .i64 (n : Int) ∧ i = .int .i64 ((k + 1 : Nat) : Int) ∧ Hid (Lib.decFrom 0 (s.data.toList.tail.take k) = some n)) (fun _ i => s.size - (intOf i).toNat)
  case atStart => exact ⟨0, 0, by omega, rfl, rfl, rfl⟩
  case round =>
    obtain ⟨k, n, hk, rfl, rfl, HA⟩ := hrel
    by_cases hlt : k + 1 < s.size
    · have hnb := dec_bd' HA.out d (by omega) (by omega)
      have hgk : s.data.toList.tail[k]? = some s[k + 1] := by rw [List.getElem?_tail]; exact str_get s (k + 1) hlt
      rcases (show ((s[k + 1].toNat : Nat) : Int) < 48 ∨ (48 ≤ ((s[k + 1].toNat : Nat) : Int) ∧ ((s[k + 1].toNat : Nat) : Int) ≤ 57) ∨ 57 < ((s[k + 1].toNat : Nat) : Int) by omega) with hd1 | ⟨hd1, hd2⟩ | hd1
      · have HS := Lib.hid (dec_none HA.out hgk (by omega))
        clear hgk
        go_wp2
        go_ret2
        exact ⟨by rw [HN.out, HS.out]; rfl, rfl⟩
      · have HS := Lib.hid (dec_step HA.out hgk (by omega) (by omega))
        have hw1 : IntKind.i64.wrap (10 * (n : Int)) = 10 * n := IntWalk.i64_in _ (by omega)
        have hw2 : IntKind.i64.wrap (10 * (n : Int) + (((s[k + 1].toNat : Nat) : Int) - 48)) = ((10 * n + (s[k + 1].toNat - 48) : Nat) : Int) := by rw [IntWalk.i64_in _ (by omega)]; omega
        clear hgk
        go_wp2
        go_round
        case rel => exact ⟨k + 1, 10 * n + (s[k + 1].toNat - 48), by omega, by go_num, by go_num, HS.out⟩
        case measure => simp [intOf]; omega
      · have HS := Lib.hid (dec_none HA.out hgk (by omega))
        clear hgk
        go_wp2
        go_ret2
        exact ⟨by rw [HN.out, HS.out]; rfl, rfl⟩
    · have HS : Hid (Lib.decFrom 0 s.data.toList.tail = some n) := by
        have := HA.out
        rwa [List.take_of_length_le (by rw [List.length_tail, HL.out]; omega)] at this
      have hnb := dec_bd' HA.out d (by omega) (by omega)
      have hwn : IntKind.i64.wrap (-(n : Int)) = -(n : Int) := IntWalk.i64_in _ (by omega)
      have hc2 := HL
      go_wp2
      go_ret2
      exact ⟨by rw [HN.out, HS.out]; rfl, rfl⟩

set_option maxRecDepth 100000 in
set_option maxHeartbeats 2000000 in
theorem number_pos (s : ByteArray) (d : Nat) (w : World) (hs : s.size ≤ 9223372036854775806) (hd1 : 1 ≤ d) (hd17 : d ≤ 17) (hp : 0 < s.size) (hm : ¬ s[0] = 45) :
    Calls Tryz.prog 40 #[.string s, .int .i64 (d : Int)] w fun e w' => e = .returned (.tuple #[.int .i64 ((numS s.data.toList d).getD 0), .bool (numS s.data.toList d).isSome]) ∧ w = w' := by
  have hlen : s.data.toList.length = s.size := by simp
  have HL := Lib.hid hlen; clear hlen
  have hg0 := str_get s 0 hp
  have HM : Hid (numS s.data.toList d = (digs s.data.toList d (decide (s.data.toList.length ≤ 1))).map fun (n : Nat) => (n : Int)) := by
    show _ = _; unfold numS; rw [if_neg (by rw [List.head?_eq_getElem?, hg0]; exact fun e => hm (Option.some.inj e))]
  have hmm : (((s[0].toNat : Nat) : Int) == 45) = false := by
    refine beq_eq_false_iff_ne.2 fun e => hm ?_
    apply UInt8.toNat_inj.1
    show s[0].toNat = 45
    omega
  clear hm
  have hgt : (0 : Int) < s.size := by omega
  have he1 : ((s.size : Int) == 0) = false := beq_eq_false_iff_ne.2 (by omega)
  by_cases h6 : d < s.size
  · have HN : Hid (numS s.data.toList d = none) := by
      show _ = _; rw [HM.out]; unfold digs
      rw [if_pos (.inr (.inl (by rw [HL.out]; omega)))]; rfl
    have hgd : (d : Int) < (s.size : Int) := by omega
    go_enter Tryz.func40, Tryz.ntmps40
    go_wp2
    go_ret2
    exact ⟨by rw [HN.out]; rfl, rfl⟩
  have hgd : ¬ (d : Int) < (s.size : Int) := by omega
  by_cases hz : 1 < s.size ∧ s[0] = 48
  · have HN : Hid (numS s.data.toList d = none) := by
      show _ = _; rw [HM.out]; unfold digs
      rw [if_pos (.inr (.inr ⟨by rw [List.head?_eq_getElem?, hg0, hz.2], decide_eq_false (by rw [HL.out]; omega)⟩))]; rfl
    obtain ⟨h1, hz⟩ := hz
    have hzz : (((s[0].toNat : Nat) : Int) == 48) = true := by rw [hz]; rfl
    clear hz hg0
    go_enter Tryz.func40, Tryz.ntmps40
    go_wp2
    go_ret2
    exact ⟨by rw [HN.out]; rfl, rfl⟩
  have HN : Hid (numS s.data.toList d = (Lib.decFrom 0 s.data.toList).map fun (n : Nat) => (n : Int)) := by
    show _ = _; rw [HM.out]; unfold digs
    rw [if_neg]
    rintro (e | e | ⟨e, e2⟩)
    · rw [e] at HL; have := HL.out; simp at this; omega
    · rw [HL.out] at e; omega
    · refine hz ⟨?_, ?_⟩
      · have := of_decide_eq_false e2; rw [HL.out] at this; omega
      · rw [List.head?_eq_getElem?, hg0] at e; exact Option.some.inj e
  have hzz : s.size = 1 ∨ 1 < s.size ∧ (((s[0].toNat : Nat) : Int) == 48) = false := by
    by_cases h1 : s.size = 1
    · exact .inl h1
    · refine .inr ⟨by omega, beq_eq_false_iff_ne.2 fun e => hz ⟨by omega, ?_⟩⟩
      apply UInt8.toNat_inj.1
      show s[0].toNat = 48
      omega
  clear hz hg0
  rcases hzz with hzz | ⟨hz1, hzz⟩
  · cases hzb : (((s[0].toNat : Nat) : Int) == 48)
    · go_enter Tryz.func40, Tryz.ntmps40
      go_wp2
      go_loop [7, 8] (fun v i => ∃ k n : Nat, k ≤ s.size ∧ v = .int .i64 (n : Int) ∧ i = .int .i64 (k : Int) ∧ Hid (Lib.decFrom 0 (s.data.toList.take k) = some n)) (fun _ i => s.size - (intOf i).toNat)
      case atStart => exact ⟨0, 0, Nat.zero_le _, rfl, rfl, rfl⟩
      case round =>
        obtain ⟨k, n, hk, rfl, rfl, HA⟩ := hrel
        by_cases hlt : k < s.size
        · have hnb := dec_bd' HA.out d (by omega) (by omega)
          have hgk : s.data.toList[k]? = some s[k] := by exact str_get s k hlt
          rcases (show ((s[k].toNat : Nat) : Int) < 48 ∨ (48 ≤ ((s[k].toNat : Nat) : Int) ∧ ((s[k].toNat : Nat) : Int) ≤ 57) ∨ 57 < ((s[k].toNat : Nat) : Int) by omega) with hd1 | ⟨hd1, hd2⟩ | hd1
          · have HS := Lib.hid (dec_none HA.out hgk (by omega))
            clear hgk
            go_wp2
            go_ret2
            exact ⟨by rw [HN.out, HS.out]; rfl, rfl⟩
          · have HS := Lib.hid (dec_step HA.out hgk (by omega) (by omega))
            have hw1 : IntKind.i64.wrap (10 * (n : Int)) = 10 * n := IntWalk.i64_in _ (by omega)
            have hw2 : IntKind.i64.wrap (10 * (n : Int) + (((s[k].toNat : Nat) : Int) - 48)) = ((10 * n + (s[k].toNat - 48) : Nat) : Int) := by rw [IntWalk.i64_in _ (by omega)]; omega
            clear hgk
            go_wp2
            go_round
            case rel => exact ⟨k + 1, 10 * n + (s[k].toNat - 48), by omega, by go_num, by go_num, HS.out⟩
            case measure => simp [intOf]; omega
          · have HS := Lib.hid (dec_none HA.out hgk (by omega))
            clear hgk
            go_wp2
            go_ret2
            exact ⟨by rw [HN.out, HS.out]; rfl, rfl⟩
        · have HS : Hid (Lib.decFrom 0 s.data.toList = some n) := by
            have := HA.out
            rwa [List.take_of_length_le (by rw [HL.out]; omega)] at this
          have hnb := dec_bd' HA.out d (by omega) (by omega)
          have hwn : IntKind.i64.wrap (-(n : Int)) = -(n : Int) := IntWalk.i64_in _ (by omega)
          have hc2 := HL
          go_wp2
          go_ret2
          exact ⟨by rw [HN.out, HS.out]; rfl, rfl⟩
    · go_enter Tryz.func40, Tryz.ntmps40
      go_wp2
      go_loop [7, 8] (fun v i => ∃ k n : Nat, k ≤ s.size ∧ v = .int .i64 (n : Int) ∧ i = .int .i64 (k : Int) ∧ Hid (Lib.decFrom 0 (s.data.toList.take k) = some n)) (fun _ i => s.size - (intOf i).toNat)
      case atStart => exact ⟨0, 0, Nat.zero_le _, rfl, rfl, rfl⟩
      case round =>
        obtain ⟨k, n, hk, rfl, rfl, HA⟩ := hrel
        by_cases hlt : k < s.size
        · have hnb := dec_bd' HA.out d (by omega) (by omega)
          have hgk : s.data.toList[k]? = some s[k] := by exact str_get s k hlt
          rcases (show ((s[k].toNat : Nat) : Int) < 48 ∨ (48 ≤ ((s[k].toNat : Nat) : Int) ∧ ((s[k].toNat : Nat) : Int) ≤ 57) ∨ 57 < ((s[k].toNat : Nat) : Int) by omega) with hd1 | ⟨hd1, hd2⟩ | hd1
          · have HS := Lib.hid (dec_none HA.out hgk (by omega))
            clear hgk
            go_wp2
            go_ret2
            exact ⟨by rw [HN.out, HS.out]; rfl, rfl⟩
          · have HS := Lib.hid (dec_step HA.out hgk (by omega) (by omega))
            have hw1 : IntKind.i64.wrap (10 * (n : Int)) = 10 * n := IntWalk.i64_in _ (by omega)
            have hw2 : IntKind.i64.wrap (10 * (n : Int) + (((s[k].toNat : Nat) : Int) - 48)) = ((10 * n + (s[k].toNat - 48) : Nat) : Int) := by rw [IntWalk.i64_in _ (by omega)]; omega
            clear hgk
            go_wp2
            go_round
            case rel => exact ⟨k + 1, 10 * n + (s[k].toNat - 48), by omega, by go_num, by go_num, HS.out⟩
            case measure => simp [intOf]; omega
          · have HS := Lib.hid (dec_none HA.out hgk (by omega))
            clear hgk
            go_wp2
            go_ret2
            exact ⟨by rw [HN.out, HS.out]; rfl, rfl⟩
        · have HS : Hid (Lib.decFrom 0 s.data.toList = some n) := by
            have := HA.out
            rwa [List.take_of_length_le (by rw [HL.out]; omega)] at this
          have hnb := dec_bd' HA.out d (by omega) (by omega)
          have hwn : IntKind.i64.wrap (-(n : Int)) = -(n : Int) := IntWalk.i64_in _ (by omega)
          have hc2 := HL
          go_wp2
          go_ret2
          exact ⟨by rw [HN.out, HS.out]; rfl, rfl⟩
  · go_enter Tryz.func40, Tryz.ntmps40
    go_wp2
    go_loop [7, 8] (fun v i => ∃ k n : Nat, k ≤ s.size ∧ v = .int .i64 (n : Int) ∧ i = .int .i64 (k : Int) ∧ Hid (Lib.decFrom 0 (s.data.toList.take k) = some n)) (fun _ i => s.size - (intOf i).toNat)
    case atStart => exact ⟨0, 0, Nat.zero_le _, rfl, rfl, rfl⟩
    case round =>
      obtain ⟨k, n, hk, rfl, rfl, HA⟩ := hrel
      by_cases hlt : k < s.size
      · have hnb := dec_bd' HA.out d (by omega) (by omega)
        have hgk : s.data.toList[k]? = some s[k] := by exact str_get s k hlt
        rcases (show ((s[k].toNat : Nat) : Int) < 48 ∨ (48 ≤ ((s[k].toNat : Nat) : Int) ∧ ((s[k].toNat : Nat) : Int) ≤ 57) ∨ 57 < ((s[k].toNat : Nat) : Int) by omega) with hd1 | ⟨hd1, hd2⟩ | hd1
        · have HS := Lib.hid (dec_none HA.out hgk (by omega))
          clear hgk
          go_wp2
          go_ret2
          exact ⟨by rw [HN.out, HS.out]; rfl, rfl⟩
        · have HS := Lib.hid (dec_step HA.out hgk (by omega) (by omega))
          have hw1 : IntKind.i64.wrap (10 * (n : Int)) = 10 * n := IntWalk.i64_in _ (by omega)
          have hw2 : IntKind.i64.wrap (10 * (n : Int) + (((s[k].toNat : Nat) : Int) - 48)) = ((10 * n + (s[k].toNat - 48) : Nat) : Int) := by rw [IntWalk.i64_in _ (by omega)]; omega
          clear hgk
          go_wp2
          go_round
          case rel => exact ⟨k + 1, 10 * n + (s[k].toNat - 48), by omega, by go_num, by go_num, HS.out⟩
          case measure => simp [intOf]; omega
        · have HS := Lib.hid (dec_none HA.out hgk (by omega))
          clear hgk
          go_wp2
          go_ret2
          exact ⟨by rw [HN.out, HS.out]; rfl, rfl⟩
      · have HS : Hid (Lib.decFrom 0 s.data.toList = some n) := by
          have := HA.out
          rwa [List.take_of_length_le (by rw [HL.out]; omega)] at this
        have hnb := dec_bd' HA.out d (by omega) (by omega)
        have hwn : IntKind.i64.wrap (-(n : Int)) = -(n : Int) := IntWalk.i64_in _ (by omega)
        have hc2 := HL
        go_wp2
        go_ret2
        exact ⟨by rw [HN.out, HS.out]; rfl, rfl⟩

theorem number_any (s : ByteArray) (d : Nat) (w : World) (hs : s.size ≤ 9223372036854775806) (hd1 : 1 ≤ d) (hd17 : d ≤ 17) :
    Calls Tryz.prog 40 #[.string s, .int .i64 (d : Int)] w fun e w' => e = .returned (.tuple #[.int .i64 ((numS s.data.toList d).getD 0), .bool (numS s.data.toList d).isSome]) ∧ w = w' := by
  by_cases hp : 0 < s.size
  · by_cases hm : s[0] = 45
    · exact number_neg s d w hs hd1 hd17 hp hm
    · exact number_pos s d w hs hd1 hd17 hp hm
  · have h0 : s.size = 0 := by omega
    have hlen : s.data.toList.length = s.size := by simp
    have HN : Hid (numS s.data.toList d = none) := by
      show _ = _
      have hnil : s.data.toList = [] := List.length_eq_zero_iff.1 (by rw [hlen]; exact h0)
      rw [hnil]
      unfold numS digs
      simp
    clear hlen
    go_enter Tryz.func40, Tryz.ntmps40
    go_wp2
    go_ret2
    exact ⟨by rw [HN.out]; rfl, rfl⟩

end Go.Proofs.YtjjflbnopphciacGreatDoor

namespace Go.Proofs.YtjjflbnopphciacGreatDoor
open Go.RowKit

theorem ownBelowT {w w' : World} {base : Nat} {e : TypeId} {size : Nat} {v : Value} {n : Nat} {xs : List Value} (h : w.ownsRow base e size v n xs) (hb : Below w.heap.size w w') : w'.ownsRow base e size v n xs := by
  refine ⟨h.1, ?_⟩
  rcases h.2 with h0 | ⟨g, cap, cur, h1, h2, h3, h4⟩
  · exact .inl h0
  · exact .inr ⟨g, cap, cur, h1, h2, (hb.block g (Array.getElem?_eq_some_iff.1 h3).1).trans h3, h4⟩
theorem own_formT {w : World} {base size n : Nat} {t : TypeId} {v : Value} {xs : List Value} (h : w.ownsRow base t size v n xs) : ∃ A cap, v = .slice A n cap ∧ (0 < n → ∃ g, A = some ⟨g, 0, none⟩) := by
  rcases h.2 with ⟨rfl, rfl⟩ | ⟨g, cap, cur, rfl, _⟩
  · exact ⟨none, 0, rfl, fun h => absurd h (by omega)⟩
  · exact ⟨_, cap, rfl, fun _ => ⟨g, rfl⟩⟩

theorem strInfo : (Tryz.prog.info? 9).map (fun i => (i.zero, i.size, i.bytes)) = some (some (.string ⟨#[]⟩), 1, 16) := by kernel_rfl
/-- A string of these bytes. -/
def sv (l : List UInt8) : Value := .string ⟨l.toArray⟩
theorem sv_of (s : ByteArray) : Value.string s = sv s.data.toList := rfl
theorem sv_cells (l : List UInt8) : (sv l).oneCell' = true := rfl
theorem sv_extract (s : ByteArray) (a b : Nat) (l : List UInt8) (h : l = (s.data.toList.drop a).take (b - a)) : Value.string (s.extract a b) = sv l := by
  rw [sv_of]; subst h
  congr 1
  rw [Lib.extract_data]
theorem pcs_len_le (c : UInt8) (l : List UInt8) : (pcs c l).length ≤ l.length + 1 := by
  induction l with
  | nil => simp [pcs]
  | cons b t ih =>
    unfold pcs
    split
    · simp only [List.length_cons]; omega
    · cases h : pcs c t with
      | nil => simp
      | cons p ps => rw [h] at ih; simp only [List.length_cons] at ih ⊢; omega

set_option maxRecDepth 100000 in
set_option maxHeartbeats 2000000 in
theorem cut_any (s : ByteArray) (c : UInt8) (cI : Int) (hcI : ((c.toNat : Nat) : Int) = cI) (w : World) (hs : s.size ≤ 1000000000) :
    Calls Tryz.prog 37 #[.string s, .int .u8 cI] w fun e w' => (∃ v, e = .returned v ∧ w'.ownsRow w.heap.size 9 1 v (pcs c s.data.toList).length ((pcs c s.data.toList).map sv)) ∧ Below w.heap.size w w' := by
  obtain ⟨i0, hi0, hz0, hz1, hz2⟩ := info_parts strInfo
  have hlen : s.data.toList.length = s.size := by simp
  have HL := Lib.hid hlen; clear hlen
  obtain ⟨B, hB⟩ : ∃ B, w.heap.size = B := ⟨_, rfl⟩
  have HB := Lib.hid hB
  rw [hB]
  clear hB
  have HC := Lib.hid hcI
  clear hcI
  go_enter Tryz.func37, Tryz.ntmps37
  go_wp2
  go_loopw [5, 6, 7] (fun v f i wr => ∃ (fr k m : Nat) (done : List (List UInt8)), fr ≤ k ∧ k ≤ s.size ∧ Hid (m = done.length) ∧ m ≤ k ∧ f = .int .i64 (fr : Int) ∧ i = .int .i64 (k : Int) ∧ Hid (wr.ownsRow B 9 1 v m (done.map sv) ∧ Below B w wr) ∧ Hid (pcs c s.data.toList = done ++ pcs c (s.data.toList.drop fr) ∧ ∀ q, fr ≤ q → q < k → s.data.toList[q]? ≠ some c)) (fun _ _ i _ => s.size - (intOf i).toNat)
  case atStart => exact ⟨0, 0, 0, [], Nat.le_refl _, Nat.zero_le _, rfl, Nat.le_refl _, rfl, rfl, ⟨World.ownsRow_nil _ _ _ _, Below.refl _ _⟩, ⟨by simp, fun q _ h => by omega⟩⟩
  case round =>
    obtain ⟨fr, k, m, done, hfk, hks, hm, hmk, rfl, rfl, HI, HP⟩ := hrel
    obtain ⟨Ac, ca, rfl, _⟩ := own_formT HI.out.1
    have hsz : B ≤ wr.heap.size := by have := HI.out.2.size; have := HB.out; omega
    by_cases hlt : k < s.size
    · have hgk := str_get s k hlt
      by_cases hc : s[k] = c
      · have hce : (((s[k].toNat : Nat) : Int) == cI) = true := by rw [hc, ← HC.out]; simp
        have HX : Hid (Value.string (s.extract fr k) = sv ((s.data.toList.drop fr).take (k - fr))) := sv_extract s fr k _ rfl
        obtain ⟨X, hX⟩ : ∃ X, s.extract fr k = X := ⟨_, rfl⟩
        have HX1 : Hid (Value.string X = sv ((s.data.toList.drop fr).take (k - fr))) := by show _ = _; rw [← hX]; exact HX.out
        have hP2 : pcs c (s.data.toList.drop fr) = (s.data.toList.drop fr).take (k - fr) :: pcs c (s.data.toList.drop (k + 1)) := by
          have := pcs_hit c (s.data.toList.drop fr) (k - fr) (by rw [List.getElem?_drop, show fr + (k - fr) = k by omega, hgk, hc]) (fun q hq => by rw [List.getElem?_drop]; exact HP.out.2 _ (by omega) (by omega))
          rw [this, List.drop_drop, show fr + (k - fr + 1) = k + 1 by omega]
        have HP2 := Lib.hid hP2
        clear hP2 hc hgk
        have hX1 : (Value.string X).oneCell' = true := rfl
        have HNX : Hid (∀ j u, [.string X][j]? = some u → (wr.alloc (.cells #[.string X] 9)).cell? ((⟨wr.heap.size, 0, none⟩ : Addr).add j) = some u) := by
          intro j u hj
          cases j with
          | zero => have : Value.string X = u := by simpa using hj
                    subst this
                    simp [go_sem, Addr.add]
          | succ j => simp at hj
        have HX1c := Lib.hid hX1
        clear hX1
        go_wp2_with (at_builtin; refine wpList_append_own _ rfl (.tmp 19) (.tmp 24) 76 rfl B 9 i0 _ 1 16 Tryz.underlying76 hi0 hz0 hz1 hz2 rfl (by decide) _ _ _ rfl (HI.out.1.alloc _) ⟨wr.heap.size, 0, none⟩ 1 1 [.string X] rfl rfl HNX.out (by intro u hu; rw [List.mem_singleton.1 hu]; exact HX1c.out) (by unfold maxLen; omega) (by omega) (by simp; omega) ?_)
        intro v' w6 hown' hgrow _
        have HFIN : Hid ((w6.ownsRow B 9 1 v' (m + 1) ((done ++ [(s.data.toList.drop fr).take (k - fr)]).map sv) ∧ Below B w w6)) := by
          refine ⟨?_, (HI.out.2.alloc hsz _).grown hgrow (by simp; omega) (fun z e => (HI.out.1.lt z e).1)⟩
          rw [List.map_append, List.map_singleton, ← HX1.out]
          exact hown'
        clear hown' hgrow
        go_wp2
        go_roundw
        case rel =>
          refine ⟨k + 1, k + 1, m + 1, done ++ [(s.data.toList.drop fr).take (k - fr)], Nat.le_refl _, by omega, ?_, by omega, by go_num, by go_num, HFIN.out, ?_, fun q h1 h2 => by omega⟩
          · show _ = _; rw [List.length_append, hm.out]; rfl
          · rw [HP.out.1, HP2.out, List.append_assoc]; rfl
        case measure => simp [intOf]; omega
      · have hce : (((s[k].toNat : Nat) : Int) == cI) = false := by
          rw [← HC.out]
          refine beq_eq_false_iff_ne.2 fun e => hc ?_
          apply UInt8.toNat_inj.1
          omega
        have HP2 : Hid (∀ q, fr ≤ q → q < k + 1 → s.data.toList[q]? ≠ some c) := by
          intro q h1 h2
          by_cases e : q = k
          · subst e; rw [hgk]; exact fun e => hc (Option.some.inj e)
          · exact HP.out.2 q h1 (by omega)
        clear hgk hc
        go_wp2
        go_roundw
        case rel => exact ⟨fr, k + 1, m, done, by omega, by omega, hm, by omega, rfl, by go_num, HI.out, HP.out.1, HP2.out⟩
        case measure => simp [intOf]; omega
    · have HX : Hid (Value.string (s.extract fr s.size) = sv (s.data.toList.drop fr)) := sv_extract s fr s.size _ (by rw [List.take_of_length_le (by rw [List.length_drop, HL.out]; exact Nat.le_refl _)])
      obtain ⟨X, hX⟩ : ∃ X, s.extract fr s.size = X := ⟨_, rfl⟩
      have HX1 : Hid (Value.string X = sv (s.data.toList.drop fr)) := by show _ = _; rw [← hX]; exact HX.out
      have HP2 : Hid (pcs c (s.data.toList.drop fr) = [s.data.toList.drop fr]) := by
        refine pcs_miss c _ fun q => ?_
        rw [List.getElem?_drop]
        by_cases e : fr + q < k
        · exact HP.out.2 _ (by omega) e
        · rw [List.getElem?_eq_none (by rw [HL.out]; omega)]; exact fun e => by cases e
      have hX1 : (Value.string X).oneCell' = true := rfl
      have HNX : Hid (∀ j u, [.string X][j]? = some u → (wr.alloc (.cells #[.string X] 9)).cell? ((⟨wr.heap.size, 0, none⟩ : Addr).add j) = some u) := by
        intro j u hj
        cases j with
        | zero => have : Value.string X = u := by simpa using hj
                  subst this
                  simp [go_sem, Addr.add]
        | succ j => simp at hj
      have HX1c := Lib.hid hX1
      clear hX1
      go_wp2_with (at_builtin; refine wpList_append_own _ rfl (.tmp 28) (.tmp 32) 76 rfl B 9 i0 _ 1 16 Tryz.underlying76 hi0 hz0 hz1 hz2 rfl (by decide) _ _ _ rfl (HI.out.1.alloc _) ⟨wr.heap.size, 0, none⟩ 1 1 [.string X] rfl rfl HNX.out (by intro u hu; rw [List.mem_singleton.1 hu]; exact HX1c.out) (by unfold maxLen; omega) (by omega) (by simp; omega) ?_)
      intro v' w6 hown' hgrow _
      have HFIN : Hid ((w6.ownsRow B 9 1 v' (m + 1) ((done ++ [s.data.toList.drop fr]).map sv) ∧ Below B w w6)) := by
        refine ⟨?_, (HI.out.2.alloc hsz _).grown hgrow (by simp; omega) (fun z e => (HI.out.1.lt z e).1)⟩
        rw [List.map_append, List.map_singleton, ← HX1.out]
        exact hown'
      clear hown' hgrow
      go_wp2
      go_ret
      refine ⟨⟨_, rfl, ?_⟩, HFIN.out.2⟩
      rw [HP.out.1, HP2.out, List.length_append, List.length_singleton, ← hm.out]
      exact HFIN.out.1

theorem own_str {w : World} {base n : Nat} {t : TypeId} {v : Value} {xs : List Value} (h : w.ownsRow base t 1 v n xs) (hl : xs.length = n) (hn : 0 < n) :
    ∃ g cp, v = .slice (some ⟨g, 0, none⟩) n cp ∧ base ≤ g ∧ g < w.heap.size ∧ ∀ k x, xs[k]? = some x → w.cell? ⟨g, k, none⟩ = some x := by
  rcases h.2 with ⟨_, e⟩ | ⟨g, cap, cur, e, hb, hg, h1, h2, h3, h4⟩
  · omega
  · refine ⟨g, cap, e, hb, (Array.getElem?_eq_some_iff.1 hg).1, fun k x hx => ?_⟩
    have hk : k < n := by have := (List.getElem?_eq_some_iff.1 hx).1; omega
    rw [cell_of_row w g k cur _ (0, 0) hg, ← Array.getElem?_toList]
    have e1 : (cur.toList.take (n * 1))[k]? = some x := by rw [h4]; exact hx
    rw [List.getElem?_take, if_pos (by omega)] at e1
    exact e1

theorem cut_form (s : ByteArray) (c : UInt8) (cI : Int) (hcI : ((c.toNat : Nat) : Int) = cI) (w : World) (hs : s.size ≤ 1000000000) (ps : List (List UInt8)) (n : Nat) (hps : pcs c s.data.toList = ps) (hn : ps.length = n) :
    Calls Tryz.prog 37 #[.string s, .int .u8 cI] w fun e w' => ∃ g cp, e = .returned (.slice (some ⟨g, 0, none⟩) n cp) ∧ w.heap.size ≤ g ∧ g < w'.heap.size ∧ (∀ k x, ps[k]? = some x → w'.cell? ⟨g, k, none⟩ = some (sv x)) ∧ Below w.heap.size w w' := by
  refine (cut_any s c cI hcI w hs).mono ?_
  rintro e w' ⟨⟨v, rfl, ho⟩, hb⟩
  rw [hps, hn] at ho
  have h0 : 0 < n := by have := List.length_pos_iff.2 (pcs_ne c s.data.toList); rw [hps, hn] at this; exact this
  obtain ⟨g, cp, rfl, h1, h2, h3⟩ := own_str ho (by rw [List.length_map, hn]) h0
  exact ⟨g, cp, rfl, h1, h2, fun k x hx => h3 k _ (by rw [List.getElem?_map, hx]; rfl), hb⟩

end Go.Proofs.YtjjflbnopphciacGreatDoor

namespace Go.Proofs.YtjjflbnopphciacGreatDoor
open Go.RowKit

/-- Numbers as texts, a blank between. -/
def joinP (xs : List Int) : List UInt8 := Lib.join (xs.map Lib.itoa) [32]
theorem joinP_one (x : Int) : joinP [x] = Lib.itoa x := by simp [joinP, Lib.join_cons, Lib.joinTail]
theorem joinP_snoc (xs : List Int) (x : Int) (h : xs ≠ []) : joinP (xs ++ [x]) = joinP xs ++ 32 :: Lib.itoa x := by
  induction xs with
  | nil => exact absurd rfl h
  | cons a t ih =>
    cases t with
    | nil => simp [joinP, Lib.join_cons, Lib.joinTail]
    | cons b r =>
      have := ih (by simp)
      simp only [joinP, List.cons_append, List.map_cons, Lib.join_cons, Lib.joinTail] at this ⊢
      simp [this]
theorem digitsB_len (u d : Nat) (h : u < 10 ^ d) (hd : 1 ≤ d) : (Lib.decDigits u).length ≤ d := by
  have := nDigits_le_of u d h hd
  first | exact this | (rw [Lib.decDigits_length]; exact this) | (simpa [Lib.nDigits] using this)
theorem itoaB_size (n : Int) (h0 : -9223372036854775808 ≤ n) (h1 : n ≤ 9223372036854775807) : (Lib.itoa n).length ≤ 20 := by
  unfold Lib.itoa
  split
  · rename_i h
    have := digitsB_len n.natAbs 19 (by omega) (by omega)
    simp only [List.length_cons]
    omega
  · have := digitsB_len n.natAbs 19 (by omega) (by omega)
    first | omega | (have e : n.toNat = n.natAbs := by omega
                     rw [e]; omega)
def I64 (xs : List Int) : Prop := ∀ x ∈ xs, -9223372036854775808 ≤ x ∧ x ≤ 9223372036854775807

set_option maxRecDepth 100000 in
set_option maxHeartbeats 4000000 in
theorem join_any (A : Option Addr) (n cp : Nat) (xs : List Int) (w : World) (hr : RdI w A n xs) (hn : n ≤ 1000) (hx : I64 xs) (hl : xs.length = n) :
    Calls Tryz.prog 41 #[.slice A n cp] w fun e w' => e = .returned (.string (⟨(joinP xs).toArray⟩ : ByteArray)) ∧ Below w.heap.size w w' := by
  have HR := Lib.hid hr
  have HX := Lib.hid hx
  have HLN := Lib.hid hl
  obtain ⟨R, hR⟩ : ∃ R, (⟨(joinP xs).toArray⟩ : ByteArray) = R := ⟨_, rfl⟩
  have HRR := Lib.hid hR
  rw [hR]
  clear hr hx hl hR
  go_enter Tryz.func41, Tryz.ntmps41
  go_wp2
  go_loopw [3, 4] (fun s i wr => ∃ (j : Nat) (X : ByteArray), j ≤ n ∧ i = .int .i64 (j : Int) ∧ s = .string X ∧ X.size ≤ 21 * j ∧ Hid (X = ⟨(joinP (xs.take j)).toArray⟩ ∧ Below w.heap.size w wr)) (fun _ i _ => n - (intOf i).toNat)
  case atStart => exact ⟨0, ⟨#[]⟩, Nat.zero_le _, rfl, rfl, by decide, rfl, Below.refl _ _⟩
  case round =>
    obtain ⟨j, X, hj, rfl, rfl, hXz, HI⟩ := hrel
    by_cases hlt : j < n
    · obtain ⟨ad, rfl, hal, hcx⟩ := (HR.out.below HI.out.2).2 (by omega)
      have hcj := hcx j hlt
      have hxm : xs.getD j 0 ∈ xs := by
        rw [List.getD_eq_getElem?_getD, List.getElem?_eq_getElem (by rw [HLN.out]; exact hlt)]
        exact List.getElem_mem _
      have hxb := HX.out _ hxm
      have hsn : xs.take (j + 1) = xs.take j ++ [xs.getD j 0] := by
        rw [List.take_add_one, List.getD_eq_getElem?_getD, List.getElem?_eq_getElem (by rw [HLN.out]; exact hlt)]
        rfl
      obtain ⟨x, hx⟩ : ∃ x, xs.getD j 0 = x := ⟨_, rfl⟩
      rw [hx] at hcj hxb hsn
      obtain ⟨D, hD⟩ : ∃ D, (⟨(Lib.itoa x).toArray⟩ : ByteArray) = D := ⟨_, rfl⟩
      have hDz : D.size ≤ 20 := by rw [← hD, bytes_size]; exact itoaB_size x hxb.1 hxb.2
      have CD := Lib.hid (decimal_any x wr hxb.1 hxb.2)
      rw [hD] at CD
      have hltI : (j : Int) < (n : Int) := by omega
      have hadj : ad.add j = ad.add j := rfl
      have HSN := Lib.hid hsn
      have HD := Lib.hid hD
      clear hsn hx hxm hcx hD hxb
      by_cases h0 : j = 0
      · subst h0
        have hcj0 : wr.cell? ad = some (.int .i64 x) := by
          have e0 : ad.add 0 = ad := by unfold Addr.add; split <;> simp_all
          rwa [e0] at hcj
        clear hcj
        have hX0 : X = ⟨#[]⟩ := by
          have := HI.out.1
          rw [this, List.take_zero]; rfl
        subst hX0
        have HF : Hid ((⟨#[]⟩ : ByteArray) ++ D = ⟨(joinP (xs.take 1)).toArray⟩) := by
          show _ = _
          rw [HSN.out, List.take_zero, List.nil_append, joinP_one, ← HD.out]
          apply ByteArray.ext; simp
        have HF2 : Hid (D = ⟨(joinP (xs.take 1)).toArray⟩) := by
          show _ = _
          rw [HSN.out, List.take_zero, List.nil_append, joinP_one, ← HD.out]
        have z1 : ¬ 9223372036854775807 < 0 + D.size := by omega
        have z2 : ¬ 9223372036854775807 < D.size := by omega
        go_wp2_with (go_at_call 74; refine CD.out.mono ?_; rintro e w' ⟨rfl, hb⟩)
        go_roundw
        case rel =>
          first
            | exact ⟨1, D, by omega, by go_num, rfl, by omega, HF2.out, HI.out.2.trans (hb.mono HI.out.2.size)⟩
            | exact ⟨1, _, by omega, by go_num, rfl, by simp; omega, HF.out, HI.out.2.trans (hb.mono HI.out.2.size)⟩
        case measure => simp [intOf]; omega
      · have hpos : (0 : Int) < (j : Int) := by omega
        have hne : xs.take j ≠ [] := by
          intro e
          have := congrArg List.length e
          rw [List.length_take, HLN.out] at this
          simp at this; omega
        have HF : Hid (X ++ (⟨#[32]⟩ : ByteArray) ++ D = ⟨(joinP (xs.take (j + 1))).toArray⟩) := by
          show _ = _
          rw [HSN.out, joinP_snoc _ _ hne, HI.out.1, ← HD.out]
          apply ByteArray.ext; simp
        have z1 : ¬ 9223372036854775807 < X.size + 1 := by omega
        have z2 : ¬ 9223372036854775807 < X.size + 1 + D.size := by omega
        clear hne
        go_wp2_with (go_at_call 74; refine CD.out.mono ?_; rintro e w' ⟨rfl, hb⟩)
        go_roundw
        case rel => exact ⟨j + 1, _, by omega, by go_num, rfl, by rw [ByteArray.size_append, ByteArray.size_append]; show X.size + 1 + D.size ≤ _; omega, HF.out, HI.out.2.trans (hb.mono HI.out.2.size)⟩
        case measure => simp [intOf]; omega
    · obtain rfl : j = n := by omega
      have hXX : Hid (X = R) := by
        show _ = _
        rw [HI.out.1, ← HRR.out, List.take_of_length_le (by rw [HLN.out]; exact Nat.le_refl _)]
      go_wp2
      go_ret
      exact ⟨by rw [← hXX.out]; rfl, HI.out.2⟩

theorem joinP_len (xs : List Int) (h : I64 xs) : (joinP xs).length ≤ 21 * xs.length := by
  have key : ∀ ys zs : List Int, zs ++ ys = xs → zs ≠ [] → (joinP zs).length ≤ 21 * zs.length → (joinP (zs ++ ys)).length ≤ 21 * (zs ++ ys).length := by
    intro ys
    induction ys with
    | nil => intro zs _ _ hz; simpa using hz
    | cons y r ih =>
      intro zs he hne hz
      have hy := h y (by rw [← he]; simp)
      have hyl := itoaB_size y hy.1 hy.2
      have := ih (zs ++ [y]) (by rw [← he]; simp) (by simp) (by
        rw [joinP_snoc _ _ hne]
        simp only [List.length_append, List.length_cons, List.length_nil]
        omega)
      simpa using this
  cases xs with
  | nil => simp [joinP, Lib.join]
  | cons x r =>
    have hx := h x (by simp)
    have := key r [x] (by simp) (by simp) (by rw [joinP_one]; have := itoaB_size x hx.1 hx.2; simp; omega)
    simpa using this
end Go.Proofs.YtjjflbnopphciacGreatDoor

namespace Go.Proofs.YtjjflbnopphciacGreatDoor
open Go.RowKit

theorem decDigits_back (r : List UInt8) : ∀ n, r ≠ [] → (r.head? ≠ some 48 ∨ r.length ≤ 1) → Lib.decFrom 0 r = some n → r = Lib.decDigits n := by
  have key : ∀ (k : Nat) (r : List UInt8), r.length = k → ∀ n, r ≠ [] → (r.head? ≠ some 48 ∨ r.length ≤ 1) → Lib.decFrom 0 r = some n → r = Lib.decDigits n := by
    intro k
    induction k with
    | zero => intro r hl n hne; exact absurd (List.eq_nil_of_length_eq_zero hl) hne
    | succ k ih =>
      intro r hl n hne hh hd
      rcases List.eq_nil_or_concat r with e | ⟨t, b, e⟩
      · exact absurd e hne
      · rw [List.concat_eq_append] at e
        subst e
        rw [decFrom_append] at hd
        cases hm : Lib.decFrom 0 t with
        | none => rw [hm] at hd; cases hd
        | some m =>
          rw [hm] at hd
          have hd2 : Lib.decFrom m [b] = some n := hd
          rw [Lib.decFrom] at hd2
          cases hv : Lib.digitVal b with
          | none => rw [hv] at hd2; cases hd2
          | some d =>
            rw [hv] at hd2
            have hn : m * 10 + d = n := by
              have : Lib.decFrom (m * 10 + d) [] = some n := hd2
              rw [Lib.decFrom] at this
              exact Option.some.inj this
            obtain ⟨h1, h2, h3⟩ := Lib.digitVal_eq hv
            have hb : b = UInt8.ofNat (48 + d) := by
              apply UInt8.toNat_inj.1
              rw [UInt8.toNat_ofNat']
              omega
            by_cases ht : t = []
            · subst ht
              have hm0 : m = 0 := by rw [Lib.decFrom] at hm; exact (Option.some.inj hm).symm
              subst hm0
              rw [← hn, Lib.decDigits, dif_pos (by omega), List.nil_append, hb, Nat.zero_mul, Nat.zero_add]
            · have hlen : t.length = k := by simp at hl; exact hl
              have hpos : 0 < t.length := List.length_pos_iff.2 ht
              have hh1 : (t ++ [b]).head? ≠ some 48 := by
                rcases hh with h | h
                · exact h
                · rw [List.length_append, List.length_singleton] at h; omega
              have hht : t.head? ≠ some 48 := by
                have e1 : (t ++ [b]).head? = t.head? := by
                  cases t with
                  | nil => exact absurd rfl ht
                  | cons a u => rfl
                rw [e1] at hh1
                exact hh1
              have hmp := decFrom_pos hm hht ht
              have := ih t hlen m ht (.inl hht) hm
              rw [Lib.decDigits, dif_neg (by omega), show n / 10 = m by omega, show n % 10 = d by omega, ← this, hb]
  exact fun n => key r.length r rfl n

theorem digs_back {r : List UInt8} {d n : Nat} {z : Bool} (hz : z = true → r.length ≤ 1) (h : digs r d z = some n) : r = Lib.decDigits n ∧ Lib.decFrom 0 r = some n ∧ r ≠ [] ∧ r.length ≤ d ∧ (z = false → 0 < n) := by
  unfold digs at h
  split at h
  · cases h
  · rename_i h1
    have hne : r ≠ [] := fun e => h1 (.inl e)
    have hl : r.length ≤ d := by
      by_cases e : d < r.length
      · exact absurd (.inr (.inl e)) h1
      · omega
    have hh : r.head? ≠ some 48 ∨ r.length ≤ 1 := by
      cases z with
      | true => exact .inr (hz rfl)
      | false => exact .inl fun e => h1 (.inr (.inr ⟨e, rfl⟩))
    refine ⟨decDigits_back r n hne hh h, h, hne, hl, fun e => ?_⟩
    subst e
    exact decFrom_pos h (fun e => h1 (.inr (.inr ⟨e, rfl⟩))) hne

theorem atoi_minus {r : List UInt8} {n : Nat} (h : Lib.decFrom 0 r = some n) (hne : r ≠ []) : Lib.atoi (45 :: r) = some (-(n : Int)) := by
  have : Lib.decNat r = some n := by
    unfold Lib.decNat
    rw [if_neg (by cases r with | nil => exact absurd rfl hne | cons a t => simp), h]
  rw [Lib.atoi, if_pos (by decide), this]; rfl
theorem atoi_plain {r : List UInt8} {n : Nat} (h : Lib.decFrom 0 r = some n) (hne : r ≠ []) : Lib.atoi r = some (n : Int) := by
  have h2 : Lib.decNat r = some n := by
    unfold Lib.decNat
    rw [if_neg (by cases r with | nil => exact absurd rfl hne | cons a t => simp), h]
  cases r with
  | nil => exact absurd rfl hne
  | cons b t =>
    obtain ⟨d, hd⟩ := Lib.digit_of_decFrom _ _ _ h 0 b rfl
    obtain ⟨h1, h3, _⟩ := Lib.digitVal_eq hd
    have a1 : (b == 45) = false := by
      refine beq_eq_false_iff_ne.2 ?_
      rintro rfl
      have : (45 : UInt8).toNat = 45 := rfl
      omega
    have a2 : (b == 43) = false := by
      refine beq_eq_false_iff_ne.2 ?_
      rintro rfl
      have : (43 : UInt8).toNat = 43 := rfl
      omega
    rw [Lib.atoi, if_neg (by rw [a1]; decide), if_neg (by rw [a2]; decide), h2]
    rfl

/-- What the base's Number reads is written so, and Atoi reads it. -/
theorem numS_back {l : List UInt8} {d : Nat} {k : Int} (h : numS l d = some k) (hd : d ≤ 17) : l = Lib.itoa k ∧ Lib.atoiAll l = .ok k := by
  unfold numS at h
  split at h
  · rename_i hm
    cases hn : digs l.tail d false with
    | none => rw [hn] at h; cases h
    | some n =>
      rw [hn] at h
      have hk : k = -(n : Int) := (Option.some.inj h).symm
      obtain ⟨h1, h2, h3, h4, h5⟩ := digs_back (fun e => by cases e) hn
      have hp := h5 rfl
      have hl : l = 45 :: l.tail := by
        cases l with
        | nil => simp at hm
        | cons a t => simp at hm; subst hm; rfl
      have ha : Lib.atoi l = some k := by rw [hl, hk]; exact atoi_minus h2 h3
      refine ⟨?_, ?_⟩
      · rw [hk, Lib.itoa_neg n (by omega), ← h1]; exact hl
      · rw [Lib.atoiAll_short l (by rw [hl, List.length_cons]; omega), ha]; rfl
  · cases hn : digs l d (decide (l.length ≤ 1)) with
    | none => rw [hn] at h; cases h
    | some n =>
      rw [hn] at h
      have hk : k = (n : Int) := (Option.some.inj h).symm
      obtain ⟨h1, h2, h3, h4, _⟩ := digs_back (fun e => of_decide_eq_true e) hn
      refine ⟨?_, ?_⟩
      · rw [hk, Lib.itoa_nonneg n]; exact h1
      · rw [Lib.atoiAll_short l (by omega), hk, atoi_plain h2 h3]; rfl

theorem numS_intD (d : Nat) (hd : 1 ≤ d) (x : Int) (h : -(10 ^ d : Nat) < x ∧ x < (10 ^ d : Nat)) : numS (Lib.itoa x) d = some x := by
  rcases Int.lt_trichotomy x 0 with h0 | h0 | h0
  · obtain ⟨u, hu⟩ : ∃ u : Nat, x = -(u : Int) := ⟨x.natAbs, by omega⟩
    rw [hu, Lib.itoa_neg u (by omega)]
    unfold numS
    rw [if_pos (show (45 :: Lib.decDigits u).head? = some 45 from rfl), List.tail_cons]
    have hd : digs (Lib.decDigits u) d false = some u := by
      have h1 := digs_digits u d (by omega) hd
      have hne := decDigits_ne u
      have hh := decDigits_head u (by omega)
      have hl := digitsB_len u d (by omega) hd
      unfold digs
      rw [if_neg]
      · exact decFrom_digits u
      · rintro (e | e | e)
        · exact hne e
        · omega
        · exact hh e.1
    rw [hd]; rfl
  · subst h0
    have e : Lib.itoa 0 = [48] := by decide +kernel
    rw [e]
    unfold numS digs
    rw [if_neg (by decide), if_neg]
    · rfl
    · rintro (a | a | a)
      · cases a
      · simp at a; omega
      · simp at a
  · obtain ⟨u, hu⟩ : ∃ u : Nat, x = (u : Int) := ⟨x.toNat, by omega⟩
    rw [hu, Lib.itoa_nonneg u]
    unfold numS
    have hh : (Lib.decDigits u).head? ≠ some 45 := by
      intro e
      have hm : (45 : UInt8) ∈ Lib.decDigits u := List.mem_of_mem_head? e
      have := decDigits_all u 45 hm
      revert this; decide
    rw [if_neg hh, digs_digits u d (by omega) hd]
    rfl
theorem itoaG_all (n : Int) : ∀ b ∈ Lib.itoa n, b ≠ 32 := by
  intro b hb
  have := itoa_all n b hb
  rintro rfl; revert this; decide
theorem pcs_joinG (xs : List Int) (h : xs ≠ []) : pcs 32 (joinP xs) = xs.map Lib.itoa := by
  refine pcs_join 32 _ (by simpa using h) ?_
  intro x hx b hb
  obtain ⟨y, _, rfl⟩ := List.mem_map.1 hx
  exact itoaG_all y b hb


/-- An unsigned number of at most d digits. -/
def numU (l : List UInt8) (d : Nat) : Option Int := match numS l d with
  | some k => if 0 ≤ k then some k else none
  | none => none
theorem numU_some {l : List UInt8} {d : Nat} {k : Int} : numU l d = some k ↔ numS l d = some k ∧ 0 ≤ k := by
  unfold numU
  cases h : numS l d with
  | none => simp
  | some j =>
    show (if 0 ≤ j then some j else none) = some k ↔ _
    by_cases e : 0 ≤ j
    · rw [if_pos e]
      constructor
      · intro h2; have := Option.some.inj h2; subst this; exact ⟨rfl, e⟩
      · rintro ⟨h2, _⟩; exact h2
    · rw [if_neg e]
      constructor
      · intro h2; cases h2
      · rintro ⟨h2, h3⟩; have := Option.some.inj h2; omega
theorem numU_bd {l : List UInt8} {d : Nat} {k : Int} (h : numU l d = some k) : 0 ≤ k ∧ k < (10 ^ d : Nat) := by
  obtain ⟨h1, h2⟩ := numU_some.1 h
  exact ⟨h2, (numS_bd h1).2⟩
theorem numU_itoa (d : Nat) (hd : 1 ≤ d) (x : Int) (h : 0 ≤ x ∧ x < (10 ^ d : Nat)) : numU (Lib.itoa x) d = some x :=
  numU_some.2 ⟨numS_intD d hd x (by omega), h.1⟩
theorem numU_len {l : List UInt8} {d : Nat} {k : Int} (h : numU l d = some k) : l.length ≤ d ∧ l ≠ [] := by
  obtain ⟨h1, h2⟩ := numU_some.1 h
  unfold numS at h1
  split at h1
  · cases hn : digs l.tail d false with
    | none => rw [hn] at h1; cases h1
    | some n =>
      rw [hn] at h1
      have h5 := (digs_back (fun e => by cases e) hn).2.2.2.2 rfl
      have h6 : -(n : Int) = k := Option.some.inj h1
      omega
  · cases hn : digs l d (decide (l.length ≤ 1)) with
    | none => rw [hn] at h1; cases h1
    | some n =>
      obtain ⟨_, _, h3, h4, _⟩ := digs_back (fun e => of_decide_eq_true e) hn
      exact ⟨h4, h3⟩
theorem numU_minus {l : List UInt8} {d : Nat} (h : l.head? = some 45) : numU l d = none := by
  cases hk : numU l d with
  | none => rfl
  | some k =>
    obtain ⟨h1, h2⟩ := numU_some.1 hk
    unfold numS at h1
    rw [if_pos h] at h1
    cases hn : digs l.tail d false with
    | none => rw [hn] at h1; cases h1
    | some n =>
      rw [hn] at h1
      have h5 := (digs_back (fun e => by cases e) hn).2.2.2.2 rfl
      have h6 : -(n : Int) = k := Option.some.inj h1
      omega
theorem numS_plain {l : List UInt8} {d : Nat} (h : l.head? ≠ some 45) : numS l d = numU l d := by
  cases hk : numS l d with
  | none => unfold numU; rw [hk]
  | some k =>
    unfold numU
    rw [hk]
    unfold numS at hk
    rw [if_neg h] at hk
    cases hn : digs l d (decide (l.length ≤ 1)) with
    | none => rw [hn] at hk; cases hk
    | some n =>
      rw [hn] at hk
      have h6 : (n : Int) = k := Option.some.inj hk
      show _ = if 0 ≤ k then some k else none
      rw [if_pos (by omega)]
/-- A number behind a minus. -/
theorem numS_minus (r : List UInt8) (d : Nat) : numS (45 :: r) d = match numU r d with | some k => if k = 0 then none else some (-k) | none => none := by
  unfold numS
  rw [if_pos (show (45 :: r).head? = some 45 from rfl), List.tail_cons]
  cases hn : digs r d false with
  | some n =>
    obtain ⟨h1, h2, h3, h4, h5⟩ := digs_back (fun e => by cases e) hn
    have hp := h5 rfl
    have hb := digs_bd hn
    have hu : numU r d = some (n : Int) := by
      have h1' := h1
      rw [h1, ← Lib.itoa_nonneg n]
      refine numU_itoa d ?_ _ (by omega)
      rcases Nat.eq_zero_or_pos d with e | e
      · subst e; exact absurd (List.eq_nil_of_length_eq_zero (by omega)) h3
      · exact e
    rw [hu]
    show some (-(n : Int)) = if (n : Int) = 0 then none else some (-(n : Int))
    rw [if_neg (by omega)]
  | none =>
    cases hu : numU r d with
    | none => rfl
    | some k =>
      show none = if k = 0 then none else some (-k)
      by_cases hk : k = 0
      · rw [if_pos hk]
      · exfalso
        obtain ⟨h1, h2⟩ := numU_some.1 hu
        have hl := numU_len hu
        have hne : r.head? ≠ some 45 := fun e => by rw [numU_minus e] at hu; cases hu
        unfold numS at h1
        rw [if_neg hne] at h1
        cases hn2 : digs r d (decide (r.length ≤ 1)) with
        | none => rw [hn2] at h1; cases h1
        | some n =>
          rw [hn2] at h1
          have hkn : (n : Int) = k := Option.some.inj h1
          obtain ⟨e1, e2, e3, e4, _⟩ := digs_back (fun e => of_decide_eq_true e) hn2
          unfold digs at hn
          split at hn
          · rename_i hc
            rcases hc with hc | hc | hc
            · exact e3 hc
            · omega
            · have hd0 : n = 0 := by
                by_cases e0 : n = 0
                · exact e0
                · have := decDigits_head n (by omega)
                  rw [← e1] at this
                  exact absurd hc.1 this
              apply hk
              rw [← hkn, hd0]; rfl
          · rw [e2] at hn; cases hn
def negU : Option Int → Option Int
  | some k => if k = 0 then none else some (-k)
  | none => none
theorem numS_neg (r : List UInt8) (d : Nat) : numS (45 :: r) d = negU (numU r d) := by
  rw [numS_minus]
  cases numU r d <;> rfl
end Go.Proofs.YtjjflbnopphciacGreatDoor

