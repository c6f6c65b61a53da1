import Derived.Test.YtepcciodhppbnaaE14
namespace Go.Proofs.Ytepcciodhppbnaa
open Go.RowKit

open Go.Shelf
attribute [local go_sem] Oper.semAt_some

def nodesOk (ns : List (Int × Int)) : Prop := ∀ i, i + 1 < ns.length → (0 ≤ (ns.getD i (0, 0)).1 ∧ (ns.getD i (0, 0)).1 < (ns.getD (i + 1) (0, 0)).1 ∧ (ns.getD (i + 1) (0, 0)).1 ≤ 1000000) ∧ 0 ≤ (ns.getD i (0, 0)).2 ∧ (ns.getD i (0, 0)).2 < (ns.getD (i + 1) (0, 0)).2 ∧ (ns.getD (i + 1) (0, 0)).2 ≤ 1000000000000
theorem nodeE_zero {b x : Int × Int} (h : nodeE b x = 0) : 0 ≤ x.1 ∧ x.1 ≤ 1000000 ∧ 0 ≤ x.2 ∧ x.2 ≤ 1000000000000 ∧ b.1 < x.1 ∧ b.2 < x.2 := by
  have h1 := rngE_zero (firstNZ_zero h (rngE 0 1000000 [x.1]) (by simp))
  have h2 := rngE_zero (firstNZ_zero h (rngE 0 1000000000000 [x.2]) (by simp))
  have h3 := firstNZ_zero h (if x.1 ≤ b.1 ∨ x.2 ≤ b.2 then 9 else 0) (by simp)
  by_cases h4 : x.1 ≤ b.1 ∨ x.2 ≤ b.2
  · rw [if_pos h4] at h3; cases h3
  · omega
theorem mapGo_ok : ∀ (l : List (Int × Int)) (b : Int × Int) (k : Nat), (mapGo b k l).2 = 0 → ∀ i, i < l.length → nodeE (if i = 0 then b else l.getD (i - 1) (0, 0)) (l.getD i (0, 0)) = 0
  | [], _, _, _, i, hi => by simp at hi
  | x :: l, b, k, h, i, hi => by
    unfold mapGo at h
    by_cases h0 : nodeE b x = 0
    · rw [if_pos h0] at h
      cases i with
      | zero => simpa using h0
      | succ i =>
        have := mapGo_ok l x (k + 1) h i (by simpa using hi)
        cases i with
        | zero => simpa using this
        | succ i => simpa using this
    · rw [if_neg h0] at h; exact absurd h h0
theorem mapR_ok {ns : List (Int × Int)} (h : (mapR ns).2 = 0) : nodesOk ns ∧ 2 ≤ ns.length ∧ ns.length ≤ 20 := by
  unfold mapR at h
  by_cases h1 : ns.length < 2
  · rw [if_pos h1] at h; cases h
  · rw [if_neg h1] at h
    by_cases h2 : 20 < ns.length
    · rw [if_pos h2] at h; cases h
    · rw [if_neg h2] at h
      refine ⟨fun i hi => ?_, by omega, by omega⟩
      have a := nodeE_zero (mapGo_ok ns _ _ h i (by omega))
      have b := nodeE_zero (mapGo_ok ns _ _ h (i + 1) hi)
      rw [if_neg (Nat.succ_ne_zero i), Nat.add_sub_cancel] at b
      omega

/-- The first piece that has a time. -/
def findP (t : Int) (ns : List (Int × Int)) : Nat → Nat → Option Nat
  | _, 0 => none
  | i, k + 1 => if holdsT t ns i = true then some i else findP t ns (i + 1) k
theorem findP_some {t : Int} {ns : List (Int × Int)} : ∀ {k i j : Nat}, (∀ x, i ≤ x → x < i + j → holdsT t ns x = false) → j < k → holdsT t ns (i + j) = true → findP t ns i k = some (i + j)
  | 0, _, _, _, h, _ => by omega
  | k + 1, i, 0, _, _, h => by unfold findP; rw [if_pos (by simpa using h)]; rfl
  | k + 1, i, j + 1, hp, hj, h => by
    unfold findP
    rw [if_neg (by rw [hp i (by omega) (by omega)]; simp)]
    have := findP_some (t := t) (ns := ns) (k := k) (i := i + 1) (j := j) (fun x h1 h2 => hp x (by omega) (by omega)) (by omega) (by rw [← h]; congr 1; omega)
    rw [this]; congr 1; omega
theorem findP_none {t : Int} {ns : List (Int × Int)} : ∀ {k i : Nat}, (∀ x, i ≤ x → x < i + k → holdsT t ns x = false) → findP t ns i k = none
  | 0, _, _ => rfl
  | k + 1, i, hp => by
    unfold findP
    rw [if_neg (by rw [hp i (by omega) (by omega)]; simp)]
    exact findP_none fun x h1 h2 => hp x (by omega) (by omega)
/-- The piece with a time, as the function gives it. -/
def pieceRes (t : Int) (ns : List (Int × Int)) : Value × Int :=
  if (mapR ns).2 = 0 then (match findP t ns 0 (ns.length - 1) with | some i => (pieceV ns i, 0) | none => (.agg #[.int .i64 0, .int .i64 0, .int .i64 0, .int .i64 0], 2)) else (.agg #[.int .i64 0, .int .i64 0, .int .i64 0, .int .i64 0], (mapR ns).2)

theorem piecesOf_any (A : Option Addr) (m c : Nat) (w : World) :
    Calls Try.prog 104 #[.agg #[.slice A m c]] w fun e w' => e = .returned (.func (.func 136) #[] #[.pointer (some ⟨w.heap.size, 0, none⟩)]) ∧ w' = w.alloc (.cells #[.slice A m c] 24) := by
  go_enter Try.func104, Try.ntmps104
  go_wp2
  go_ret
  exact ⟨rfl, rfl⟩
def pieceA (ns : List (Int × Int)) (i : Nat) : Array Value := #[.int .i64 (ns.getD i (0, 0)).1, .int .i64 (ns.getD i (0, 0)).2, .int .i64 (ns.getD (i + 1) (0, 0)).1, .int .i64 (ns.getD (i + 1) (0, 0)).2]
theorem pieceV_eq (ns : List (Int × Int)) (i : Nat) : pieceV ns i = .agg (pieceA ns i) := rfl
/-- The boxes of pieceWith. -/
structure PInv (w : World) (A : Option Addr) (m c B : Nat) (r : Array Value) (ev : Int) (W : World) : Prop where
  bm : Bk W w.heap.size 24 #[.slice A m c]
  bf : Bk W (w.heap.size + 1) 132 #[.func (.func 99) #[] #[.pointer (some ⟨B, 0, none⟩)]]
  br : Bk W (w.heap.size + 2) 129 r
  be : Bk W (w.heap.size + 3) 30 #[.int .i64 ev]
  bel : Below w.heap.size w W
theorem PInv.later {w W w' : World} {A : Option Addr} {m c B : Nat} {r : Array Value} {ev : Int} (h : PInv w A m c B r ev W) (hb : Below W.heap.size W w') : PInv w A m c B r ev w' :=
  ⟨h.bm.later hb, h.bf.later hb, h.br.later hb, h.be.later hb, h.bel.trans (hb.mono h.bel.size)⟩
theorem PInv.own {w : World} {A : Option Addr} {m c B : Nat} {r : Array Value} {ev : Int} (n : Nat) (hn : w.heap.size ≤ n) : OwnFrom n (fun (_ : Unit) W => PInv w A m c B r ev W) := fun s X Y row hs hg hr => by
  have k : ∀ {g : Nat} {t : TypeId} {cs : Array Value}, Bk X g t cs → Bk Y g t cs := fun {g t cs} h => Bk.grown h hg (fun e' => by
    obtain ⟨_, o, ho, hc⟩ := hr g e'.symm
    rw [show X.heap[g]? = _ from h] at ho; cases ho; cases hc)
  exact ⟨k hs.bm, k hs.bf, k hs.br, k hs.be, hs.bel.grown hg hs.bel.size (fun k e => by have := (hr k e).1; omega)⟩

theorem PInv.set {w W : World} {A : Option Addr} {m c B : Nat} {a0 a1 a2 a3 : Value} {ev : Int} (h : PInv w A m c B #[a0, a1, a2, a3] ev W) (b0 b1 b2 b3 : Value) (e : Int) :
    PInv w A m c B #[b0, b1, b2, b3] e (((((W.setCell ⟨w.heap.size + 2, 0, none⟩ b0).setCell ⟨w.heap.size + 2, 1, none⟩ b1).setCell ⟨w.heap.size + 2, 2, none⟩ b2).setCell ⟨w.heap.size + 2, 3, none⟩ b3).setCell ⟨w.heap.size + 3, 0, none⟩ (.int .i64 e)) := by
  refine ⟨?_, ?_, ?_, ?_, ?_⟩
  · exact ((((h.bm.far _ (by simp) _).far _ (by simp) _).far _ (by simp) _).far _ (by simp) _).far _ (by simp) _
  · exact ((((h.bf.far _ (by simp) _).far _ (by simp) _).far _ (by simp) _).far _ (by simp) _).far _ (by simp) _
  · exact ((((h.br.set_ 0 b0).set_ 1 b1).set_ 2 b2).set_ 3 b3).far _ (by simp) _
  · exact (((((h.be.far _ (by simp) _).far _ (by simp) _).far _ (by simp) _).far _ (by simp) _).set_ 0 _)
  · exact ((((h.bel.setCell (p := ⟨w.heap.size + 2, 0, none⟩) (by simp) _).setCell (p := ⟨w.heap.size + 2, 1, none⟩) (by simp) _).setCell (p := ⟨w.heap.size + 2, 2, none⟩) (by simp) _).setCell (p := ⟨w.heap.size + 2, 3, none⟩) (by simp) _).setCell (p := ⟨w.heap.size + 3, 0, none⟩) (by simp) _

theorem pre_idx {N : Nat} {l : List Nat} (h : l <+: List.range N) (i : Nat) (hi : i < l.length) : l[i] = i := by
  rw [h.getElem hi]; simp
theorem pre_last {m : Nat} {P : Nat → Prop} {q : List (Pc m)} {x : Pc m} (h : (q ++ [x]).map (·.1) <+: List.range (m - 1)) (hq : ∀ y ∈ q, P y.1) : x.1 = q.length ∧ q.length < m - 1 ∧ ∀ i, i < q.length → P i := by
  have h1 := pre_idx h q.length (by simp)
  have h2 := h.length_le
  simp at h1 h2
  refine ⟨h1, by omega, fun i hi => ?_⟩
  have h3 := pre_idx h i (by simp; omega)
  rw [List.getElem_map, List.getElem_append_left hi] at h3
  have h4 := hq _ (List.getElem_mem hi)
  rw [h3] at h4
  exact h4
theorem all_idx {m : Nat} {P : Nat → Prop} {q : List (Pc m)} (h : q.map (·.1) = List.range (m - 1)) (hq : ∀ y ∈ q, P y.1) : ∀ i, i < m - 1 → P i := by
  intro i hi
  have : i ∈ q.map (·.1) := by rw [h]; simpa using hi
  obtain ⟨y, hy, rfl⟩ := List.mem_map.1 this
  exact hq y hy

set_option maxRecDepth 100000 in
set_option maxHeartbeats 4000000 in
theorem pieceWith_any (A : Option Addr) (m c : Nat) (ns : List (Int × Int)) (t : Int) (B : Nat) (w : World) (hr : RdN w A m ns) (hm : m ≤ 1000000) (hB : w.cell? ⟨B, 0, none⟩ = some (.int .i64 t)) (hBl : B < w.heap.size) :
    Calls Try.prog 85 #[.agg #[.slice A m c], .func (.func 99) #[] #[.pointer (some ⟨B, 0, none⟩)]] w fun e w' => e = .returned (.tuple #[(pieceRes t ns).1, .int .i64 (pieceRes t ns).2]) ∧ Below w.heap.size w w' := by
  have HR := Lib.hid hr
  have HBt := Lib.hid hB
  have HL : Hid (ns.length = m) := hr.1
  have HP : Hid (pieceRes t ns = if (mapR ns).2 = 0 then (match findP t ns 0 (m - 1) with | some i => (pieceV ns i, 0) | none => (.agg #[.int .i64 0, .int .i64 0, .int .i64 0, .int .i64 0], 2)) else (.agg #[.int .i64 0, .int .i64 0, .int .i64 0, .int .i64 0], (mapR ns).2)) := by show _ = _; unfold pieceRes; rw [hr.1]
  have CM : Hid (∀ w', Below w.heap.size w w' → Calls Try.prog 103 #[.agg #[.slice A m c]] w' fun e w'' => e = .returned (.int .i64 (mapR ns).2) ∧ Below w'.heap.size w' w'') := fun w' hb => checkMap_any A m c ns w' (hr.below hb) hm
  have HMok : Hid ((mapR ns).2 = 0 → nodesOk ns ∧ 2 ≤ ns.length ∧ ns.length ≤ 20) := fun h => mapR_ok h
  obtain ⟨E, hE⟩ : ∃ E, (mapR ns).2 = E := ⟨_, rfl⟩
  rw [hE] at HP CM HMok
  clear hr hB hE
  refine (callsIn_wide (n := 6)).1 ?_
  refine callsIn_of_wp_marks Try.func85 rfl trivial ?_ rfl
  simp only [Try.ntmps85, List.size_toArray, List.length_cons, List.length_nil, Nat.reduceAdd, Nat.reduceSub, Array.replicate_succ, Array.replicate_zero, List.push_toArray, List.append_toArray, List.nil_append, List.cons_append]
  gi_wp2_with fail
  have hP0 : PInv w A m c B #[.int .i64 0, .int .i64 0, .int .i64 0, .int .i64 0] 0 ((((w.alloc (.cells #[.slice A m c] 24)).alloc (.cells #[.func (.func 99) #[] #[.pointer (some ⟨B, 0, none⟩)]] 132)).alloc (.cells #[.int .i64 0, .int .i64 0, .int .i64 0, .int .i64 0] 129)).alloc (.cells #[.int .i64 0] 30)) := by
    refine ⟨?_, ?_, ?_, ?_, by go_grown⟩
    · exact (((Bk.new w _ _).alloc _).alloc _).alloc _
    · have h := ((Bk.new (w.alloc (.cells #[.slice A m c] 24)) 132 #[.func (.func 99) #[] #[.pointer (some ⟨B, 0, none⟩)]]).alloc (.cells #[.int .i64 0, .int .i64 0, .int .i64 0, .int .i64 0] 129)).alloc (.cells #[.int .i64 0] 30)
      simpa using h
    · have h := (Bk.new ((w.alloc (.cells #[.slice A m c] 24)).alloc (.cells #[.func (.func 99) #[] #[.pointer (some ⟨B, 0, none⟩)]] 132)) 129 #[.int .i64 0, .int .i64 0, .int .i64 0, .int .i64 0]).alloc (.cells #[.int .i64 0] 30)
      simpa using h
    · have h := Bk.new (((w.alloc (.cells #[.slice A m c] 24)).alloc (.cells #[.func (.func 99) #[] #[.pointer (some ⟨B, 0, none⟩)]] 132)).alloc (.cells #[.int .i64 0, .int .i64 0, .int .i64 0, .int .i64 0] 129)) 30 #[.int .i64 0]
      simpa using h
  have HP0 := Lib.hid hP0
  clear hP0
  refine ⟨trivial, ?_⟩
  refine (callsIn_wide.2 (CM.out _ HP0.out.bel)).mono ?_
  rintro e w1 ⟨rfl, hb1⟩
  have hP1 := HP0.out.later hb1
  have HP1 := Lib.hid hP1
  clear HP0 hb1 CM
  obtain ⟨m0, _⟩ := bk1 hP1.bm
  obtain ⟨f0, _⟩ := bk1 hP1.bf
  obtain ⟨r0, r1, r2, r3, z0, z1, z2, z3⟩ := bk4 hP1.br
  obtain ⟨e0, y0⟩ := bk1 hP1.be
  have hsz1 : w.heap.size + 4 ≤ w1.heap.size := by have := hP1.be.lt; omega
  clear hP1
  gi_wp2_with fail
  · have h0 := ne0_of (F := E) (by assumption)
    have HPV : Hid (pieceRes t ns = (.agg #[.int .i64 0, .int .i64 0, .int .i64 0, .int .i64 0], E)) := by show _ = _; rw [HP.out, if_neg h0]
    refine ⟨.tuple #[.agg #[.int .i64 0, .int .i64 0, .int .i64 0, .int .i64 0], .int .i64 E], ?_, ?_, ?_⟩
    · simp [results, Try.f85, go_sem, r0, r1, r2, r3, z0, z1, z2, z3, e0, y0]
    · rw [HPV.out]
    · have := HP1.out.bel
      go_grown
  · have h0 := eq0_of (F := E) (by assumption)
    subst h0
    obtain ⟨hok, hl2, hl20⟩ := HMok.out rfl
    have HOK := Lib.hid hok
    have HPV : Hid (pieceRes t ns = (match findP t ns 0 (m - 1) with | some i => (pieceV ns i, 0) | none => (.agg #[.int .i64 0, .int .i64 0, .int .i64 0, .int .i64 0], 2))) := by show _ = _; rw [HP.out, if_pos rfl]
    clear hok HMok HP
    refine ⟨trivial, ?_⟩
    refine (callsIn_wide.2 (piecesOf_any A m c w1)).mono ?_
    rintro e w2 ⟨rfl, hw2⟩
    have HP2 := Lib.hid (HP1.out.later (w' := w2) (by rw [hw2]; exact below1 _ _))
    have HM2 : Hid (Bk w2 w1.heap.size 24 #[.slice A m c]) := by show Bk _ _ _ _; rw [hw2]; exact Bk.new _ _ _
    have hz2 : w2.heap.size = w1.heap.size + 1 := by rw [hw2]; simp
    have HR2 := Lib.hid (HR.out.below HP2.out.bel)
    clear hw2 HP1 m0 f0 r0 r1 r2 r3 z0 z1 z2 z3 e0 y0
    gi_wp2_with fail
    have hm2 : w2.cell? ⟨w1.heap.size, 0, none⟩ = some (.slice A m c) := (bk1 HM2.out).1
    refine wpIn_rangeFunc_ownH (α := Pc m) rfl (by omega) (gf := 136) (lb := #[.pointer (some ⟨w1.heap.size, 0, none⟩)]) rfl trivial (enters_of Try.func136 (by kernel_rfl) rfl)
      (pieces_stops Fence.wide _ trivial rfl (by omega) w1.heap.size w2.heap.size A m c ns w2 (by omega) (Nat.le_refl _) hm HR2.out hm2) belowK_t (belowK_b (Nat.le_refl _)) (Below.refl _ _) (fun _ => rfl)
      (fun pre W => (∀ x ∈ pre, holdsT t ns x.1 = false) ∧ PInv w A m c B #[.int .i64 0, .int .i64 0, .int .i64 0, .int .i64 0] 0 W ∧ w2.heap.size ≤ W.heap.size)
      (fun cc pre W => cc = .ret ∧ (∃ q x, pre = q ++ [x] ∧ (∀ y ∈ q, holdsT t ns y.1 = false) ∧ holdsT t ns x.1 = true ∧ PInv w A m c B (pieceA ns x.1) 0 W))
      (fun s X Y row hs hg hr => ⟨hs.1, PInv.own w2.heap.size (by have := HP2.out.be.lt; omega) () X Y row hs.2.1 hg hr, Nat.le_trans hs.2.2 hg.size⟩)
      (fun cc s X Y row hs hg hr => ⟨hs.1, by obtain ⟨q, x, h1, h2, h3, h4⟩ := hs.2; exact ⟨q, x, h1, h2, h3, PInv.own w2.heap.size (by have := HP2.out.be.lt; omega) () X Y row h4 hg hr⟩⟩)
      ⟨by simp, HP2.out, Nat.le_refl _⟩
      (fun x a' W => ∃ Bx, w2.heap.size ≤ Bx ∧ Bk W Bx 129 (pieceA ns x.1) ∧ a' = { tmps := #[.agg #[.slice A m c], .func (.func 99) #[] #[.pointer (some ⟨B, 0, none⟩)], .pointer (some ⟨w.heap.size, 0, none⟩), .pointer (some ⟨w.heap.size + 1, 0, none⟩), .pointer (some ⟨w.heap.size + 1 + 1, 0, none⟩), .pointer (some ⟨w.heap.size + 1 + 1 + 1, 0, none⟩), .int .i64 0, undef, .pointer (some ⟨Bx, 0, none⟩), .agg #[.slice A m c], .int .i64 0, .int .i64 0, .bool false, undef, undef, .agg #[.slice A m c], .func (.func 136) #[] #[.pointer (some ⟨w1.heap.size, 0, none⟩)], .int .i64 (x.1 : Nat), pieceV ns x.1, undef, undef, undef, undef, undef], defers := [] })
      (fun x a' s X Y row hs hg hr => by
        obtain ⟨Bx, h1, h2, h3⟩ := hs
        exact ⟨Bx, h1, Bk.grown h2 hg (fun e' => by obtain ⟨_, o, ho, hc⟩ := hr Bx e'.symm; rw [show X.heap[Bx]? = _ from h2] at ho; cases ho; cases hc), h3⟩)
      ?assign ?body ?done ?stop
    case assign =>
      rintro l pre x W K hi hK
      obtain ⟨h1, h2, h3⟩ := hi
      rw [pieceV_eq] at hK ⊢
      unfold pieceA at hK ⊢
      gi_wp2
      exact hK _ _ ((KeepsOthers.alloc _ _).from _) ((Below.refl _ W).alloc h3 _) ⟨h1, h2.later (below1 _ _), by simp; omega⟩ ⟨W.heap.size, h3, Bk.new _ _ _, rfl⟩
    case body =>
      rintro l pre x a' W hl ⟨r, hr⟩ ⟨hp, hP, hs⟩ ⟨Bx, hBx, bX, rfl⟩ _
      have hBW : W.cell? ⟨B, 0, none⟩ = some (.int .i64 t) := (hP.bel.cell (p := ⟨B, 0, none⟩) hBl).trans HBt.out
      have hBW2 : B < W.heap.size := by have := hP.bel.size; omega
      have CH : Hid (Calls Try.prog 99 #[pieceV ns x.1, .pointer (some ⟨B, 0, none⟩)] W fun e w' => e = .returned (.bool (holdsT t ns x.1)) ∧ w' = W.alloc (.cells (pieceA ns x.1) 129)) := posAt1_any _ _ _ _ t B W hBW hBW2
      obtain ⟨bb, hbb⟩ : ∃ bb, holdsT t ns x.1 = bb := ⟨_, rfl⟩
      rw [hbb] at CH
      have HBB := Lib.hid hbb
      have HP0 := Lib.hid hP
      have HPre := Lib.hid hp
      have HX0 := Lib.hid bX
      obtain ⟨f0, _⟩ := bk1 hP.bf
      rw [pieceV_eq] at CH ⊢
      have HPA : Hid (pieceA ns x.1 = pieceA ns x.1) := rfl
      obtain ⟨⟨x1, x2⟩, hx⟩ : ∃ p, ns.getD x.1 (0, 0) = p := ⟨_, rfl⟩
      obtain ⟨⟨y1, y2⟩, hy⟩ : ∃ p, ns.getD (x.1 + 1) (0, 0) = p := ⟨_, rfl⟩
      have hpa : pieceA ns x.1 = #[.int .i64 x1, .int .i64 x2, .int .i64 y1, .int .i64 y2] := by unfold pieceA; rw [hx, hy]
      rw [hpa] at CH bX HX0 ⊢
      have HPE := Lib.hid hpa
      clear hpa hx hy hbb hp hBW
      obtain ⟨b0, b1, b2, b3, _, _, _, _⟩ := bk4 bX
      clear hP bX
      cases bb
      · gi_wp2_with (refine ⟨trivial, ?_⟩; gi_at_call 99; refine (CallsIn.inRound l (callsIn_wide.2 CH.out)).mono ?_; rintro e w' ⟨rfl, rfl⟩)
        exact ⟨(KeepsOthers.alloc _ _).from _, (Below.refl _ W).alloc hs _, ⟨fun y hy => (List.mem_append.1 hy).elim (HPre.out y) (fun e => by simp at e; subst e; exact HBB.out), HP0.out.later (below1 _ _), by simp; omega⟩⟩
      · have hP1 := HP0.out.later (below1 W (.cells #[.int .i64 x1, .int .i64 x2, .int .i64 y1, .int .i64 y2] 129))
        have hX1 := HX0.out.alloc (.cells #[.int .i64 x1, .int .i64 x2, .int .i64 y1, .int .i64 y2] 129)
        have HKO := Lib.hid ((KeepsOthers.alloc W (.cells #[.int .i64 x1, .int .i64 x2, .int .i64 y1, .int .i64 y2] 129)))
        gi_wp2_with fail
        refine ⟨trivial, ?_⟩
        refine (CallsIn.inRound l (callsIn_wide.2 CH.out)).mono ?_
        rintro e w' ⟨rfl, hw'⟩
        rw [← hw'] at hP1 hX1 HKO
        have HP1 := Lib.hid hP1
        clear hw' b0 b1 b2 b3 f0
        obtain ⟨b0, b1, b2, b3, _, _, _, _⟩ := bk4 hX1
        obtain ⟨r0, r1, r2, r3, z0, z1, z2, z3⟩ := bk4 hP1.br
        obtain ⟨e0, y0⟩ := bk1 hP1.be
        have hne : ¬ Bx = w.heap.size + 2 := by have := HP2.out.be.lt; omega
        clear hP1 hX1
        gi_wp2
        refine ⟨?_, rfl, pre, x, rfl, HPre.out, HBB.out, ?_⟩
        · exact (((((HKO.out.trans (KeepsOthers.setCell _ _ _)).trans (KeepsOthers.setCell _ _ _)).trans (KeepsOthers.setCell _ _ _)).trans (KeepsOthers.setCell _ _ _)).trans (KeepsOthers.setCell _ _ _)).from _
        · rw [HPE.out]
          exact HP1.out.set _ _ _ _ 0
    case done =>
      rintro D ys W hD hys ⟨hp, hP, hs⟩ hK
      obtain ⟨r0, r1, r2, r3, z0, z1, z2, z3⟩ := bk4 hP.br
      obtain ⟨e0, y0⟩ := bk1 hP.be
      have HP0 := Lib.hid hP
      have HF : Hid (findP t ns 0 (m - 1) = none) := findP_none fun x _ h => all_idx (P := fun i => holdsT t ns i = false) hys hp x (by omega)
      clear hP hp hys
      have HK := Lib.hid hK
      clear hK
      gi_wp2
      have hPf := HP0.out.set (.int .i64 0) (.int .i64 0) (.int .i64 0) (.int .i64 0) 2
      have hK' := (((((KeepsOthers.setCell W ⟨w.heap.size + 2, 0, none⟩ (.int .i64 0)).trans (KeepsOthers.setCell _ ⟨w.heap.size + 2, 1, none⟩ (.int .i64 0))).trans (KeepsOthers.setCell _ ⟨w.heap.size + 2, 2, none⟩ (.int .i64 0))).trans (KeepsOthers.setCell _ ⟨w.heap.size + 2, 3, none⟩ (.int .i64 0))).trans (KeepsOthers.setCell _ ⟨w.heap.size + 3, 0, none⟩ (.int .i64 2))).same D _ HK.out rfl
      refine ⟨by simp, .inl ⟨_, _, rfl, run_takeDeferred hK', ?_⟩⟩
      have hPg := PInv.own w2.heap.size (by have := HP2.out.be.lt; omega) () _ _ (some D) hPf (grownBy_putObj' _ D (.deferred none)) (fun r e => by cases e; exact ⟨hD, _, hK', rfl⟩)
      clear r0 r1 r2 r3 z0 z1 z2 z3 e0 y0
      obtain ⟨r0, r1, r2, r3, _, _, _, _⟩ := bk4 hPg.br
      obtain ⟨e0, _⟩ := bk1 hPg.be
      refine ⟨.tuple #[.agg #[.int .i64 0, .int .i64 0, .int .i64 0, .int .i64 0], .int .i64 2], ?_, ?_, hPg.bel⟩
      · simp [results, Try.f85, go_sem, r0, r1, r2, r3, e0]
      · rw [HPV.out, HF.out]
    case stop =>
      rintro D cc pre W hD hpre ⟨rfl, q, x, rfl, hq, hx, hP⟩ hK
      obtain ⟨h1, h2, h3⟩ := pre_last (P := fun i => holdsT t ns i = false) hpre hq
      have HF : Hid (findP t ns 0 (m - 1) = some x.1) := by
        show _ = _
        rw [findP_some (j := q.length) (fun y _ hy => h3 y (by omega)) h2 (by rw [Nat.zero_add, ← h1]; exact hx), h1, Nat.zero_add]
      have HP0 := Lib.hid hP
      have HK := Lib.hid hK
      clear hP hK hq h1 h2 h3 hpre
      gi_wp2
      refine ⟨by simp, .inl ⟨_, _, rfl, run_takeDeferred HK.out, ?_⟩⟩
      have hPg := PInv.own w2.heap.size (by have := HP2.out.be.lt; omega) () _ _ (some D) HP0.out (grownBy_putObj' _ D (.deferred none)) (fun r e => by cases e; exact ⟨hD, _, HK.out, rfl⟩)
      obtain ⟨r0, r1, r2, r3, _, _, _, _⟩ := bk4 hPg.br
      obtain ⟨e0, _⟩ := bk1 hPg.be
      refine ⟨.tuple #[pieceV ns x.1, .int .i64 0], ?_, ?_, hPg.bel⟩
      · unfold pieceV
        simp [results, Try.f85, go_sem, r0, r1, r2, r3, e0]
      · rw [HPV.out, HF.out]

end Go.Proofs.Ytepcciodhppbnaa
