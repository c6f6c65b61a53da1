import Derived.Test.YtmeddnpahkigeaaDoorW75
import Derived.RangeFuncWrites
namespace Go.Proofs.YtmeddnpahkigeaaDoor
open Go.RowKit
open Go.Shelf
attribute [local go_sem] Oper.semAt_some

/-- A part of a signal by its index. -/
abbrev Part (N : Nat) := { i : Nat // i < N }

theorem chunk_stops (F : Fence) (nf : Nat) (hf : F.fn 75) (hro : F.round = none) (hn : 1 ≤ nf) (Bs Bn : Nat) (A : Option Addr) (n cp : Nat) (hn2 : n ≤ 1000000) (hcp : n ≤ cp) (hcp2 : cp ≤ 9223372036854775807) (w0 : World)
    (hBs : w0.cell? ⟨Bs, 0, none⟩ = some (.slice A n cp)) (hBn : w0.cell? ⟨Bn, 0, none⟩ = some (.int .i64 8)) (hb1 : Bs < w0.heap.size) (hb2 : Bn < w0.heap.size) :
    SeqStopsK F nf Tryd.prog 75 #[.pointer (some ⟨Bs, 0, none⟩), .pointer (some ⟨Bn, 0, none⟩)] (fun x : Part (cntN n) => #[partV A n x.1]) (Kp2 Bs Bn) (fun ys => ys.map (·.1) = List.range (cntN n)) (fun pre => pre.map (·.1) <+: List.range (cntN n)) (cntN n) w0 := fun l J Jx W hW hJ _ hY h0 => by
  refine (chunk1_in F nf hf hro hn l Bs Bn A n cp hn2 hcp hcp2 (fun pre W => ∃ q : List (Part (cntN n)), q.map (·.1) = pre ∧ J q W) (fun pre W => ∃ q : List (Part (cntN n)), q.map (·.1) = pre ∧ Jx q W) ?_ ?_ W
    ((hW.cell (p := ⟨Bs, 0, none⟩) hb1).trans hBs) ((hW.cell (p := ⟨Bn, 0, none⟩) hb2).trans hBn) ⟨[], rfl, h0⟩).mono ?_
  · rintro pre x W1 ⟨q, rfl, hq⟩ hp
    have hx : x < cntN n := by
      have := hp.subset (show x ∈ q.map (·.1) ++ [x] by simp)
      simpa using this
    refine (hY q ⟨x, hx⟩ W1 hq (by have := hp.length_le; simp at this; omega)).mono ?_
    rintro e W' (⟨he, hj, hk⟩ | ⟨he, hj⟩)
    · exact .inl ⟨he, ⟨_, by simp, hj⟩, hk⟩
    · exact .inr ⟨he, ⟨_, by simp, hj⟩⟩
  · rintro pre W1 ⟨q, rfl, hq⟩
    exact ⟨q, rfl, hJ _ _ _ none hq ⟨rfl, rfl, rfl, Nat.le_refl _, fun _ _ _ => rfl⟩ (fun r e => by cases e)⟩
  · rintro e W' ⟨hv, (⟨ys, rfl, q, hq, hj⟩ | ⟨pre, hp, q, rfl, hj⟩)⟩
    · exact ⟨hv, .inl ⟨q, hq, hj⟩⟩
    · exact ⟨hv, .inr ⟨q, hp, hj⟩⟩

theorem chunk_stopsN (N : Nat) (F : Fence) (nf : Nat) (hf : F.fn 75) (hro : F.round = none) (hn : 1 ≤ nf) (Bs Bn : Nat) (A : Option Addr) (n cp : Nat) (hN : cntN n = N) (hn2 : n ≤ 1000000) (hcp : n ≤ cp) (hcp2 : cp ≤ 9223372036854775807) (w0 : World)
    (hBs : w0.cell? ⟨Bs, 0, none⟩ = some (.slice A n cp)) (hBn : w0.cell? ⟨Bn, 0, none⟩ = some (.int .i64 8)) (hb1 : Bs < w0.heap.size) (hb2 : Bn < w0.heap.size) :
    SeqStopsK F nf Tryd.prog 75 #[.pointer (some ⟨Bs, 0, none⟩), .pointer (some ⟨Bn, 0, none⟩)] (fun x : Part N => #[partV A n x.1]) (Kp2 Bs Bn) (fun ys => ys.map (·.1) = List.range N) (fun pre => pre.map (·.1) <+: List.range N) N w0 := by
  subst hN
  exact chunk_stops F nf hf hro hn Bs Bn A n cp hn2 hcp hcp2 w0 hBs hBn hb1 hb2

theorem chunk_any (A : Option Addr) (n cp : Nat) (w : World) :
    Calls Tryd.prog 45 #[.slice A n cp, .int .i64 8] w fun e w' => e = .returned (.func (.func 75) #[] #[.pointer (some ⟨w.heap.size, 0, none⟩), .pointer (some ⟨w.heap.size + 1, 0, none⟩)]) ∧ (w.alloc (.cells #[.slice A n cp] 22)).alloc (.cells #[.int .i64 8] 3) = w' := by
  go_enter Tryd.func45, Tryd.ntmps45
  go_wp2
  go_ret
  first | exact ⟨rfl, rfl⟩ | (refine ⟨?_, rfl⟩; simp)

/-- The law for a loop whose one variable is no box: what the frame is, by the slots. -/
theorem wpIn_rangeFunc_one {F : Fence} {n : Nat} {P : Program} {α : Type} {g : Operand} {p : Tmp} {assign body : Code} {Q : Exit → Act → World → Prop} {a : Act} {w : World}
    (hro : F.round = none) (h1 : 1 ≤ n) {gf : Nat} {lb : Array Value} (hg : a.eval g = .func (.func gf) #[] lb) (hFg : F.fn gf) (eg : ∀ args w, (callFunc gf args).run P w = .ok (.enter gf args) w)
    (enc : α → Value) {Kp : World → World → Prop} {S Sp : List α → Prop} {N : Nat} {w0 : World} (hseq : SeqStopsK F (n - 1) P gf lb (fun x => #[enc x]) Kp S Sp N w0)
    (hKt : ∀ {A B C : World}, Kp A B → Kp B C → Kp A C) (hKb : ∀ (W : World) (l : Nat) (o o' : Obj), w.heap.size ≤ l → W.heap[l]? = some o → o.isCells = false → o.isWalk = false → Kp W (W.putObj l o')) (hb0 : Below w0.heap.size w0 w)
    (q : Tmp)
    (I : List α → World → Prop) (Ix : Code → List α → World → Prop) (hI : OwnFrom w.heap.size I) (hIx : ∀ c, OwnFrom w.heap.size (Ix c)) (h0 : I [] w)
    (hassign : ∀ (l : Nat) (x : α) (W : World) (K : Act → World → Prop), K { tmps := (a.tmps.setIfInBounds p (enc x)).setIfInBounds q (enc x), defers := [] } W →
      assign.wpIn (F.inRound l) (n - 1 - 1) P (Exit.then K (fun _ _ _ => False)) { tmps := a.tmps.setIfInBounds p (enc x), defers := [] } W)
    (hbody : ∀ (l : Nat) (pre : List α) (x : α) (W : World), I pre W → pre.length < N → body.wpIn (F.inRound l) (n - 1 - 1) P (ownPostG w.heap.size Kp I Ix (pre ++ [x]) W) { tmps := (a.tmps.setIfInBounds p (enc x)).setIfInBounds q (enc x), defers := [] } W)
    (hdone : ∀ (D : Nat) (xs : List α) (W : World), w.heap.size ≤ D → S xs → I xs W → W.heap[D]? = some (.deferred (some [])) → Q .normal { a with defers := { target := .collected D, args := #[] } :: a.defers } W)
    (hstop : ∀ (D : Nat) (c : Code) (pre : List α) (W : World), w.heap.size ≤ D → Sp pre → Ix c pre W → W.heap[D]? = some (.deferred (some [])) → c.wpIn F n P Q { a with defers := { target := .collected D, args := #[] } :: a.defers } W) :
    (Code.rangeFunc g #[p] assign body).wpIn F n P Q a w :=
  wpIn_rangeFunc_ownG hro h1 hg hFg eg hseq hKt hKb hb0 (fun _ => rfl) I Ix hI hIx h0 (fun x => { tmps := (a.tmps.setIfInBounds p (enc x)).setIfInBounds q (enc x), defers := [] })
    (fun l x W K hK => by simpa using hassign l x W K hK) hbody hdone hstop

/-- copy into a block that is known whole, inside a fence. -/
theorem wpListIn_copy_blk {F : Fence} {n : Nat} {P : Program} (w : World) {ops : Array Oper} {rest : List Oper} {o : Oper} {a : Act} {Q : Exit → Act → World → Prop} (hgd : o.guard = none) (d s : Operand) (dT sT : TypeId)
    (ho : o.op = .call { callee := .builtin .copy, args := #[d, s], argTypes := #[dT, sT] }) (elem : TypeId) (hu : P.underlying dT = some (.slice elem)) (hsz : (P.info? elem).map (·.size) = some 1)
    (g off dLen dCap : Nat) (sp : Option Addr) (sLen sCap : Nat) (hd : a.eval d = .slice (some ⟨g, off, none⟩) dLen dCap) (hs : a.eval s = .slice sp sLen sCap)
    (cur : Array Value) (t : TypeId) (hg : w.heap[g]? = some (.cells cur t (0, 0))) (cs : List Value) (hn : cs.length = Nat.min sLen dLen)
    (hsrc : ∃ ad, sp = some ad ∧ ∀ j v, cs[j]? = some v → w.cell? (ad.add j) = some v) (hfit : off + cs.length ≤ cur.size) (h1 : ∀ v ∈ cs, v.oneCell' = true)
    (h : ∀ w', Hid (w'.heap[g]? = some (.cells (splice cur.toList off cs).toArray t (0, 0))) → w.grownBy w' (some g) → wpListIn F n P ops Q rest (a.put o.dst (goInt cs.length)) w') :
    wpListIn F n P ops Q (o :: rest) a w := by
  obtain ⟨ad, rfl, hsrc⟩ := hsrc
  refine wpListIn_plain hgd fun K hK => ?_
  have hrun := run_copy_row (P := P) w dT sT o.type elem g off dLen dCap ad sLen sCap cur t cs hu hsz hg hn hsrc hfit h1
  unfold Oper.wpIn
  refine ⟨?_, ?_⟩
  · simp [Oper.about, ho, resolve, Target.leads, Sem.run_pure]
  · rw [Oper.semAt_plain F _ _ (by rw [ho]; intro c hc'; cases hc')]
    simp [execOp, ho, resolve, invoke, builtin, hd, hs, hrun, Result.andThen]
    refine hK _ _ (h _ ?_ ?_)
    · exact (show _ = _ by simpa [splice] using setRow_heap w g _ _ t _ hg)
    · exact ⟨rfl, rfl, rfl, by simp, fun k _ hk => setRow_other w g k _ (fun e => hk (by rw [e]))⟩

theorem RdI.cut3 {w : World} {a : Option Addr} {n : Nat} {xs : List Int} (h : RdI w a n xs) (lo m : Nat) (h1 : lo + m ≤ n) : RdI w (cutA a lo (lo + m)) m ((xs.drop lo).take m) := by
  have hl := h.1
  refine ⟨by rw [List.length_take, List.length_drop]; omega, fun hm => ?_⟩
  obtain ⟨ad, rfl, hb, hc⟩ := h.2 (by omega)
  refine ⟨ad.add (lo * 1), ?_, by rw [addBlock]; exact hb, fun j hj => ?_⟩
  · unfold cutA; rw [if_neg (by omega)]; rfl
  · rw [add_add', hc (lo * 1 + j) (by omega)]
    congr 2
    simp only [List.getD_eq_getElem?_getD, List.getElem?_take, List.getElem?_drop]
    rw [if_pos hj, Nat.mul_one]

/-- The cells of part j. -/
def partC (xs : List Int) (j m : Nat) : List Value := (List.range m).map fun k => .int .i64 (xs.getD (j * 8 + k) 0)
theorem partC_length (xs : List Int) (j m : Nat) : (partC xs j m).length = m := by simp [partC]
theorem partC_src {w : World} {A : Option Addr} {n : Nat} {xs : List Int} (h : RdI w A n xs) (j m : Nat) (hm : 0 < m) (h1 : j * 8 + m ≤ n) :
    ∃ ad, cutA A (j * 8) (j * 8 + m) = some ad ∧ ∀ i v, (partC xs j m)[i]? = some v → w.cell? (ad.add i) = some v := by
  have h2 := h.cut3 (j * 8) m h1
  obtain ⟨ad, e, _, hc⟩ := h2.2 hm
  refine ⟨ad, e, fun i v hv => ?_⟩
  have hi : i < m := by
    have := (List.getElem?_eq_some_iff.1 hv).1
    rwa [partC_length] at this
  rw [hc i hi, ← hv]
  simp [partC, List.getElem?_map, List.getElem?_range hi, List.getD_eq_getElem?_getD, List.getElem?_take, List.getElem?_drop, hi]
theorem partC_one (xs : List Int) (j m : Nat) : ∀ v ∈ partC xs j m, v.oneCell' = true := by
  intro v hv
  obtain ⟨k, _, rfl⟩ := List.mem_map.1 hv
  rfl
theorem splice_part (c h : Int) (xs : List Int) (j m : Nat) (hm : m ≤ 8) :
    (splice (Bl.mk c h (part8 xs j 0) 0).arr.toList 2 (partC xs j m)).toArray = (Bl.mk c h (part8 xs j m) 0).arr := by
  match m, hm with
  | 0, _ => rfl
  | 1, _ => rfl
  | 2, _ => rfl
  | 3, _ => rfl
  | 4, _ => rfl
  | 5, _ => rfl
  | 6, _ => rfl
  | 7, _ => rfl
  | 8, _ => rfl

theorem KeepsOthers.of_below {W W' : World} (h : Below W.heap.size W W') : KeepsOthers W W' :=
  ⟨h.size, fun k o hk _ => (h.block k (Array.getElem?_eq_some_iff.1 hk).1).trans hk⟩
theorem Kp2.of_below {Bs Bn B : Nat} {W W' : World} (h : Below B W W') (h1 : Bs < B) (h2 : Bn < B) : Kp2 Bs Bn W W' := ⟨h.block _ h1, h.block _ h2⟩

end Go.Proofs.YtmeddnpahkigeaaDoor
