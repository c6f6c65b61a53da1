import Derived.Test.YtmeddnpahkigeaaDoorW84
import Derived.RangeFuncNested
namespace Go.Proofs.YtmeddnpahkigeaaDoor
open Go.RowKit
open Go.Shelf
attribute [local go_sem] Oper.semAt_some

/-- What a loop's frame is where its second variable is a box: by the slots. -/
def AxB {α : Type} (B : Nat) (a : Act) (p1 p2 q1 q2 : Tmp) (enc1 enc2 : α → Value) (T : TypeId) (cs : α → Array Value) (x : α) (a' : Act) (W : World) : Prop :=
  ∃ Bx, B ≤ Bx ∧ Bk W Bx T (cs x) ∧ a' = { tmps := (((a.tmps.setIfInBounds p1 (enc1 x)).setIfInBounds p2 (enc2 x)).setIfInBounds q1 (enc1 x)).setIfInBounds q2 (.pointer (some ⟨Bx, 0, none⟩)), defers := [] }

theorem bk_grown {X Y : World} {row : Option Nat} {B : Nat} {T : TypeId} {cs : Array Value} (h : Bk X B T cs) (hg : X.grownBy Y row) (hr : ∀ r, row = some r → ∃ o : Obj, X.heap[r]? = some o ∧ o.isCells = false) : Bk Y B T cs := by
  refine (hg.block B h.lt (fun e => ?_)).trans h
  obtain ⟨o, ho, hc⟩ := hr B e.symm
  rw [h.heap] at ho; cases ho; cases hc

theorem wpIn_rangeFunc_box2 {F : Fence} {n : Nat} {P : Program} {α : Type} {g : Operand} {p1 p2 : Tmp} {assign body : Code} {Q : Exit → Act → World → Prop} {a : Act} {w : World}
    (hro : F.round = none) (h1 : 1 ≤ n) {gf : Nat} {lb : Array Value} (hg : a.eval g = .func (.func gf) #[] lb) (hFg : F.fn gf) (eg : ∀ args w, (callFunc gf args).run P w = .ok (.enter gf args) w)
    (enc1 enc2 : α → Value) {Kp : World → World → Prop} {S Sp : List α → Prop} {N : Nat} {w0 : World} (hseq : SeqStopsK F (n - 1) P gf lb (fun x => #[enc1 x, enc2 x]) Kp S Sp N w0)
    (hKt : ∀ {A B C : World}, Kp A B → Kp B C → Kp A C) (hKb : ∀ (W : World) (l : Nat) (o o' : Obj), w.heap.size ≤ l → W.heap[l]? = some o → o.isCells = false → o.isWalk = false → Kp W (W.putObj l o')) (hb0 : Below w0.heap.size w0 w)
    (q1 q2 : Tmp) (T : TypeId) (cs : α → Array Value)
    (I : List α → World → Prop) (Ix : Code → List α → World → Prop) (hI : OwnFrom w.heap.size I) (hIx : ∀ c, OwnFrom w.heap.size (Ix c)) (h0 : I [] w)
    (hassign : ∀ (l : Nat) (pre : List α) (x : α) (W : World) (K : Act → World → Prop), I pre W → (∀ a' W', KeepsFrom w.heap.size W W' → Kp W W' → I pre W' → AxB w.heap.size a p1 p2 q1 q2 enc1 enc2 T cs x a' W' → K a' W') →
      assign.wpIn (F.inRound l) (n - 1 - 1) P (Exit.then K (fun _ _ _ => False)) { tmps := (a.tmps.setIfInBounds p1 (enc1 x)).setIfInBounds p2 (enc2 x), defers := [] } W)
    (hbody : ∀ (l : Nat) (pre : List α) (x : α) (Bx : Nat) (W : World), I pre W → w.heap.size ≤ Bx → Bk W Bx T (cs x) → pre.length < N → body.wpIn (F.inRound l) (n - 1 - 1) P (ownPostG w.heap.size Kp I Ix (pre ++ [x]) W)
      { tmps := (((a.tmps.setIfInBounds p1 (enc1 x)).setIfInBounds p2 (enc2 x)).setIfInBounds q1 (enc1 x)).setIfInBounds q2 (.pointer (some ⟨Bx, 0, none⟩)), defers := [] } W)
    (hdone : ∀ (D : Nat) (xs : List α) (W : World), w.heap.size ≤ D → S xs → I xs W → W.heap[D]? = some (.deferred (some [])) → Q .normal { a with defers := { target := .collected D, args := #[] } :: a.defers } W)
    (hstop : ∀ (D : Nat) (c : Code) (pre : List α) (W : World), w.heap.size ≤ D → Sp pre → Ix c pre W → W.heap[D]? = some (.deferred (some [])) → c.wpIn F n P Q { a with defers := { target := .collected D, args := #[] } :: a.defers } W) :
    (Code.rangeFunc g #[p1, p2] assign body).wpIn F n P Q a w :=
  wpIn_rangeFunc_ownH hro h1 hg hFg eg hseq hKt hKb hb0 (fun _ => rfl) I Ix hI hIx h0 (AxB w.heap.size a p1 p2 q1 q2 enc1 enc2 T cs)
    (fun x a' s X Y row hs hg hr => by
      obtain ⟨Bx, h1, h2, h3⟩ := hs
      exact ⟨Bx, h1, bk_grown h2 hg (fun r e => (hr r e).2), h3⟩)
    (fun l pre x W K hi hK => by simpa using hassign l pre x W K hi hK)
    (fun l pre x a' W _ _ hi hax hlt => by obtain ⟨Bx, h1, h2, rfl⟩ := hax; exact hbody l pre x Bx W hi h1 h2 hlt) hdone hstop

theorem weighted_stops (nf : Nat) (hn : 1 ≤ nf) (Bd Bj X : Nat) (A : Option Addr) (n cp : Nat) (ds : List (List Int)) (j : Int) (hj : 0 ≤ j ∧ j ≤ 3) (hn2 : n ≤ 1000) (w0 : World) (hbd : Bd < w0.heap.size) (hbj : Bj < w0.heap.size)
    (hRd : RdD w0 A n ds) (hBd : w0.cell? ⟨Bd, 0, none⟩ = some (.slice A n cp)) (hBj : w0.cell? ⟨Bj, 0, none⟩ = some (.int .i64 j)) (hX : BndD ds) (hxd : Bd ≠ X) (hxj : Bj ≠ X) (hxa : 0 < n → ∀ ad, A = some ad → ad.block ≠ X) :
    SeqStopsK Fence.wide nf Tryd.prog 94 #[.pointer (some ⟨Bd, 0, none⟩), .pointer (some ⟨Bj, 0, none⟩)] (fun x : Part n => #[Value.int .i64 (invT (4 + ((x.1 : Nat) : Int) - j)), Value.agg (iArr (numL ds x.1))]) (KX X w0.heap.size) (fun ys => ys.map (·.1) = List.range n) (fun pre => pre.map (·.1) <+: List.range n) n w0 := fun l J Jx W hW hJ _ hY h0 => by
  refine (weighted1_in nf hn l Bd Bj X A n cp ds j hj hn2 w0 hbd hbj hxd hxj hxa hRd hBd hBj hX (fun pre W => ∃ q : List (Part n), q.map (·.1) = pre ∧ J q W) (fun pre W => ∃ q : List (Part n), q.map (·.1) = pre ∧ Jx q W) ?_ ?_ W (KX.of_below hW (Nat.le_refl _)) ⟨[], rfl, h0⟩).mono ?_
  · rintro pre x W1 ⟨q, rfl, hq⟩ hp
    have hx : x < n := by
      have := hp.subset (show x ∈ q.map (·.1) ++ [x] by simp)
      simpa using this
    refine (hY q ⟨x, hx⟩ W1 hq (by have := hp.length_le; simp at this; omega)).mono ?_
    rintro e W' (⟨he, hj, hk⟩ | ⟨he, hj⟩)
    · exact .inl ⟨he, ⟨_, by simp, hj⟩, hk⟩
    · exact .inr ⟨he, ⟨_, by simp, hj⟩⟩
  · rintro pre W1 W2 ⟨q, rfl, hq⟩ hb
    exact ⟨q, rfl, hJ _ _ _ none hq (grown_of_below hb) (fun r e => by cases e)⟩
  · rintro e W' ⟨hv, (⟨ys, rfl, q, hq, hj⟩ | ⟨pre, hp, q, rfl, hj⟩)⟩
    · exact ⟨hv, .inl ⟨q, hq, hj⟩⟩
    · exact ⟨hv, .inr ⟨q, hp, hj⟩⟩

theorem weighted_any (A : Option Addr) (n cp : Nat) (j : Int) (w : World) :
    Calls Tryd.prog 79 #[.slice A n cp, .int .i64 j] w fun e w' => e = .returned (.func (.func 94) #[] #[.pointer (some ⟨w.heap.size, 0, none⟩), .pointer (some ⟨w.heap.size + 1, 0, none⟩)]) ∧ (w.alloc (.cells #[.slice A n cp] 35)).alloc (.cells #[.int .i64 j] 3) = w' := by
  go_enter Tryd.func79, Tryd.ntmps79
  go_wp2
  go_ret
  first | exact ⟨rfl, rfl⟩ | (refine ⟨?_, rfl⟩; simp)

/-- A parity with one more block. -/
def addP (p : List Int) (wt : Int) (nums : List Int) (m : Nat) : List Int := (List.range 8).map fun k => if k < m then (p.getD k 0 + wt * nums.getD k 0) % 65537 else p.getD k 0
theorem addP_length (p : List Int) (wt : Int) (nums : List Int) (m : Nat) : (addP p wt nums m).length = 8 := by simp [addP]
theorem addP_at (p : List Int) (wt : Int) (nums : List Int) (m k : Nat) (hk : k < 8) : (addP p wt nums m).getD k 0 = if k < m then (p.getD k 0 + wt * nums.getD k 0) % 65537 else p.getD k 0 := by
  simp [addP, List.getD_eq_getElem?_getD, hk]
theorem addP_zero (p : List Int) (wt : Int) (nums : List Int) (h : p.length = 8) : addP p wt nums 0 = p := by
  match p, h with
  | [_, _, _, _, _, _, _, _], _ => simp [addP, List.range, List.range.loop]
theorem addP_step (p : List Int) (wt : Int) (nums : List Int) (m : Nat) (hm : m < 8) : (addP p wt nums m).set m ((p.getD m 0 + wt * nums.getD m 0) % 65537) = addP p wt nums (m + 1) := by
  apply List.ext_getElem (by simp [addP])
  intro i h1 h2
  have hi : i < 8 := by simpa [addP] using h2
  rw [List.getElem_set]
  by_cases e : m = i
  · subst e; simp [addP]
  · rw [if_neg e]
    simp only [addP, List.getElem_map, List.getElem_range]
    by_cases h : i < m
    · rw [if_pos h, if_pos (by omega)]
    · rw [if_neg h, if_neg (by omega)]
def zer8 : List Int := [0, 0, 0, 0, 0, 0, 0, 0]
/-- The parity j of the blocks in a list of indexes. -/
def parP (ds : List (List Int)) (j : Int) (q : List Nat) : List Int := q.foldl (fun p (x : Nat) => addP p (invT (4 + (x : Int) - j)) (numL ds x) 8) zer8
theorem parP_snoc (ds : List (List Int)) (j : Int) (q : List Nat) (x : Nat) : parP ds j (q ++ [x]) = addP (parP ds j q) (invT (4 + (x : Int) - j)) (numL ds x) 8 := by simp [parP]
theorem parP_length (ds : List (List Int)) (j : Int) (q : List Nat) : (parP ds j q).length = 8 := by
  rcases List.eq_nil_or_concat q with rfl | ⟨q', x, rfl⟩
  · rfl
  · rw [List.concat_eq_append, parP_snoc, addP_length]
theorem parP_bd (ds : List (List Int)) (j : Int) (q : List Nat) (k : Nat) : 0 ≤ (parP ds j q).getD k 0 ∧ (parP ds j q).getD k 0 ≤ 65536 := by
  by_cases hk : k < 8
  · rcases List.eq_nil_or_concat q with rfl | ⟨q', x, rfl⟩
    · have : (parP ds j []).getD k 0 = 0 := by
        match k, hk with
        | 0, _ => rfl
        | 1, _ => rfl
        | 2, _ => rfl
        | 3, _ => rfl
        | 4, _ => rfl
        | 5, _ => rfl
        | 6, _ => rfl
        | 7, _ => rfl
      omega
    · rw [List.concat_eq_append, parP_snoc, addP_at _ _ _ _ _ hk, if_pos hk]; omega
  · rw [List.getD_eq_getElem?_getD, List.getElem?_eq_none (by rw [parP_length]; omega)]; simp
theorem numL_bd {ds : List (List Int)} (h : BndD ds) (x k : Nat) : 0 ≤ (numL ds x).getD k 0 ∧ (numL ds x).getD k 0 ≤ 65535 := by
  by_cases hk : k < 8
  · unfold numL
    rw [numTo_at _ _ _ hk, if_pos hk]
    have := h x k
    unfold dc at this
    omega
  · rw [List.getD_eq_getElem?_getD, List.getElem?_eq_none (by unfold numL; rw [numTo_length]; omega)]; simp

end Go.Proofs.YtmeddnpahkigeaaDoor
