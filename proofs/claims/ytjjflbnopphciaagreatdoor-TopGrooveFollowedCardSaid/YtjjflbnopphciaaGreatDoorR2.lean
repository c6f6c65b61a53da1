import Derived.RangeFuncFrom
namespace Go.Proofs.YtjjflbnopphciaaGreatDoor
open Go.RowKit

variable {F : Fence} {n : Nat} {P : Program}

/-- An iterator that may store into variables of its own between two rounds: T is the set of its blocks. What the caller says (J T) bears a new block of the iterator's, a store into a block of T, a draw; a round leaves the blocks of T as they lay. Of bodies that never leave. -/
def SeqRuns {α : Type} (F : Fence) (n : Nat) (P : Program) (g : Nat) (lb : Array Value) (encs : α → Array Value) (S : List α → Prop) (Sp : List α → Prop) (T0 : Nat → Prop) (w : World) : Prop :=
  ∀ (l : Nat) (J : (Nat → Prop) → List α → World → Prop) (W : World), Below w.heap.size w W →
    (∀ T s A, J T s A → ∀ r, T r → r < A.heap.size) →
    (∀ T s A o, J T s A → J (fun r => T r ∨ r = A.heap.size) s (A.alloc o)) →
    (∀ T s A a v, J T s A → T a.block → J T s (A.setCell a v)) →
    (∀ T s A, J T s A → J T s A.drew) →
    (∀ T pre x A, J T pre A → Sp (pre ++ [x]) → YieldAt F (n - 1) P l (encs x) A fun e A' => e = .returned (.bool true) ∧ J T (pre ++ [x]) A' ∧ ∀ r, T r → A'.heap[r]? = A.heap[r]?) →
    J T0 [] W → CallsIn F n P g (#[.func (.yield l) #[] #[]] ++ lb) W fun e W' => (∃ v, e = .returned v) ∧ ∃ T xs, S xs ∧ J T xs W'

/-- How a round goes on. -/
def runPost {α : Type} (T : Nat → Prop) (I : (Nat → Prop) → List α → World → Prop) (xs : List α) (W : World) : Exit → Act → World → Prop
  | .normal, _, W' => KeepsOthers W W' ∧ (∀ r, T r → W'.heap[r]? = W.heap[r]?) ∧ I T xs W'
  | _, _, _ => False

theorem wpIn_rangeFunc_runs {α : Type} {g : Operand} {ps : Array Tmp} {assign body : Code} {Q : Exit → Act → World → Prop} {a : Act} {w : World}
    (hro : F.round = none) (h1 : 1 ≤ n) {gf : Nat} {lb : Array Value} (hg : a.eval g = .func (.func gf) #[] lb) (hFg : F.fn gf) (eg : ∀ args w, (callFunc gf args).run P w = .ok (.enter gf args) w)
    {encs : α → Array Value} {S : List α → Prop} {Sp : List α → Prop} {T0 : Nat → Prop} {w0 : World} (hseq : SeqRuns F (n - 1) P gf lb encs S Sp T0 w0) (hb0 : Below w0.heap.size w0 w) (hps : ∀ x, (encs x).size = ps.size)
    (I : (Nat → Prop) → List α → World → Prop) (hsz : ∀ T s A, I T s A → ∀ r, T r → r < A.heap.size) (hnew : ∀ T s A o, I T s A → I (fun r => T r ∨ r = A.heap.size) s (A.alloc o))
    (hal : ∀ T s A o, I T s A → I T s (A.alloc o)) (hput : ∀ T s A a v, I T s A → T a.block → I T s (A.setCell a v)) (hdrew : ∀ T s A, I T s A → I T s A.drew)
    (hobj : ∀ T s A l o o', I T s A → w.heap.size ≤ l → A.heap[l]? = some o → o.isCells = false → I T s (A.putObj l o'))
    (h0 : I T0 [] w) (a₁ : α → Act)
    (hassign : ∀ (l : Nat) (x : α) (W : World) (K : Act → World → Prop), K (a₁ x) W →
      assign.wpIn (F.inRound l) (n - 1 - 1) P (Exit.then K (fun _ _ _ => False)) { tmps := (ps.zip (encs x)).foldl (fun t (p, v) => t.setIfInBounds p v) a.tmps, defers := [] } W)
    (hbody : ∀ (l : Nat) (T : Nat → Prop) (pre : List α) (x : α) (W : World), I T pre W → Sp (pre ++ [x]) → body.wpIn (F.inRound l) (n - 1 - 1) P (runPost T I (pre ++ [x]) W) (a₁ x) W)
    (hdone : ∀ (D : Nat) (T : Nat → Prop) (xs : List α) (W : World), w.heap.size ≤ D → S xs → I T xs W → W.heap[D]? = some (.deferred (some [])) → Q .normal { a with defers := { target := .collected D, args := #[] } :: a.defers } W) :
    (Code.rangeFunc g ps assign body).wpIn F n P Q a w := by
  refine wpIn_rangeFunc ?_
  intro fn hfn
  rw [hro]
  have hlD : ((w.alloc (.deferred (some []))).alloc (.loop { state := .ready, pending := none, fn, tmps := a.tmps, params := ps, assign, body, defers := w.heap.size })).heap[w.heap.size + 1]? = some (.loop { state := .ready, pending := none, fn, tmps := a.tmps, params := ps, assign, body, defers := w.heap.size }) := by
    have := World.alloc_heap_new (w.alloc (.deferred (some []))) (.loop { state := .ready, pending := none, fn, tmps := a.tmps, params := ps, assign, body, defers := w.heap.size })
    rwa [World.size_alloc] at this
  have hdD : ((w.alloc (.deferred (some []))).alloc (.loop { state := .ready, pending := none, fn, tmps := a.tmps, params := ps, assign, body, defers := w.heap.size })).heap[w.heap.size]? = some (.deferred (some [])) :=
    (Below.heap_alloc _ _ _ (by simp)).trans (World.alloc_heap_new w _)
  have hb1 : Below w0.heap.size w0 ((w.alloc (.deferred (some []))).alloc (.loop { state := .ready, pending := none, fn, tmps := a.tmps, params := ps, assign, body, defers := w.heap.size })) := hb0.trans ((((Below.refl _ w).alloc (Nat.le_refl _) _).alloc (by simp) _).mono hb0.size)
  have hI1 := hal _ _ _ (.loop { state := .ready, pending := none, fn, tmps := a.tmps, params := ps, assign, body, defers := w.heap.size }) (hal _ _ _ (.deferred (some [])) h0)
  have hent := run_enterLoop_outer (P := P) (w := w) fn a.tmps ps assign body
  obtain ⟨W1, hW1⟩ : ∃ W1, (w.alloc (.deferred (some []))).alloc (.loop { state := .ready, pending := none, fn, tmps := a.tmps, params := ps, assign, body, defers := w.heap.size }) = W1 := ⟨_, rfl⟩
  rw [hW1] at hlD hdD hb1 hI1 hent
  refine ⟨w.heap.size + 1, _, W1, { target := .fn (.func gf) lb, args := #[.func (.yield (w.heap.size + 1)) #[] #[]] }, W1, gf, #[.func (.yield (w.heap.size + 1)) #[] #[]] ++ lb, W1, hent, ?_, ?_, ?_, fun _ => h1, ?_⟩
  · simp only [resolve, hg]
    simp [go_sem]
  · intro f' hf'
    simp [Target.leads] at hf'
    subst hf'
    exact hFg
  · simp [invoke, go_sem, eg]
  · refine (hseq (w.heap.size + 1)
      (fun T pre W => I T pre W ∧ W.heap[w.heap.size + 1]? = some (.loop { state := .ready, pending := none, fn, tmps := a.tmps, params := ps, assign, body, defers := w.heap.size }) ∧ W.heap[w.heap.size]? = some (.deferred (some [])) ∧ ∀ r, T r → r ≠ w.heap.size + 1)
      W1 hb1 ?_ ?_ ?_ ?_ ?_ ⟨hI1, hlD, hdD, fun r hr e => by have := hsz _ _ _ h0 r hr; omega⟩).mono ?_
    · exact fun T s A h => hsz T s A h.1
    · rintro T s A o ⟨hi, hl, hk, hT⟩
      have hlt := (Array.getElem?_eq_some_iff.1 hl).1
      refine ⟨hnew _ _ _ _ hi, (Below.heap_alloc _ _ _ hlt).trans hl, (Below.heap_alloc _ _ _ (by omega)).trans hk, ?_⟩
      rintro r (hr | rfl)
      · exact hT r hr
      · omega
    · rintro T s A p v ⟨hi, hl, hk, hT⟩ hp
      exact ⟨hput _ _ _ _ _ hi hp, (KeepsOthers.setCell A p v).same _ _ hl rfl, (KeepsOthers.setCell A p v).same _ _ hk rfl, hT⟩
    · rintro T s A ⟨hi, hl, hk, hT⟩
      exact ⟨hdrew _ _ _ hi, hl, hk, hT⟩
    · rintro T pre x W ⟨hi, hl, hk, hT⟩ hlen
      have hlt : w.heap.size + 1 < W.heap.size := (Array.getElem?_eq_some_iff.1 hl).1
      refine ⟨fn, _, assign, body, run_yield hl (hps x), roundIn_of_wpIn hfn (hassign _ x W _ ⟨_, run_beginRound hl rfl, ?_⟩)⟩
      refine wpIn_mono (hbody _ T pre x _ (hobj _ _ _ _ _ _ hi (by omega) hl rfl) hlen) ?_
      rintro e a3 W3 hp
      cases e with
      | normal =>
        obtain ⟨hk3, hT3, hi3⟩ := hp
        have hl3 := hk3.same _ _ (World.putObj_heap_same hlt) rfl
        have hd3 := hk3.same _ _ ((World.putObj_heap_other (by omega)).trans hk) rfl
        refine ⟨_, _, run_endRound none hl3, rfl, ⟨hobj _ _ _ _ _ _ hi3 (by omega) hl3 rfl, World.putObj_heap_same (Array.getElem?_eq_some_iff.1 hl3).1, (World.putObj_heap_other (by omega)).trans hd3, hT⟩, ?_⟩
        intro r hr
        have := hT r hr
        exact (World.putObj_heap_other (by omega)).trans ((hT3 r hr).trans (World.putObj_heap_other (by omega)))
      | _ => exact hp.elim
    · rintro e W2 ⟨⟨v, rfl⟩, T, xs, hS, hi, hl, hk, _⟩
      exact ⟨none, _, run_endLoop hl (by simp), hdone _ T xs _ (Nat.le_refl _) hS (hobj _ _ _ _ _ _ hi (by omega) hl rfl) ((World.putObj_heap_other (by omega)).trans hk)⟩

end Go.Proofs.YtjjflbnopphciaaGreatDoor
