import Derived.Test.YtjjflbnopphciaaGreatDoorR2
namespace Go.Proofs.YtjjflbnopphciaaGreatDoor
open Go.RowKit

variable {F : Fence} {n : Nat} {P : Program}

/-- The law of R2 for a loop whose variable is boxed: the assign code lays a block of its own in every round. -/
theorem wpIn_rangeFunc_runsH {α : Type} {g : Operand} {ps : Array Tmp} {assign body : Code} {Q : Exit → Act → World → Prop} {a : Act} {w : World}
    (hro : F.round = none) (h1 : 1 ≤ n) {gf : Nat} {lb : Array Value} (hg : a.eval g = .func (.func gf) #[] lb) (hFg : F.fn gf) (eg : ∀ args w, (callFunc gf args).run P w = .ok (.enter gf args) w)
    {encs : α → Array Value} {S : List α → Prop} {Sp : List α → Prop} {T0 : Nat → Prop} {w0 : World} (hseq : SeqRuns F (n - 1) P gf lb encs S Sp T0 w0) (hb0 : Below w0.heap.size w0 w) (hps : ∀ x, (encs x).size = ps.size)
    (I : (Nat → Prop) → List α → World → Prop) (hsz : ∀ T s A, I T s A → ∀ r, T r → r < A.heap.size) (hnew : ∀ T s A o, I T s A → I (fun r => T r ∨ r = A.heap.size) s (A.alloc o))
    (hal : ∀ T s A o, I T s A → I T s (A.alloc o)) (hput : ∀ T s A a v, I T s A → T a.block → I T s (A.setCell a v)) (hdrew : ∀ T s A, I T s A → I T s A.drew)
    (hobj : ∀ T s A l o o', I T s A → w.heap.size ≤ l → A.heap[l]? = some o → o.isCells = false → I T s (A.putObj l o'))
    (h0 : I T0 [] w) (Ax : (Nat → Prop) → α → Act → World → Prop)
    (hAx : ∀ T x a' A l o o', Ax T x a' A → w.heap.size ≤ l → A.heap[l]? = some o → o.isCells = false → Ax T x a' (A.putObj l o'))
    (hassign : ∀ (l : Nat) (T : Nat → Prop) (pre : List α) (x : α) (W : World) (K : Act → World → Prop), I T pre W → (∀ a' W', KeepsOthers W W' → (∀ r, T r → W'.heap[r]? = W.heap[r]?) → I T pre W' → Ax T x a' W' → K a' W') →
      assign.wpIn (F.inRound l) (n - 1 - 1) P (Exit.then K (fun _ _ _ => False)) { tmps := (ps.zip (encs x)).foldl (fun t (p, v) => t.setIfInBounds p v) a.tmps, defers := [] } W)
    (hbody : ∀ (l : Nat) (T : Nat → Prop) (pre : List α) (x : α) (a' : Act) (W : World), I T pre W → Ax T x a' W → Sp (pre ++ [x]) → body.wpIn (F.inRound l) (n - 1 - 1) P (runPost T I (pre ++ [x]) W) a' W)
    (hdone : ∀ (D : Nat) (T : Nat → Prop) (xs : List α) (W : World), w.heap.size ≤ D → S xs → I T xs W → W.heap[D]? = some (.deferred (some [])) → Q .normal { a with defers := { target := .collected D, args := #[] } :: a.defers } W) :
    (Code.rangeFunc g ps assign body).wpIn F n P Q a w := by
  refine wpIn_rangeFunc ?_
  intro fn hfn
  rw [hro]
  have hlD : ((w.alloc (.deferred (some []))).alloc (.loop { state := .ready, pending := none, fn, tmps := a.tmps, params := ps, assign, body, defers := w.heap.size })).heap[w.heap.size + 1]? = some (.loop { state := .ready, pending := none, fn, tmps := a.tmps, params := ps, assign, body, defers := w.heap.size }) := by
    have := World.alloc_heap_new (w.alloc (.deferred (some []))) (.loop { state := .ready, pending := none, fn, tmps := a.tmps, params := ps, assign, body, defers := w.heap.size })
    rwa [World.size_alloc] at this
  have hdD : ((w.alloc (.deferred (some []))).alloc (.loop { state := .ready, pending := none, fn, tmps := a.tmps, params := ps, assign, body, defers := w.heap.size })).heap[w.heap.size]? = some (.deferred (some [])) :=
    (Below.heap_alloc _ _ _ (by simp)).trans (World.alloc_heap_new w _)
  have hb1 : Below w0.heap.size w0 ((w.alloc (.deferred (some []))).alloc (.loop { state := .ready, pending := none, fn, tmps := a.tmps, params := ps, assign, body, defers := w.heap.size })) := hb0.trans ((((Below.refl _ w).alloc (Nat.le_refl _) _).alloc (by simp) _).mono hb0.size)
  have hI1 := hal _ _ _ (.loop { state := .ready, pending := none, fn, tmps := a.tmps, params := ps, assign, body, defers := w.heap.size }) (hal _ _ _ (.deferred (some [])) h0)
  have hent := run_enterLoop_outer (P := P) (w := w) fn a.tmps ps assign body
  obtain ⟨W1, hW1⟩ : ∃ W1, (w.alloc (.deferred (some []))).alloc (.loop { state := .ready, pending := none, fn, tmps := a.tmps, params := ps, assign, body, defers := w.heap.size }) = W1 := ⟨_, rfl⟩
  rw [hW1] at hlD hdD hb1 hI1 hent
  refine ⟨w.heap.size + 1, _, W1, { target := .fn (.func gf) lb, args := #[.func (.yield (w.heap.size + 1)) #[] #[]] }, W1, gf, #[.func (.yield (w.heap.size + 1)) #[] #[]] ++ lb, W1, hent, ?_, ?_, ?_, fun _ => h1, ?_⟩
  · simp only [resolve, hg]
    simp [go_sem]
  · intro f' hf'
    simp [Target.leads] at hf'
    subst hf'
    exact hFg
  · simp [invoke, go_sem, eg]
  · refine (hseq (w.heap.size + 1)
      (fun T pre W => I T pre W ∧ W.heap[w.heap.size + 1]? = some (.loop { state := .ready, pending := none, fn, tmps := a.tmps, params := ps, assign, body, defers := w.heap.size }) ∧ W.heap[w.heap.size]? = some (.deferred (some [])) ∧ ∀ r, T r → r ≠ w.heap.size + 1)
      W1 hb1 ?_ ?_ ?_ ?_ ?_ ⟨hI1, hlD, hdD, fun r hr e => by have := hsz _ _ _ h0 r hr; omega⟩).mono ?_
    · exact fun T s A h => hsz T s A h.1
    · rintro T s A o ⟨hi, hl, hk, hT⟩
      have hlt := (Array.getElem?_eq_some_iff.1 hl).1
      refine ⟨hnew _ _ _ _ hi, (Below.heap_alloc _ _ _ hlt).trans hl, (Below.heap_alloc _ _ _ (by omega)).trans hk, ?_⟩
      rintro r (hr | rfl)
      · exact hT r hr
      · omega
    · rintro T s A p v ⟨hi, hl, hk, hT⟩ hp
      exact ⟨hput _ _ _ _ _ hi hp, (KeepsOthers.setCell A p v).same _ _ hl rfl, (KeepsOthers.setCell A p v).same _ _ hk rfl, hT⟩
    · rintro T s A ⟨hi, hl, hk, hT⟩
      exact ⟨hdrew _ _ _ hi, hl, hk, hT⟩
    · rintro T pre x W ⟨hi, hl, hk, hT⟩ hlen
      have hlt : w.heap.size + 1 < W.heap.size := (Array.getElem?_eq_some_iff.1 hl).1
      refine ⟨fn, _, assign, body, run_yield hl (hps x), roundIn_of_wpIn hfn (hassign _ T pre x W _ hi ?_)⟩
      intro a' W' hkA hTA hiA hAxA
      have hlA := hkA.same _ _ hl rfl
      have hkkA := hkA.same _ _ hk rfl
      have hltA : w.heap.size + 1 < W'.heap.size := (Array.getElem?_eq_some_iff.1 hlA).1
      refine ⟨_, run_beginRound hlA rfl, ?_⟩
      refine wpIn_mono (hbody _ T pre x a' _ (hobj _ _ _ _ _ _ hiA (by omega) hlA rfl) (hAx _ _ _ _ _ _ _ hAxA (by omega) hlA rfl) hlen) ?_
      rintro e a3 W3 hp
      cases e with
      | normal =>
        obtain ⟨hk3, hT3, hi3⟩ := hp
        have hl3 := hk3.same _ _ (World.putObj_heap_same hltA) rfl
        have hd3 := hk3.same _ _ ((World.putObj_heap_other (by omega)).trans hkkA) rfl
        refine ⟨_, _, run_endRound none hl3, rfl, ⟨hobj _ _ _ _ _ _ hi3 (by omega) hl3 rfl, World.putObj_heap_same (Array.getElem?_eq_some_iff.1 hl3).1, (World.putObj_heap_other (by omega)).trans hd3, hT⟩, ?_⟩
        intro r hr
        have := hT r hr
        exact (World.putObj_heap_other (by omega)).trans ((hT3 r hr).trans ((World.putObj_heap_other (by omega)).trans (hTA r hr)))
      | _ => exact hp.elim
    · rintro e W2 ⟨⟨v, rfl⟩, T, xs, hS, hi, hl, hk, _⟩
      exact ⟨none, _, run_endLoop hl (by simp), hdone _ T xs _ (Nat.le_refl _) hS (hobj _ _ _ _ _ _ hi (by omega) hl rfl) ((World.putObj_heap_other (by omega)).trans hk)⟩

end Go.Proofs.YtjjflbnopphciaaGreatDoor
