import Derived.Test.YtnmfeonagigkeaaDoorG0
namespace Go.Proofs.YtnmfeonagigkeaaDoor

theorem bridgeTo_getD (p : Int × Int) (l : List Int) (lo hi k i : Nat) (h : i < l.length) : (bridgeTo p l lo hi k).getD i 0 = if lo ≤ i ∧ i < lo + k then bridgeAt p lo hi i else l.getD i 0 := by
  have h1 : i < (bridgeTo p l lo hi k).length := by rw [bridgeTo_length]; exact h
  rw [List.getD_eq_getElem?_getD, List.getElem?_eq_getElem h1]
  simp only [bridgeTo, List.getElem_map, List.getElem_range, Option.getD_some]
theorem fold_out (xs : List Int) (i : Nat) : ∀ (gs : List (Int × Int)) (l : List Int), i < l.length → (∀ g ∈ gs, ¬ (g.1.toNat ≤ i ∧ i ≤ g.2.toNat)) → (gs.foldl (refStep xs) l).getD i 0 = l.getD i 0
  | [], _, _, _ => rfl
  | g :: gs, l, hl, h => by
    rw [List.foldl_cons, fold_out xs i gs _ (by show i < (bridgeTo _ _ _ _ _).length; rw [bridgeTo_length]; exact hl) fun q hq => h q (List.mem_cons_of_mem _ hq)]
    have h0 := h g (List.mem_cons_self ..)
    show (bridgeTo _ _ _ _ _).getD i 0 = _
    rw [bridgeTo_getD _ _ _ _ _ _ hl, if_neg (by omega)]
theorem refL_out {xs : List Int} {gs : List (Int × Int)} {i : Nat} (hi : i < xs.length) (h : ∀ g ∈ gs, ¬ (g.1.toNat ≤ i ∧ i ≤ g.2.toNat)) : (refL xs gs).getD i 0 = xs.getD i 0 := fold_out xs i gs xs hi h
theorem gapsF_after {count : Int} : ∀ {pre : List (Int × Int)} {prev : Option (Int × Int)} {g : Int × Int} {post : List (Int × Int)}, gapsF count prev (pre ++ g :: post) = 0 → gapsF count (some g) post = 0 ∧ 0 ≤ g.1 ∧ g.1 ≤ g.2 ∧ g.2 ≤ count - 1
  | [], prev, g, post, h => by
    obtain ⟨h1, h2⟩ := gapsF_cons h
    have h3 := gapE_ok h1
    exact ⟨h2, h3.1, h3.2.1, h3.2.2.1⟩
  | a :: pre, prev, g, post, h => gapsF_after (pre := pre) (gapsF_cons h).2
theorem refL_in {xs : List Int} {gs pre post : List (Int × Int)} {g : Int × Int} {i : Nat} (hv : gapsF (xs.length : Nat) none gs = 0) (hs : gs = pre ++ g :: post) (h : g.1.toNat ≤ i ∧ i ≤ g.2.toNat) :
    (refL xs gs).getD i 0 = bridgeAt (endsL xs g.1.toNat g.2.toNat) g.1.toNat g.2.toNat i := by
  rw [hs] at hv
  obtain ⟨hp, h1, h2, h3⟩ := gapsF_after hv
  have hi : i < xs.length := by omega
  obtain ⟨_, _, h4⟩ := sumG_some hp h3
  have hl : (refL xs pre).length = xs.length := refL_length _ _
  have e : refL xs gs = post.foldl (refStep xs) (refStep xs (refL xs pre) g) := by
    rw [hs]
    simp [refL, List.foldl_append, List.foldl_cons]
  rw [e, fold_out xs i post _ (by show i < (bridgeTo _ _ _ _ _).length; rw [bridgeTo_length, hl]; exact hi) (fun q hq => by have := h4 q hq; omega)]
  show (bridgeTo _ _ _ _ _).getD i 0 = _
  rw [bridgeTo_getD _ _ _ _ _ _ (by rw [hl]; exact hi), if_pos (by omega)]
/-- What is bridged lies between its ends. -/
theorem between {xs : List Int} {lo hi i : Nat} (h : lo ≤ i ∧ i ≤ hi) (h0 : lo ≠ 0) (hn : hi + 1 ≠ xs.length) :
    (xs.getD (lo - 1) 0 ≤ xs.getD (hi + 1) 0 → xs.getD (lo - 1) 0 ≤ bridgeAt (endsL xs lo hi) lo hi i ∧ bridgeAt (endsL xs lo hi) lo hi i ≤ xs.getD (hi + 1) 0) ∧ (xs.getD (hi + 1) 0 ≤ xs.getD (lo - 1) 0 → xs.getD (hi + 1) 0 ≤ bridgeAt (endsL xs lo hi) lo hi i ∧ bridgeAt (endsL xs lo hi) lo hi i ≤ xs.getD (lo - 1) 0) := by
  have e : endsL xs lo hi = (xs.getD (lo - 1) 0, xs.getD (hi + 1) 0) := by unfold endsL; rw [if_neg h0, if_neg hn]
  rw [e]
  exact lerp_bd _ _ _ _ (by omega) (by omega) (by omega)

end Go.Proofs.YtnmfeonagigkeaaDoor
