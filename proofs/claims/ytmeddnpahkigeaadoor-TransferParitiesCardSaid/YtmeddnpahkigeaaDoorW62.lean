import Derived.Test.YtmeddnpahkigeaaDoorW61
import Derived.Test.YtmeddnpahkigeaaDoorW22
import Derived.Laws.AppendOwnNone
namespace Go.Proofs.YtmeddnpahkigeaaDoor
open Go.RowKit

theorem copyInts_any (A : Option Addr) (n c : Nat) (l : List Int) (w : World) (hA : A = none → n = 0 ∧ c = 0) (hr : RdI w A n l) (hn : n ≤ 1000000) :
    Calls Tryd.prog 9 #[.slice A n c] w fun e w' => ∃ v, e = .returned v ∧ w'.ownsRow w.heap.size 3 1 v n (l.map (Value.int .i64)) ∧ Below w.heap.size w w' := by
  have ho : Hid ((w.alloc (.cells #[] 3)).ownsRow w.heap.size 3 1 (.slice (some ⟨w.heap.size, 0, none⟩) 0 0) 0 []) := World.ownsRow_lit w #[] 0 (Nat.le_refl _) (by unfold maxLen; omega) rfl
  obtain ⟨i0, hi, hz0, hz1, hz2⟩ := info_parts intInfo
  cases A with
  | none =>
    obtain ⟨rfl, rfl⟩ := hA rfl
    have hl : l = [] := List.eq_nil_of_length_eq_zero hr.1
    subst hl
    clear hA hr
    go_enter Tryd.func9, Tryd.ntmps9
    go_wp2_with (at_builtin; refine wpList_append_own_none rfl (.tmp 3) (.tmp 4) 22 rfl w.heap.size 3 i0 1 intsUnder hi _ _ _ rfl ho.out rfl ?_)
    go_ret
    exact ⟨_, rfl, ho.out, (Below.refl _ _).alloc (Nat.le_refl _) _⟩
  | some ad =>
    have HR := Lib.hid hr; clear hr hA
    have hlen : Hid ((l.map (Value.int .i64)).length = n * 1) := by show List.length _ = _; rw [List.length_map]; have := HR.out.1; omega
    have hsrc : Hid (∀ j u, (l.map (Value.int .i64))[j]? = some u → (w.alloc (.cells #[] 3)).cell? (ad.add j) = some u) := by
      intro j u hu
      have hj : j < l.length := by
        have := (List.getElem?_eq_some_iff.1 hu).1
        simpa using this
      have hl := HR.out.1
      obtain ⟨ad', ha, hlt, hc⟩ := HR.out.2 (by omega)
      obtain rfl := Option.some.inj ha
      rw [World.cell?_alloc_lt w _ _ (by rw [addBlock]; exact hlt), hc j (by omega)]
      rw [List.getElem?_map, List.getElem?_eq_getElem hj] at hu
      simp at hu
      rw [← hu]
      simp [List.getD_eq_getElem?_getD, List.getElem?_eq_getElem hj]
    have hone := Lib.hid (one_ints l)
    obtain ⟨news, hnews⟩ : ∃ news, l.map (Value.int .i64) = news := ⟨_, rfl⟩
    rw [hnews] at hlen hsrc hone ⊢
    clear hnews
    go_enter Tryd.func9, Tryd.ntmps9
    go_wp2_with (at_builtin; refine wpList_append_own _ rfl (.tmp 3) (.tmp 4) 22 rfl w.heap.size 3 i0 (.int .i64 0) 1 8 intsUnder hi hz0 hz1 hz2 rfl (by decide) _ _ _ rfl ho.out ad n c news rfl hlen.out hsrc.out hone.out (by unfold maxLen; omega) (by omega) (by simp) ?_)
    intro v w2 ho2 hg2 _
    have b2 : Below w.heap.size w w2 := ((Below.refl _ _).alloc (Nat.le_refl _) _).grown hg2 (by simp) (fun g hg => (ho.out.lt g hg).1)
    have o2 := Lib.hid ho2
    have B2 := Lib.hid b2
    clear ho2 hg2 b2
    go_wp2
    go_ret
    refine ⟨_, rfl, ?_, B2.out⟩
    have := o2.out
    simpa using this

/-- A slice of the call's own as it reads. -/
theorem rd_own_c {w : World} {base : Nat} {e : TypeId} {v : Value} {n : Nat} {xs : List Int} (h : w.ownsRow base e 1 v n (xs.map (Value.int .i64))) :
    ∃ A c, v = .slice A n c ∧ n ≤ c ∧ c ≤ 9223372036854775807 ∧ RdI w A n xs := by
  obtain ⟨A, c, hv, hnc, hr⟩ := rd_of_own h
  refine ⟨A, c, hv, hnc, ?_, hr⟩
  rcases h.2 with ⟨h1, _⟩ | ⟨g, cap, cur, h1, _, _, _, hm, _⟩
  · rw [hv] at h1; cases h1; omega
  · rw [hv] at h1; cases h1; unfold maxLen at hm; omega

theorem is8_iArr_eq {arr : Array Value} {xs : List Int} (h : Is8 arr xs) : arr = iArr xs := h.lit.trans (is8_iArr xs h.len).lit.symm

end Go.Proofs.YtmeddnpahkigeaaDoor
