import Derived.Test.YtmeddnpahkigeaaDoorPC
import Derived.Test.YtmeddnpahkigeaaDoorW21
import Derived.Laws.AppendOwnNone
import Derived.Laws.OwnMore
namespace Go.Proofs.YtmeddnpahkigeaaDoor
open Go.RowKit

theorem getD_cases (l : List Int) (k : Nat) (h : Bits01 l) : l.getD k 0 = 0 ∨ l.getD k 0 = 1 := by
  rcases Nat.lt_or_ge k l.length with hk | hk
  · have e : l.getD k 0 = l[k] := by simp [List.getD_eq_getElem?_getD, List.getElem?_eq_getElem hk]
    rw [e]; exact h _ (List.getElem_mem hk)
  · left; simp [List.getD_eq_getElem?_getD, List.getElem?_eq_none hk]
theorem take_snoc' (l : List Int) (k : Nat) (h : k < l.length) : l.take (k + 1) = l.take k ++ [l.getD k 0] := by
  rw [List.take_succ_eq_append_getElem h]
  simp [List.getD_eq_getElem?_getD, List.getElem?_eq_getElem h]
theorem Bits01.take {l : List Int} (h : Bits01 l) (k : Nat) : Bits01 (l.take k) := fun x hx => h x (List.mem_of_mem_take hx)
theorem Bits01.drop {l : List Int} (h : Bits01 l) (k : Nat) : Bits01 (l.drop k) := fun x hx => h x (List.mem_of_mem_drop hx)

theorem two_pow_le (k : Nat) (h : k ≤ 40) : (2 : Int) ^ k ≤ 1099511627776 := by
  have : ((2 ^ k : Nat) : Int) ≤ ((2 ^ 40 : Nat) : Int) := by exact_mod_cast Nat.pow_le_pow_right (by omega) h
  simpa using this
theorem numT_take_bd (l : List Int) (h : Bits01 l) (k : Nat) (hk : k ≤ 40) : 0 ≤ numT (l.take k) ∧ numT (l.take k) ≤ 1099511627776 := by
  have a := numT_bd (l.take k) (h.take k)
  have b := two_pow_le (l.take k).length (by rw [List.length_take]; omega)
  omega

/-- Where the first zero stands, or -1. -/
def idxE (l : List Int) : Int := if onesL l < l.length then (onesL l : Int) else -1
theorem onesL_of (l : List Int) (k : Nat) (hk : k < l.length) (h0 : ∀ j, j < k → l.getD j 0 ≠ 0) (h1 : l.getD k 0 = 0) : onesL l = k := by
  unfold onesL
  rw [List.findIdx_eq hk]
  have e : ∀ j (hj : j < l.length), l.getD j 0 = l[j] := fun j hj => by simp [List.getD_eq_getElem?_getD, List.getElem?_eq_getElem hj]
  refine ⟨by rw [← e k hk, h1]; rfl, fun j hj => ?_⟩
  have := h0 j hj
  rw [e j (by omega)] at this
  simpa using this
theorem onesL_end (l : List Int) (h0 : ∀ j, j < l.length → l.getD j 0 ≠ 0) : onesL l = l.length := by
  unfold onesL
  rw [List.findIdx_eq_length]
  intro x hx
  obtain ⟨j, hj, rfl⟩ := List.getElem_of_mem hx
  have := h0 j hj
  simpa [List.getD_eq_getElem?_getD, List.getElem?_eq_getElem hj] using this

theorem copyInts_some (ad : Addr) (n c : Nat) (l : List Int) (w : World) (hr : RdI w (some ad) n l) (hlt : ad.block < w.heap.size) (hn : n ≤ 1000000) :
    Calls Tryd.prog 9 #[.slice (some ad) n c] w fun e w' => ∃ v, e = .returned v ∧ w'.ownsRow w.heap.size 3 1 v n (l.map (Value.int .i64)) ∧ Below w.heap.size w w' := by
  have HR := Lib.hid hr; clear hr
  obtain ⟨i0, hi, hz0, hz1, hz2⟩ := info_parts intInfo
  have ho : Hid ((w.alloc (.cells #[] 3)).ownsRow w.heap.size 3 1 (.slice (some ⟨w.heap.size, 0, none⟩) 0 0) 0 []) := World.ownsRow_lit w #[] 0 (Nat.le_refl _) (by unfold maxLen; omega) rfl
  have hlen : Hid ((l.map (Value.int .i64)).length = n * 1) := by show List.length _ = _; rw [List.length_map]; have := HR.out.1; omega
  have hsrc : Hid (∀ j u, (l.map (Value.int .i64))[j]? = some u → (w.alloc (.cells #[] 3)).cell? (ad.add j) = some u) := by
    intro j u hu
    have hj : j < l.length := by
      have := (List.getElem?_eq_some_iff.1 hu).1
      simpa using this
    have hl := HR.out.1
    obtain ⟨ad', ha, _, hc⟩ := HR.out.2 (by omega)
    obtain rfl := Option.some.inj ha
    rw [World.cell?_alloc_lt w _ _ (by rw [addBlock]; exact hlt), hc j (by omega)]
    rw [List.getElem?_map, List.getElem?_eq_getElem hj] at hu
    simp at hu
    rw [← hu]
    simp [List.getD_eq_getElem?_getD, List.getElem?_eq_getElem hj]
  have hone := Lib.hid (one_ints l)
  obtain ⟨news, hnews⟩ : ∃ news, l.map (Value.int .i64) = news := ⟨_, rfl⟩
  rw [hnews] at hlen hsrc hone ⊢
  clear hnews
  go_enter Tryd.func9, Tryd.ntmps9
  go_wp2_with (at_builtin; refine wpList_append_own _ rfl (.tmp 3) (.tmp 4) 22 rfl w.heap.size 3 i0 (.int .i64 0) 1 8 intsUnder hi hz0 hz1 hz2 rfl (by decide) _ _ _ rfl ho.out ad n c news rfl hlen.out hsrc.out hone.out (by unfold maxLen; omega) (by omega) (by simp) ?_)
  intro v w2 ho2 hg2 _
  have b2 : Below w.heap.size w w2 := ((Below.refl _ _).alloc (Nat.le_refl _) _).grown hg2 (by simp) (fun g hg => (ho.out.lt g hg).1)
  have o2 := Lib.hid ho2
  have B2 := Lib.hid b2
  clear ho2 hg2 b2
  go_wp2
  go_ret
  refine ⟨_, rfl, ?_, B2.out⟩
  have := o2.out
  simpa using this

end Go.Proofs.YtmeddnpahkigeaaDoor
