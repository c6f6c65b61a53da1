import Derived.Test.YtjjflbnopphciaaGreatDoorGS7
import Derived.Test.YtjjflbnopphciaaGreatDoorGSH
import Derived.Test.YtjjflbnopphciaaGreatDoorA2
namespace Go.Proofs.YtjjflbnopphciaaGreatDoor
open Go.RowKit

/-- What the strings of this chapter need to lie in memory: the sides, the greatest length of a needle, the powers of ten, and both sentinels of strconv. -/
structure LaidG (w : World) : Prop where
  sd : LaidSides w
  ml : ∃ m : Int, w.cell? ⟨2, 0, none⟩ = some (.int .i64 m)
  tab : Lib.TabIs Tryz.prog w "internal/strconv.uint64pow10" .u64 Lib.pow10Tab
  es : ∃ te pe, w.cell? ⟨3, 0, none⟩ = some (.iface te pe)
  er : ∃ te pe, w.cell? ⟨4, 0, none⟩ = some (.iface te pe)
theorem gTabG : Tryz.prog.globalNamed "internal/strconv.uint64pow10" = some 1 := by kernel_rfl
theorem tabG_below {w w' : World} (h : Lib.TabIs Tryz.prog w "internal/strconv.uint64pow10" .u64 Lib.pow10Tab) (hb : Below w.heap.size w w') : Lib.TabIs Tryz.prog w' "internal/strconv.uint64pow10" .u64 Lib.pow10Tab := by
  have hlt : 1 < w.heap.size := block_lt_of_cell (h.cell gTabG 0 (by decide))
  unfold Lib.TabIs World.var? at h ⊢
  rw [gTabG] at h ⊢
  simp only [Option.bind_some] at h ⊢
  rw [hb.block _ hlt]
  exact h
theorem cellG_later {w w' : World} {a : Addr} {v : Value} (h : w.cell? a = some v) (hb : Below w.heap.size w w') : w'.cell? a = some v := (hb.cell (block_lt_of_cell h)).trans h
theorem LaidG.later {w w' : World} (h : LaidG w) (hb : Below w.heap.size w w') : LaidG w' :=
  ⟨h.sd.later hb, by obtain ⟨m, hm⟩ := h.ml; exact ⟨m, cellG_later hm hb⟩, tabG_below h.tab hb, by obtain ⟨t, p, hm⟩ := h.es; exact ⟨t, p, cellG_later hm hb⟩, by obtain ⟨t, p, hm⟩ := h.er; exact ⟨t, p, cellG_later hm hb⟩⟩
theorem LaidG.drew {w : World} (h : LaidG w) : LaidG w.drew := h.later (Below.refl _ _).drew
theorem LaidG.alloc {w : World} (h : LaidG w) (o : Obj) : LaidG (w.alloc o) := h.later ((Below.refl _ _).alloc (Nat.le_refl _) _)

theorem growG_below (w : World) (k : Nat) (os : Array Obj) : Below w.heap.size w (Go.Sort.grow (w.drewN k) os) :=
  ⟨rfl, rfl, rfl, by simp [Go.Sort.grow], fun i hi => by
    show (w.heap ++ os)[i]? = _
    rw [Array.getElem?_append_left hi]⟩
theorem itoaG_form (n : Int) (h0 : -9223372036854775808 ≤ n) (h1 : n ≤ 9223372036854775807) (X : ByteArray) (hX : (⟨(Lib.itoa n).toArray⟩ : ByteArray) = X) (w : World) (hl : LaidG w) :
    Calls Tryz.prog 36 #[.int .i64 n] w fun e w' => e = .returned (.string X) ∧ Below w.heap.size w w' := by
  refine Calls.mono (Tryz.strconv_Itoa n h0 h1 w hl.tab) ?_
  rintro e w' ⟨rfl, k, os, rfl⟩
  rw [hX]
  exact ⟨rfl, growG_below _ _ _⟩

theorem pcs_len (c : UInt8) (l : List UInt8) : (pcs c l).length = l.count c + 1 := by
  induction l with
  | nil => simp [pcs]
  | cons b t ih =>
    unfold pcs
    by_cases h : b = c
    · rw [if_pos h]; subst h
      simp [ih]
    · rw [if_neg h, List.count_cons, if_neg (by simpa using h)]
      cases hp : pcs c t with
      | nil => exact absurd hp (pcs_ne c t)
      | cons p ps => rw [hp] at ih; simpa using ih
theorem countG (s : ByteArray) : Lib.countB s ⟨#[32]⟩ = s.data.toList.count 32 := Lib.count_one 32 s.data.toList
theorem splitG (s : ByteArray) : (Lib.splitB ⟨#[32]⟩ 0 (Lib.countB s ⟨#[32]⟩) s).map (·.data.toList) = pcs 32 s.data.toList := by
  rw [Lib.splitB_data]
  have e2 : (⟨#[32]⟩ : ByteArray).data.toList = [32] := rfl
  rw [e2]
  refine (splitK_pcs 32 _ s.data.toList).2 ?_
  rw [pcs_len, countG]
  exact Nat.le_refl _
theorem splitG_form (s : ByteArray) (w : World) (hl : LaidG w) (hs : s.size ≤ 1000000) (ps : List (List UInt8)) (n : Nat) (hps : pcs 32 s.data.toList = ps) (hn : ps.length = n) :
    Calls Tryz.prog 69 #[.string s, .string ⟨#[32]⟩] w fun e w' => e = .returned (.slice (some ⟨w.heap.size, 0, none⟩) n n) ∧ (∀ k x, ps[k]? = some x → w'.cell? ⟨w.heap.size, k, none⟩ = some (sv x)) ∧ w.heap.size < w'.heap.size ∧ Below w.heap.size w w' := by
  obtain ⟨m, hm⟩ := hl.ml
  have h := Tryz.strings_Split s ⟨#[32]⟩ m w (by omega) hm (by decide)
  refine Calls.mono h ?_
  rintro e w' ⟨rfl, rfl⟩
  have hc : Lib.countB s ⟨#[32]⟩ + 1 = n := by rw [countG, ← pcs_len, hps, hn]
  rw [hc]
  refine ⟨rfl, fun k x hx => ?_, by simp, (Below.refl _ _).alloc (Nat.le_refl _) _⟩
  rw [← hps, ← splitG, List.getElem?_map] at hx
  cases hd : (Lib.splitB ⟨#[32]⟩ 0 (Lib.countB s ⟨#[32]⟩) s)[k]? with
  | none => rw [hd] at hx; cases hx
  | some y =>
    rw [hd] at hx
    have hxy : y.data.toList = x := Option.some.inj hx
    rw [← hxy, ← sv_of, (Bk.new w 9 _).cell, ← Array.getElem?_toList, List.getElem?_map, hd]
    rfl

/-- Atoi at any word: a number and no error, or an error. -/
theorem atoiG (s : ByteArray) (hs : s.size ≤ 1000000) (w : World) (hl : LaidG w) :
    Calls Tryz.prog 70 #[.string s] w fun e w' => ((∃ v, Lib.atoiAll s.data.toList = .ok v ∧ e = .returned (.tuple #[.int .i64 v, .nilIface])) ∨ (∃ v t p, (∀ k, Lib.atoiAll s.data.toList ≠ .ok k) ∧ e = .returned (.tuple #[.int .i64 v, .iface t p]))) ∧ Below w.heap.size w w' := by
  have hbad : ∀ k, Lib.atoiAll [] ≠ .ok k := fun k e => by cases e
  cases h : Lib.atoiAll s.data.toList
  · rename_i v
    refine Calls.mono (Tryz.strconv_Atoi_ok s (by omega) v h w) ?_
    rintro e w' ⟨rfl, hw⟩
    refine ⟨.inl ⟨v, rfl, rfl⟩, ?_⟩
    rcases hw with rfl | ⟨t, rfl⟩
    · exact Below.refl _ _
    · exact Lib.bytesWorld_below _ _ _
  · obtain ⟨te, pe, hv⟩ := hl.es
    refine Calls.mono (Tryz.strconv_Atoi_bad s (by omega) h _ w hv (.inr ⟨te, pe, rfl⟩)) ?_
    rintro e w' ⟨N, rfl, _, _, hb⟩
    exact ⟨.inr ⟨_, _, _, hbad, rfl⟩, hb⟩
  · obtain ⟨te, pe, hv⟩ := hl.er
    refine Calls.mono (Tryz.strconv_Atoi_range s (by omega) h _ w hv (.inr ⟨te, pe, rfl⟩)) ?_
    rintro e w' ⟨N, rfl, _, _, hb⟩
    exact ⟨.inr ⟨_, _, _, fun k e => (by cases e), rfl⟩, hb⟩
end Go.Proofs.YtjjflbnopphciaaGreatDoor
