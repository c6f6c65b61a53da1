import Derived.Test.YtkemoffagdilgaaGreatDoorST6
import Derived.Test.YtkemoffagdilgaaGreatDoorSH
import Derived.Test.YtkemoffagdilgaaGreatDoorW16
namespace Go.Proofs.YtkemoffagdilgaaGreatDoor
open Go.RowKit

theorem goodNum (l : List UInt8) : (∃ v, numS l 6 = some v ∧ 0 ≤ v) ↔ (numN l).isSome = true := by
  constructor
  · rintro ⟨v, h, h0⟩
    rw [numN_of_numS h h0]; rfl
  · intro h
    apply Classical.byContradiction
    intro hn
    have : numN l = none := numN_none fun k hk => by
      by_cases e : 0 ≤ k
      · exact absurd ⟨k, hk, e⟩ hn
      · omega
    rw [this] at h; cases h
theorem goodVal (l : List UInt8) (h : (numN l).isSome = true) : (numS l 6).getD 0 = (((numN l).getD 0 : Nat) : Int) := by
  obtain ⟨v, h1, h2⟩ := (goodNum l).2 h
  rw [h1, numN_of_numS h1 h2]
  simp; omega

/-- What the laws on blocks' strings ask of the world. -/
structure LaidB (w : World) : Prop where
  pr : Laid w
  ml : ∃ m : Int, w.cell? ⟨2, 0, none⟩ = some (.int .i64 m)
  mll : 2 < w.heap.size
  tab : Lib.TabIs Tryz.prog w "internal/strconv.uint64pow10" .u64 Lib.pow10Tab
theorem gTabB : Tryz.prog.globalNamed "internal/strconv.uint64pow10" = some 1 := by kernel_rfl
theorem tabB_below {w w' : World} (h : Lib.TabIs Tryz.prog w "internal/strconv.uint64pow10" .u64 Lib.pow10Tab) (hb : Below w.heap.size w w') : Lib.TabIs Tryz.prog w' "internal/strconv.uint64pow10" .u64 Lib.pow10Tab := by
  have hlt : 1 < w.heap.size := block_lt_of_cell (h.cell gTabB 0 (by decide))
  unfold Lib.TabIs World.var? at h ⊢
  rw [gTabB] at h ⊢
  simp only [Option.bind_some] at h ⊢
  rw [hb.block _ hlt]
  exact h
theorem LaidB.later {w w' : World} (h : LaidB w) (hb : Below w.heap.size w w') : LaidB w' :=
  ⟨h.pr.later hb, by obtain ⟨m, hm⟩ := h.ml; exact ⟨m, (hb.cell h.mll).trans hm⟩, Nat.lt_of_lt_of_le h.mll hb.size, tabB_below h.tab hb⟩
theorem LaidB.drew {w : World} (h : LaidB w) : LaidB w.drew := h.later (Below.refl _ _).drew
theorem LaidB.alloc {w : World} (h : LaidB w) (o : Obj) : LaidB (w.alloc o) := h.later ((Below.refl _ _).alloc (Nat.le_refl _) _)

theorem growB_below (w : World) (k : Nat) (os : Array Obj) : Below w.heap.size w (Go.Sort.grow (w.drewN k) os) :=
  ⟨rfl, rfl, rfl, by simp [Go.Sort.grow], fun i hi => by
    show (w.heap ++ os)[i]? = _
    rw [Array.getElem?_append_left hi]⟩
theorem itoaB_form (n : Int) (h0 : -9223372036854775808 ≤ n) (h1 : n ≤ 9223372036854775807) (X : ByteArray) (hX : (⟨(Lib.itoa n).toArray⟩ : ByteArray) = X) (w : World) (hl : LaidB w) :
    Calls Tryz.prog 16 #[.int .i64 n] w fun e w' => e = .returned (.string X) ∧ Below w.heap.size w w' := by
  refine Calls.mono (Tryz.strconv_Itoa n h0 h1 w hl.tab) ?_
  rintro e w' ⟨rfl, k, os, rfl⟩
  rw [hX]
  exact ⟨rfl, growB_below _ _ _⟩

theorem splitB_11 (s : ByteArray) (h : (pcs 32 s.data.toList).length = 11) : (Lib.splitB ⟨#[32]⟩ 0 (min 12 (s.size + 1) - 1) s).map (·.data.toList) = pcs 32 s.data.toList := by
  have hl : s.data.toList.length = s.size := by simp
  have h1 := pcs_len_le 32 s.data.toList
  rw [Lib.splitB_data]
  exact (splitK_pcs 32 _ _).2 (by omega)
theorem splitB_11len (s : ByteArray) : ((Lib.splitB ⟨#[32]⟩ 0 (min 12 (s.size + 1) - 1) s).length = 11) = ((pcs 32 s.data.toList).length = 11) ∧ 1 ≤ (Lib.splitB ⟨#[32]⟩ 0 (min 12 (s.size + 1) - 1) s).length := by
  have hl : s.data.toList.length = s.size := by simp
  have h1 := pcs_len_le 32 s.data.toList
  have h0 := List.length_pos_iff.2 (pcs_ne 32 s.data.toList)
  have e : (Lib.splitB ⟨#[32]⟩ 0 (min 12 (s.size + 1) - 1) s).length = ((Lib.splitB ⟨#[32]⟩ 0 (min 12 (s.size + 1) - 1) s).map (·.data.toList)).length := by simp
  rw [e, Lib.splitB_data]
  have := (splitK_pcs 32 (min 12 (s.size + 1) - 1) s.data.toList).1
  have e2 : (⟨#[32]⟩ : ByteArray).data.toList = [32] := rfl
  rw [e2, this]
  refine ⟨propext ⟨fun h => by omega, fun h => by omega⟩, by omega⟩
theorem cellsB_at (done : List ByteArray) (N k : Nat) (x : ByteArray) (h : done[k]? = some x) : (Lib.cellsOf done N)[k]? = some (.string x) := by
  have hk := (List.getElem?_eq_some_iff.1 h).1
  unfold Lib.cellsOf
  rw [← Array.getElem?_toList]
  simp only []
  rw [List.getElem?_append_left (by simpa using hk), List.getElem?_map, h]
  rfl

theorem splitNB_form (s : ByteArray) (w : World) (hl : LaidB w) (hs : s.size ≤ 1000000) :
    Calls Tryz.prog 65 #[.string s, .string ⟨#[32]⟩, .int .i64 12] w fun e w' => ∃ n cp, e = .returned (.slice (some ⟨w.heap.size, 0, none⟩) n cp) ∧ ((n = 11) = ((pcs 32 s.data.toList).length = 11)) ∧ 1 ≤ n ∧ ((pcs 32 s.data.toList).length = 11 → ∀ k x, (pcs 32 s.data.toList)[k]? = some x → w'.cell? ⟨w.heap.size, k, none⟩ = some (sv x)) ∧ w.heap.size < w'.heap.size ∧ Below w.heap.size w w' := by
  obtain ⟨m, hm⟩ := hl.ml
  have h := Tryz.strings_SplitN s ⟨#[32]⟩ 12 m w (by omega) hm (by decide) (by omega) (by omega)
  refine Calls.mono h ?_
  rintro e w' ⟨rfl, rfl⟩
  refine ⟨_, _, rfl, (splitB_11len s).1, (splitB_11len s).2, fun h4 k x hx => ?_, by simp, (Below.refl _ _).alloc (Nat.le_refl _) _⟩
  rw [← splitB_11 s h4, List.getElem?_map] at hx
  cases hd : (Lib.splitB ⟨#[32]⟩ 0 (min 12 (s.size + 1) - 1) s)[k]? with
  | none => rw [hd] at hx; cases hx
  | some y =>
    rw [hd] at hx
    have hxy : y.data.toList = x := Option.some.inj hx
    rw [← hxy, ← sv_of, (Bk.new w 9 _).cell]
    exact cellsB_at _ _ _ _ hd

theorem wordsB_any (s : ByteArray) (w : World) (hl : LaidB w) (hs : s.size ≤ 1000000) :
    Calls Tryz.prog 44 #[.string s, .int .i64 11] w fun e w' => ∃ n cp, e = .returned (.tuple #[.slice (some ⟨w.heap.size, 0, none⟩) n cp, .bool (decide ((pcs 32 s.data.toList).length = 11))]) ∧ ((pcs 32 s.data.toList).length = 11 → n = 11) ∧ 1 ≤ n ∧ ((pcs 32 s.data.toList).length = 11 → ∀ k x, (pcs 32 s.data.toList)[k]? = some x → w'.cell? ⟨w.heap.size, k, none⟩ = some (sv x)) ∧ w.heap.size < w'.heap.size ∧ Below w.heap.size w w' := by
  have C := Lib.hid (splitNB_form s w hl hs)
  clear hl hs
  go_enter Tryz.func44, Tryz.ntmps44
  go_wp2_with fail
  refine C.out.mono ?_
  rintro e w' ⟨n, cp, rfl, h1, h2, h3, h4, h5⟩
  have H := Lib.hid (And.intro h3 (And.intro h4 h5))
  have hd : Hid (((n : Int) == 11) = decide ((pcs 32 s.data.toList).length = 11)) := by
    show _ = _
    by_cases e : n = 11
    · rw [decide_eq_true (h1 ▸ e), e]; rfl
    · rw [decide_eq_false (h1 ▸ e)]; exact beq_eq_false_iff_ne.2 (by omega)
  have H1 := Lib.hid h1
  have H2 := Lib.hid h2
  clear h1 h2 h3 h4 h5
  go_wp2
  go_ret2
  exact ⟨n, cp, by rw [hd.out]; rfl, fun h => by rw [← H1.out] at h; exact h, H2.out, H.out⟩

/-! A number that may have a sign. -/
theorem trim_minus (l : List UInt8) : Lib.hasPrefix l [45] = decide (l.head? = some 45) ∧ Lib.trimPrefix l [45] = if l.head? = some 45 then l.tail else l := by
  cases l with
  | nil => simp [Lib.hasPrefix, Lib.trimPrefix]
  | cons b t =>
    by_cases h : b = 45
    · subst h; simp [Lib.hasPrefix, Lib.trimPrefix]
    · have : (45 : UInt8) ≠ b := fun e => h e.symm
      have hp : [45].isPrefixOf (b :: t) = false := by simp [List.isPrefixOf, this]
      simp [Lib.hasPrefix, Lib.trimPrefix, h, this, hp]

set_option maxRecDepth 100000 in
set_option maxHeartbeats 2000000 in
theorem signed_any (s : ByteArray) (w : World) (hs : s.size ≤ 1000000) :
    Calls Tryz.prog 46 #[.string s] w fun e w' => ∃ v, e = .returned (.tuple #[.int .i64 v, .bool (numS s.data.toList 6).isSome]) ∧ ((numS s.data.toList 6).isSome = true → v = (numS s.data.toList 6).getD 0) ∧ w = w' := by
  rw [← numG_eq]
  obtain ⟨t1, t2⟩ := trim_minus s.data.toList
  have CP := Lib.hid (Tryz.strings_CutPrefix s ⟨#[45]⟩ w)
  rw [show (⟨#[45]⟩ : ByteArray).data.toList = [45] from rfl, t1, t2] at CP
  have hz : ∀ z : ByteArray, z.data.toList.length = z.size := fun z => by simp
  by_cases hm : s.data.toList.head? = some 45
  · obtain ⟨r, hr⟩ : ∃ r : ByteArray, (⟨s.data.toList.tail.toArray⟩ : ByteArray) = r := ⟨_, rfl⟩
    have hrl : r.data.toList = s.data.toList.tail := by rw [← hr]
    have hrz : r.size ≤ 1000000 := by rw [← hz, hrl, List.length_tail, hz]; omega
    have CN := Lib.hid (wordNum_any r w (by omega))
    rw [if_pos hm, decide_eq_true hm, hr] at CP
    have HG : Hid (numG s.data.toList = match numN r.data.toList with | some n => if n = 0 then none else some (-(n : Int)) | none => none) := by
      show _ = _
      unfold numG
      rw [if_pos hm, hrl]
      rfl
    obtain ⟨N, hN⟩ : ∃ N, numN r.data.toList = N := ⟨_, rfl⟩
    rw [hN] at CN HG
    have hbd : ∀ n, N = some n → n < 1000000 := fun n h => by
      have := digs_bd (hN.trans h); simpa using this
    clear hr hrl hrz hN t1 t2 hm hz hs
    cases N with
    | none =>
      go_enter Tryz.func46, Tryz.ntmps46
      go_wp2_with (first
        | (go_at_call 67; refine CP.out.mono ?_; rintro e w' ⟨rfl, rfl⟩)
        | (go_at_call 45; refine CN.out.mono ?_; rintro e w' ⟨rfl, rfl⟩))
      go_ret2
      refine ⟨0, ?_, ?_, rfl⟩
      · rw [HG.out]; rfl
      · intro h; rw [HG.out] at h; cases h
    | some n =>
      have hb := hbd n rfl
      clear hbd
      have hw : IntKind.i64.wrap (-(n : Int)) = -(n : Int) := IntWalk.i64_in _ (by omega)
      by_cases h0 : n = 0
      · subst h0
        go_enter Tryz.func46, Tryz.ntmps46
        go_wp2_with (first
          | (go_at_call 67; refine CP.out.mono ?_; rintro e w' ⟨rfl, rfl⟩)
          | (go_at_call 45; refine CN.out.mono ?_; rintro e w' ⟨rfl, rfl⟩))
        go_ret2
        refine ⟨0, ?_, ?_, rfl⟩
        · rw [HG.out]; rfl
        · intro h; rw [HG.out] at h; cases h
      · have hne : ((n : Int) != 0) = true := bne_iff_ne.2 (by omega)
        have HG2 : Hid (numG s.data.toList = some (-(n : Int))) := by show _ = _; rw [HG.out]; dsimp only; rw [if_neg h0]
        clear HG h0
        go_enter Tryz.func46, Tryz.ntmps46
        go_wp2_with (first
          | (go_at_call 67; refine CP.out.mono ?_; rintro e w' ⟨rfl, rfl⟩)
          | (go_at_call 45; refine CN.out.mono ?_; rintro e w' ⟨rfl, rfl⟩))
        go_ret2
        refine ⟨(-(n : Int)), ?_, ?_, rfl⟩
        · rw [HG2.out]; rfl
        · intro h; rw [HG2.out]; rfl
  · have CN := Lib.hid (wordNum_any s w (by omega))
    rw [if_neg hm, decide_eq_false hm] at CP
    have hs' : (⟨s.data.toList.toArray⟩ : ByteArray) = s := by apply ByteArray.ext; simp
    rw [hs'] at CP
    have HG : Hid (numG s.data.toList = (numN s.data.toList).map fun (n : Nat) => (n : Int)) := by
      show _ = _
      unfold numG
      rw [if_neg hm]
    obtain ⟨N, hN⟩ : ∃ N, numN s.data.toList = N := ⟨_, rfl⟩
    rw [hN] at CN HG
    clear hN t1 t2 hm hz hs hs'
    go_enter Tryz.func46, Tryz.ntmps46
    go_wp2_with (first
      | (go_at_call 67; refine CP.out.mono ?_; rintro e w' ⟨rfl, rfl⟩)
      | (go_at_call 45; refine CN.out.mono ?_; rintro e w' ⟨rfl, rfl⟩))
    go_ret2
    cases N with
    | none =>
      refine ⟨0, ?_, ?_, rfl⟩
      · rw [HG.out]; rfl
      · intro h; rw [HG.out] at h; cases h
    | some n =>
      refine ⟨(n : Int), ?_, ?_, rfl⟩
      · rw [HG.out]; rfl
      · intro h; rw [HG.out]; rfl

end Go.Proofs.YtkemoffagdilgaaGreatDoor

namespace Go.Proofs.YtkemoffagdilgaaGreatDoor
open Go.RowKit

theorem pcs_sz' (c : UInt8) (l : List UInt8) : ∀ p ∈ pcs c l, p.length ≤ l.length := by
  induction l with
  | nil => intro p hp; simp [pcs] at hp; simp [hp]
  | cons b t ih =>
    intro p hp
    unfold pcs at hp
    split at hp
    · rcases List.mem_cons.1 hp with rfl | h
      · simp
      · have := ih p h; simp only [List.length_cons]; omega
    · cases h : pcs c t with
      | nil => exact absurd h (pcs_ne c t)
      | cons q qs =>
        rw [h] at hp ih
        rcases List.mem_cons.1 hp with rfl | h
        · have := ih q (by simp); simp only [List.length_cons]; omega
        · have := ih p (by simp [h]); simp only [List.length_cons]; omega
def tB (ps : List (List UInt8)) (i : Nat) : List UInt8 := ps.getD i []
def valB (ps : List (List UInt8)) (i : Nat) : Int := (numS (tB ps i) 6).getD 0
def goodB (ps : List (List UInt8)) (i : Nat) : Prop := ∃ v, numS (tB ps i) 6 = some v ∧ (0 ≤ v ∨ (2 ≤ i ∧ i ≤ 9))
abbrev bRow (f : Nat → Int) : Array Value := #[.int .i64 (f 0), .int .i64 (f 1), .int .i64 (f 2), .int .i64 (f 3), .int .i64 (f 4), .int .i64 (f 5), .int .i64 (f 6), .int .i64 (f 7), .int .i64 (f 8), .int .i64 (f 9), .int .i64 (f 10)]
abbrev noB : Array Value := #[.int .i64 0, .int .i64 0, .int .i64 0, .int .i64 0, .int .i64 0, .int .i64 0, .int .i64 0, .int .i64 0, .int .i64 0, .int .i64 0, .int .i64 0]
theorem j11 {j : Nat} (h : j < 11) : j = 0 ∨ j = 1 ∨ j = 2 ∨ j = 3 ∨ j = 4 ∨ j = 5 ∨ j = 6 ∨ j = 7 ∨ j = 8 ∨ j = 9 ∨ j = 10 := by omega
theorem bRow_at (f : Nat → Int) (j : Nat) (h : j < 11) : (bRow f)[j]? = some (.int .i64 (f j)) := by
  rcases j11 h with rfl | rfl | rfl | rfl | rfl | rfl | rfl | rfl | rfl | rfl | rfl <;> rfl
def upB (ps : List (List UInt8)) (j : Nat) : Nat → Int := fun i => if i < j then valB ps i else 0
theorem bRow_step (ps : List (List UInt8)) (j : Nat) (h : j < 11) : (bRow (upB ps j)).setIfInBounds j (.int .i64 (valB ps j)) = bRow (upB ps (j + 1)) := by
  rcases j11 h with rfl | rfl | rfl | rfl | rfl | rfl | rfl | rfl | rfl | rfl | rfl <;> simp [bRow, upB]
theorem bRow_zero (ps : List (List UInt8)) : bRow (upB ps 0) = noB := by simp [bRow, upB, noB]
theorem bRow_all (ps : List (List UInt8)) : bRow (upB ps 11) = bRow (valB ps) := by simp [bRow, upB]
theorem upB_at (ps : List (List UInt8)) (j : Nat) : upB ps j j = 0 := by simp [upB]
def errB (f : Nat → Int) : Int := blockE (f 0) (f 1) [f 2, f 3, f 4, f 5, f 6, f 7, f 8, f 9] (f 10)
open Classical in
/-- What the pieces of a string are read as. -/
noncomputable def parB (ps : List (List UInt8)) : Array Value × Int :=
  if ps.length = 11 ∧ ∀ i, i < 11 → goodB ps i then (if errB (valB ps) = 0 then (bRow (valB ps), 0) else (noB, errB (valB ps))) else (noB, 7)
theorem parB_len {ps : List (List UInt8)} (h : ps.length ≠ 11) : parB ps = (noB, 7) := by
  unfold parB; rw [if_neg (fun e => h e.1)]
theorem parB_bad {ps : List (List UInt8)} (j : Nat) (hj : j < 11) (h : ¬ goodB ps j) : parB ps = (noB, 7) := by
  unfold parB; rw [if_neg (fun e => h (e.2 j hj))]
theorem parB_good {ps : List (List UInt8)} (hl : ps.length = 11) (h : ∀ i, i < 11 → goodB ps i) : parB ps = if errB (valB ps) = 0 then (bRow (valB ps), 0) else (noB, errB (valB ps)) := by
  unfold parB; rw [if_pos ⟨hl, h⟩]
theorem valB_bd (ps : List (List UInt8)) (i : Nat) : -1000000 < valB ps i ∧ valB ps i < 1000000 := by
  unfold valB
  cases h : numS (tB ps i) 6 with
  | none => simp
  | some v => have := numS_bd h; simp at this ⊢; omega
theorem casesB (ps : List (List UInt8)) (i : Nat) : (goodB ps i ∧ (numS (tB ps i) 6).isSome = true ∧ 0 ≤ valB ps i) ∨ (goodB ps i ∧ (numS (tB ps i) 6).isSome = true ∧ valB ps i < 0 ∧ (2 ≤ i ∧ i ≤ 9)) ∨ (¬ goodB ps i ∧ (numS (tB ps i) 6).isSome = false) ∨ (¬ goodB ps i ∧ (numS (tB ps i) 6).isSome = true ∧ valB ps i < 0 ∧ ¬ (2 ≤ i ∧ i ≤ 9)) := by
  unfold goodB valB
  cases h : numS (tB ps i) 6 with
  | none => exact .inr (.inr (.inl ⟨(fun ⟨_, e, _⟩ => by cases e), rfl⟩))
  | some v =>
    by_cases hv : 0 ≤ v
    · exact .inl ⟨⟨v, rfl, .inl hv⟩, rfl, hv⟩
    · by_cases hi : 2 ≤ i ∧ i ≤ 9
      · exact .inr (.inl ⟨⟨v, rfl, .inr hi⟩, rfl, by simp; omega, hi⟩)
      · exact .inr (.inr (.inr ⟨(fun ⟨u, e, hu⟩ => by cases e; exact hu.elim hv hi), rfl, by simp; omega, hi⟩))

theorem blkInfB : (Tryz.prog.info? 24).map (·.size) = some 11 := by kernel_rfl
theorem blkInfR (f : Nat → Int) : (Tryz.prog.info? 24).map (·.size) = some (bRow f).size := blkInfB
theorem blkInfN : (Tryz.prog.info? 24).map (·.size) = some noB.size := blkInfB
theorem arrInf11 : (Tryz.prog.info? 51).map (·.size) = some 11 := by kernel_rfl
theorem bRow_one (f : Nat → Int) : (bRow f).all (·.oneCell') = true := by simp [bRow, Value.oneCell']
theorem noB_one : noB.all (·.oneCell') = true := by simp [noB, Value.oneCell']
theorem bRow_size (f : Nat → Int) : noB.size = (bRow f).size := rfl
theorem noB_size : noB.size = noB.size := rfl

/-- The result's row. -/
structure RB (w wr : World) : Prop where
  g0 : Bk wr w.heap.size 24 noB
  bel : Below w.heap.size w wr
theorem RB.lt {w wr : World} (h : RB w wr) : w.heap.size < wr.heap.size := h.g0.lt
theorem RB.later {w wr wr' : World} (h : RB w wr) (hb : Below wr.heap.size wr wr') : RB w wr' :=
  ⟨h.g0.below hb h.lt, h.bel.trans (hb.mono (by have := h.lt; omega))⟩
theorem RB.above {w wr wr' : World} {B : Nat} (h : RB w wr) (hb : Below B wr wr') (hB : w.heap.size + 1 ≤ B) : RB w wr' :=
  ⟨h.g0.below hb (by omega), h.bel.trans (hb.mono (by omega))⟩
theorem RB.drew {w wr : World} (h : RB w wr) : RB w wr.drew := ⟨h.g0.drew, h.bel.drew⟩
theorem rb_start (w : World) : RB w (w.alloc (.cells noB 24)) := ⟨Bk.new w _ _, (Below.refl _ _).alloc (Nat.le_refl _) _⟩
theorem RB.fin {w wr : World} (h : RB w wr) (cs : Array Value) : Bk (wr.setRow w.heap.size cs) w.heap.size 24 cs ∧ Below w.heap.size w (wr.setRow w.heap.size cs) :=
  ⟨setRow_heap wr w.heap.size _ cs _ _ h.g0, below_setRow h.bel (Nat.le_refl _) cs⟩

end Go.Proofs.YtkemoffagdilgaaGreatDoor

