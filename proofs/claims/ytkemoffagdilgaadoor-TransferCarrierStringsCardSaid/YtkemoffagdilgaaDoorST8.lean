import Derived.Test.YtkemoffagdilgaaDoorST7
import Derived.Test.YtkemoffagdilgaaDoorSH
namespace Go.Proofs.YtkemoffagdilgaaDoor
open Go.RowKit

theorem good_num (l : List UInt8) : (∃ v, numS l 6 = some v ∧ 0 ≤ v) ↔ (numN l).isSome = true := by
  constructor
  · rintro ⟨v, h, h0⟩
    rw [numN_of_numS h h0]; rfl
  · intro h
    apply Classical.byContradiction
    intro hn
    have : numN l = none := numN_none fun k hk => by
      by_cases e : 0 ≤ k
      · exact absurd ⟨k, hk, e⟩ hn
      · omega
    rw [this] at h; cases h
theorem num_val (l : List UInt8) (h : (numN l).isSome = true) : (numS l 6).getD 0 = (((numN l).getD 0 : Nat) : Int) := by
  obtain ⟨v, h1, h2⟩ := (good_num l).2 h
  rw [h1, numN_of_numS h1 h2]
  simp; omega
theorem decFrom_mem (l : List UInt8) (b : UInt8) (hb : b ∈ l) (h : Lib.digitVal b = none) : ∀ acc, Lib.decFrom acc l = none := by
  induction l with
  | nil => cases hb
  | cons x t ih =>
    intro acc
    unfold Lib.decFrom
    rcases List.mem_cons.1 hb with rfl | hm
    · rw [h]
    · cases Lib.digitVal x with
      | none => rfl
      | some d => exact ih hm _
theorem numN_slash {l : List UInt8} (h : (47 : UInt8) ∈ l) : numN l = none := by
  unfold numN digs
  split
  · rfl
  · exact decFrom_mem l 47 h rfl 0
theorem numN_nil : numN [] = none := by unfold numN digs; simp

/-- The cut at the first '/', against all pieces. -/
theorem cut_cases (l : List UInt8) : (pcs 47 l = [l] ∧ Lib.cut l [47] = (l, [], false)) ∨ (∃ x z, Lib.cut l [47] = (x, z, true) ∧ pcs 47 l = x :: pcs 47 z ∧ (pcs 47 z = [z] ∨ (47 : UInt8) ∈ z ∧ 2 ≤ (pcs 47 z).length)) := by
  rcases idx_one l 47 with ⟨h1, h2⟩ | ⟨i, h1, h2, h3⟩
  · refine .inl ⟨pcs_miss _ _ h2, ?_⟩
    unfold Lib.cut
    rw [h1, if_neg (by omega)]
  · refine .inr ⟨l.take i, l.drop (i + 1), ?_, pcs_hit 47 l i h2 h3, ?_⟩
    · unfold Lib.cut
      rw [h1, if_pos (by omega)]
      simp
    · rcases idx_one (l.drop (i + 1)) 47 with ⟨_, e2⟩ | ⟨j, _, e2, e3⟩
      · exact .inl (pcs_miss _ _ e2)
      · refine .inr ⟨List.mem_of_getElem? e2, ?_⟩
        rw [pcs_hit 47 _ j e2 e3]
        have := List.length_pos_iff.2 (pcs_ne 47 ((l.drop (i + 1)).drop (j + 1)))
        simp only [List.length_cons]
        omega

def codeOK (k : Int) (c num den : List UInt8) : Bool := decide (0 ≤ k) && (numN c).isSome && (numN num).isSome && (numN den).isSome
/-- What the code makes of the parts. -/
def codeV (a : ByteArray) (k : Int) (c num den : List UInt8) : Array Value × Int :=
  if codeOK k c num den then (if carrE a.data.toList k ((numN c).getD 0 : Nat) ((numN num).getD 0 : Nat) ((numN den).getD 0 : Nat) = 0 then (cRow a k ((numN c).getD 0 : Nat) ((numN num).getD 0 : Nat) ((numN den).getD 0 : Nat), 0) else (noC, carrE a.data.toList k ((numN c).getD 0 : Nat) ((numN num).getD 0 : Nat) ((numN den).getD 0 : Nat))) else (noC, 7)

theorem codeV_bad (a : ByteArray) (k : Int) (c num den : List UInt8) (h : codeOK k c num den = false) : codeV a k c num den = (noC, 7) := by
  unfold codeV; rw [h]; rfl

theorem parV_code (a : ByteArray) (k : Int) (c : ByteArray) (l num den : List UInt8) (f : Bool) (hc : Lib.cut l [47] = (num, den, f)) :
    parV a k (pcs 47 l) c = codeV a k c.data.toList num den := by
  by_cases hk : k < 0
  · rw [parV_bad1 a k _ c (.inl hk), codeV_bad]
    unfold codeOK; rw [decide_eq_false (by omega)]; rfl
  rcases cut_cases l with ⟨h1, h2⟩ | ⟨x, z, h1, h2, h3⟩
  · rw [h2] at hc
    obtain ⟨rfl, rfl, rfl⟩ : l = num ∧ [] = den ∧ false = f := by simpa using hc
    rw [h1, parV_bad1 a k _ c (.inr (by simp)), codeV_bad]
    unfold codeOK; rw [numN_nil]; simp
  · rw [h1] at hc
    obtain ⟨rfl, rfl, rfl⟩ : x = num ∧ z = den ∧ true = f := by simpa using hc
    rcases h3 with h3 | ⟨h3, h4⟩
    · rw [h2, h3]
      obtain ⟨x', rfl⟩ : ∃ x' : ByteArray, x = x'.data.toList := ⟨⟨x.toArray⟩, by simp⟩
      obtain ⟨z', rfl⟩ : ∃ z' : ByteArray, z = z'.data.toList := ⟨⟨z.toArray⟩, by simp⟩
      by_cases hok : codeOK k c.data.toList x'.data.toList z'.data.toList = true
      · have hok2 := hok
        unfold codeOK at hok2
        simp only [Bool.and_eq_true] at hok2
        obtain ⟨⟨⟨_, o1⟩, o2⟩, o3⟩ := hok2
        have hg : ∀ j, j < 3 → goodP c x' z' j := by
          intro j hj
          rcases (show j = 0 ∨ j = 1 ∨ j = 2 by omega) with rfl | rfl | rfl
          · exact (good_num _).2 o1
          · exact (good_num _).2 o2
          · exact (good_num _).2 o3
        rw [parV_good a k c x' z' hk hg]
        unfold codeV
        rw [if_pos hok]
        have e0 : valP c x' z' 0 = (((numN c.data.toList).getD 0 : Nat) : Int) := num_val _ o1
        have e1 : valP c x' z' 1 = (((numN x'.data.toList).getD 0 : Nat) : Int) := num_val _ o2
        have e2 : valP c x' z' 2 = (((numN z'.data.toList).getD 0 : Nat) : Int) := num_val _ o3
        rw [e0, e1, e2]
      · have hok' := Bool.eq_false_iff.2 hok
        rw [codeV_bad _ _ _ _ _ hok']
        have : ∃ j, j < 3 ∧ ¬ goodP c x' z' j := by
          apply Classical.byContradiction
          intro hn
          have hg : ∀ j, j < 3 → goodP c x' z' j := fun j hj => Classical.byContradiction fun e => hn ⟨j, hj, e⟩
          apply hok
          unfold codeOK
          have g0 : (numN c.data.toList).isSome = true := (good_num _).1 (hg 0 (by omega))
          have g1 : (numN x'.data.toList).isSome = true := (good_num _).1 (hg 1 (by omega))
          have g2 : (numN z'.data.toList).isSome = true := (good_num _).1 (hg 2 (by omega))
          rw [g0, g1, g2, decide_eq_true (by omega)]
          rfl
        obtain ⟨j, hj, hb⟩ := this
        exact parV_bad2 a k c x' z' j hj hb
    · rw [parV_bad1 a k _ c (.inr (by rw [h2, List.length_cons]; omega)), codeV_bad]
      unfold codeOK; rw [numN_slash h3]; simp

/-- What the laws on strings ask of the world. -/
structure LaidS (w : World) : Prop where
  pr : Laid w
  kw : ∀ j, j < 3 → w.cell? ⟨0, j, none⟩ = some (.string (kws j))
  kl : 0 < w.heap.size
  ml : ∃ m : Int, w.cell? ⟨3, 0, none⟩ = some (.int .i64 m)
  mll : 3 < w.heap.size
  tab : Lib.TabIs Tryd.prog w "internal/strconv.uint64pow10" .u64 Lib.pow10Tab
theorem gTab : Tryd.prog.globalNamed "internal/strconv.uint64pow10" = some 2 := by kernel_rfl
theorem tab_below {w w' : World} (h : Lib.TabIs Tryd.prog w "internal/strconv.uint64pow10" .u64 Lib.pow10Tab) (hb : Below w.heap.size w w') : Lib.TabIs Tryd.prog w' "internal/strconv.uint64pow10" .u64 Lib.pow10Tab := by
  have hlt : 2 < w.heap.size := block_lt_of_cell (h.cell gTab 0 (by decide))
  unfold Lib.TabIs World.var? at h ⊢
  rw [gTab] at h ⊢
  simp only [Option.bind_some] at h ⊢
  rw [hb.block _ hlt]
  exact h
theorem LaidS.later {w w' : World} (h : LaidS w) (hb : Below w.heap.size w w') : LaidS w' :=
  ⟨h.pr.later hb, fun j hj => (hb.cell h.kl).trans (h.kw j hj), Nat.lt_of_lt_of_le h.kl hb.size, by obtain ⟨m, hm⟩ := h.ml; exact ⟨m, (hb.cell h.mll).trans hm⟩, Nat.lt_of_lt_of_le h.mll hb.size, tab_below h.tab hb⟩

theorem splitB_space (s : ByteArray) (n : Nat) (h : (pcs 32 s.data.toList).length = 4) : (Lib.splitB ⟨#[32]⟩ 0 (min 5 (s.size + 1) - 1) s).map (·.data.toList) = pcs 32 s.data.toList := by
  have hl : s.data.toList.length = s.size := by simp
  have h1 := pcs_len_le 32 s.data.toList
  rw [Lib.splitB_data]
  exact (splitK_pcs 32 _ _).2 (by omega)
theorem splitB_len (s : ByteArray) : ((Lib.splitB ⟨#[32]⟩ 0 (min 5 (s.size + 1) - 1) s).length = 4) = ((pcs 32 s.data.toList).length = 4) ∧ 1 ≤ (Lib.splitB ⟨#[32]⟩ 0 (min 5 (s.size + 1) - 1) s).length := by
  have hl : s.data.toList.length = s.size := by simp
  have h1 := pcs_len_le 32 s.data.toList
  have h0 := List.length_pos_iff.2 (pcs_ne 32 s.data.toList)
  have e : (Lib.splitB ⟨#[32]⟩ 0 (min 5 (s.size + 1) - 1) s).length = ((Lib.splitB ⟨#[32]⟩ 0 (min 5 (s.size + 1) - 1) s).map (·.data.toList)).length := by simp
  rw [e, Lib.splitB_data]
  have := (splitK_pcs 32 (min 5 (s.size + 1) - 1) s.data.toList).1
  have e2 : (⟨#[32]⟩ : ByteArray).data.toList = [32] := rfl
  rw [e2, this]
  refine ⟨propext ⟨fun h => by omega, fun h => by omega⟩, by omega⟩

end Go.Proofs.YtkemoffagdilgaaDoor
