import Derived.Lib.Atoi
import Derived.Lib.ItoaNum
import Derived.Lib.ItoaMem
import Derived.Lib.SplitLaws
import Derived.Lib.Join
import Derived.Lib.JoinLaws
import Derived.Test.YtjjflbnopphciaaGreatDoorXF
import Derived.Laws.IdiomStrings
namespace Go.Proofs.YtjjflbnopphciaaGreatDoor
open Go.Lib

/-! Numbers as texts: mathematics alone. -/

theorem decFrom_bad (l : List UInt8) : ∀ (k acc n : Nat) (b : UInt8), decFrom acc (l.take k) = some n → l[k]? = some b → digitVal b = none → decFrom acc l = none := by
  induction l with
  | nil => intro k acc n b _ hb _; simp at hb
  | cons x t ih =>
    intro k acc n b h hb hd
    cases k with
    | zero =>
      simp at hb; subst hb
      simp [decFrom, hd]
    | succ k =>
      simp only [List.take_succ_cons, decFrom] at h ⊢
      cases hx : digitVal x with
      | none => rfl
      | some d =>
        rw [hx] at h
        exact ih k _ n b h (by simpa using hb) hd

theorem decFrom_append (a b : List UInt8) : ∀ acc, decFrom acc (a ++ b) = (decFrom acc a).bind fun m => decFrom m b := by
  induction a with
  | nil => intro acc; rfl
  | cons x t ih =>
    intro acc
    simp only [List.cons_append, decFrom]
    cases digitVal x with
    | none => rfl
    | some d => exact ih _

theorem digitVal_of (d : Nat) (h : d < 10) : digitVal (UInt8.ofNat (48 + d)) = some d := by
  have : (UInt8.ofNat (48 + d)).toNat = 48 + d := by simp [UInt8.toNat_ofNat']; omega
  unfold digitVal
  rw [this, if_pos (by omega)]
  congr 1; omega

theorem decFrom_digits (u : Nat) : decFrom 0 (decDigits u) = some u := by
  induction u using Nat.strongRecOn with
  | ind u ih =>
    rw [decDigits]
    by_cases h : u < 10
    · rw [dif_pos h]
      simp only [decFrom, digitVal_of u h, Nat.zero_mul, Nat.zero_add]
    · rw [dif_neg h, decFrom_append, ih (u / 10) (by omega)]
      simp only [Option.bind_some, decFrom, digitVal_of (u % 10) (Nat.mod_lt _ (by omega))]
      congr 1; omega

theorem decDigits_ne (u : Nat) : decDigits u ≠ [] := by
  rw [decDigits]; split <;> simp

theorem decDigits_head (u : Nat) (h : 0 < u) : (decDigits u).head? ≠ some 48 := by
  induction u using Nat.strongRecOn with
  | ind u ih =>
    rw [decDigits]
    by_cases h10 : u < 10
    · rw [dif_pos h10]
      simp only [List.head?_cons, ne_eq, Option.some.injEq]
      intro e
      have := congrArg UInt8.toNat e
      simp [UInt8.toNat_ofNat'] at this
      omega
    · rw [dif_neg h10]
      have h1 := ih (u / 10) (by omega) (by omega)
      have hne := decDigits_ne (u / 10)
      cases hd : decDigits (u / 10) with
      | nil => exact absurd hd hne
      | cons x t => rw [hd] at h1; simpa using h1

theorem decDigits_all (u : Nat) : ∀ b ∈ decDigits u, 48 ≤ b.toNat ∧ b.toNat ≤ 57 := by
  induction u using Nat.strongRecOn with
  | ind u ih =>
    rw [decDigits]
    have one : ∀ d, d < 10 → 48 ≤ (UInt8.ofNat (48 + d)).toNat ∧ (UInt8.ofNat (48 + d)).toNat ≤ 57 := by
      intro d hd
      have : (UInt8.ofNat (48 + d)).toNat = 48 + d := by simp [UInt8.toNat_ofNat']; omega
      omega
    by_cases h : u < 10
    · rw [dif_pos h]
      intro b hb
      rw [List.mem_singleton] at hb
      rw [hb]
      exact one u h
    · rw [dif_neg h]
      intro b hb
      rcases List.mem_append.1 hb with hb | hb
      · exact ih (u / 10) (by omega) b hb
      · rw [List.mem_singleton] at hb
        rw [hb]
        exact one _ (Nat.mod_lt _ (by omega))

theorem itoa_all (n : Int) : ∀ b ∈ itoa n, b.toNat = 45 ∨ 48 ≤ b.toNat ∧ b.toNat ≤ 57 := by
  intro b hb
  unfold itoa at hb
  split at hb
  · rcases List.mem_cons.1 hb with e | e
    · exact .inl (by rw [e]; rfl)
    · exact .inr (decDigits_all _ b e)
  · exact .inr (decDigits_all _ b hb)
theorem itoa_ne (n : Int) : itoa n ≠ [] := by
  unfold itoa; split
  · simp
  · exact decDigits_ne _

/-- Digits without a zero ahead, of at most d. -/
def digs (r : List UInt8) (d : Nat) (zeroOk : Bool) : Option Nat :=
  if r = [] ∨ d < r.length ∨ (r.head? = some 48 ∧ zeroOk = false) then none else decFrom 0 r
/-- What the base's Number reads: a number of at most d digits. -/
def numS (l : List UInt8) (d : Nat) : Option Int :=
  if l.head? = some 45 then (digs l.tail d false).map fun (n : Nat) => -(n : Int) else (digs l d (decide (l.length ≤ 1))).map fun (n : Nat) => (n : Int)
/-- What numberOf reads: a number of at most six digits, none ahead of it. -/
def numN (l : List UInt8) : Option Nat := digs l 6 (decide (l.length ≤ 1))
/-- What signedNumberOf reads. -/
def numG (l : List UInt8) : Option Int :=
  if l.head? = some 45 then (match numN l.tail with | some n => if n = 0 then none else some (-(n : Int)) | none => none) else (numN l).map fun (n : Nat) => (n : Int)

theorem decFrom_ge : ∀ (l : List UInt8) (acc n : Nat), decFrom acc l = some n → acc ≤ n := by
  intro l
  induction l with
  | nil => intro acc n h; simp [decFrom] at h; omega
  | cons b t ih =>
    intro acc n h
    simp only [decFrom] at h
    cases hd : digitVal b with
    | none => rw [hd] at h; cases h
    | some d => rw [hd] at h; have := ih _ _ h; omega
theorem decFrom_pos {l : List UInt8} {n : Nat} (h : decFrom 0 l = some n) (h0 : l.head? ≠ some 48) (hne : l ≠ []) : 0 < n := by
  cases l with
  | nil => exact absurd rfl hne
  | cons b t =>
    simp only [decFrom] at h
    cases hd : digitVal b with
    | none => rw [hd] at h; cases h
    | some d =>
      rw [hd] at h
      have hg := decFrom_ge _ _ _ h
      obtain ⟨h1, h2, h3⟩ := digitVal_eq hd
      have : b.toNat ≠ 48 := by
        intro e
        apply h0
        simp only [List.head?_cons, Option.some.injEq]
        exact UInt8.toNat_inj.1 e
      omega

theorem numG_eq (l : List UInt8) : numG l = numS l 6 := by
  unfold numG numS numN
  by_cases h : l.head? = some 45
  · rw [if_pos h, if_pos h]
    generalize l.tail = r
    unfold digs
    by_cases h1 : r = [] ∨ 6 < r.length ∨ (r.head? = some 48 ∧ decide (r.length ≤ 1) = false)
    · rw [if_pos h1]
      rw [if_pos (by rcases h1 with a | a | a; exact .inl a; exact .inr (.inl a); exact .inr (.inr ⟨a.1, rfl⟩))]
      rfl
    · rw [if_neg h1]
      by_cases h2 : r.head? = some 48
      · rw [if_pos (.inr (.inr ⟨h2, rfl⟩))]
        have hne : r ≠ [] := fun e => h1 (.inl e)
        have hl1 : r.length ≤ 1 := by
          by_cases e : r.length ≤ 1
          · exact e
          · exact absurd (.inr (.inr ⟨h2, by simpa using e⟩)) h1
        match r, hne, hl1, h2 with
        | [b], _, _, h2 =>
          simp at h2; subst h2
          rfl
        | _ :: _ :: _, _, hl1, _ => simp at hl1
      · have hne : r ≠ [] := fun e => h1 (.inl e)
        rw [if_neg (by rintro (a | a | a); exact hne a; exact h1 (.inr (.inl a)); exact h2 a.1)]
        cases hd : decFrom 0 r with
        | none => rfl
        | some n =>
          have := decFrom_pos hd h2 hne
          simp [show n ≠ 0 by omega]
  · rw [if_neg h, if_neg h]

theorem numN_of_numS {l : List UInt8} {k : Int} (h : numS l 6 = some k) (hk : 0 ≤ k) : numN l = some k.toNat := by
  rw [← numG_eq] at h
  unfold numG at h
  by_cases hd : l.head? = some 45
  · rw [if_pos hd] at h
    cases hn : numN l.tail with
    | none => rw [hn] at h; cases h
    | some n =>
      rw [hn] at h
      by_cases e : n = 0
      · simp [e] at h
      · simp [e] at h; omega
  · rw [if_neg hd] at h
    cases hn : numN l with
    | none => rw [hn] at h; cases h
    | some n => rw [hn] at h; simp at h; subst h; simp
theorem numN_minus {l : List UInt8} (h : l.head? = some 45) : numN l = none := by
  unfold numN digs
  split
  · rfl
  · cases l with
    | nil => simp at h
    | cons b t =>
      simp at h; subst h
      rfl
theorem numN_none {l : List UInt8} (h : ∀ k, numS l 6 = some k → k < 0) : numN l = none := by
  by_cases hd : l.head? = some 45
  · exact numN_minus hd
  · cases hn : numN l with
    | none => rfl
    | some n =>
      have : numS l 6 = some (n : Int) := by
        rw [← numG_eq]; unfold numG; rw [if_neg hd, hn]; rfl
      have := h _ this
      omega
theorem digs_bd {r : List UInt8} {d : Nat} {z : Bool} {n : Nat} (h : digs r d z = some n) : n < 10 ^ d := by
  unfold digs at h
  split at h
  · cases h
  · rename_i h1
    have h2 := decFrom_lt r 0 n h
    have h3 : r.length ≤ d := by
      by_cases e : d < r.length
      · exact absurd (.inr (.inl e)) h1
      · omega
    exact Nat.lt_of_lt_of_le h2 (by simpa using Nat.pow_le_pow_right (by omega) h3)
theorem numS_bd {l : List UInt8} {d : Nat} {k : Int} (h : numS l d = some k) : -(10 ^ d : Nat) < k ∧ k < (10 ^ d : Nat) := by
  unfold numS at h
  split at h
  · cases hn : digs l.tail d false with
    | none => rw [hn] at h; cases h
    | some n =>
      rw [hn] at h; simp at h
      have := digs_bd hn
      omega
  · cases hn : digs l d (decide (l.length ≤ 1)) with
    | none => rw [hn] at h; cases h
    | some n =>
      rw [hn] at h; simp at h
      have := digs_bd hn
      omega

theorem nDigits_le_of (u d : Nat) (h : u < 10 ^ d) (hd : 1 ≤ d) : nDigits u ≤ d := by
  induction d generalizing u with
  | zero => omega
  | succ d ih =>
    by_cases h10 : u < 10
    · rw [nDigits_small h10]; omega
    · rw [nDigits_big h10]
      by_cases hd0 : d = 0
      · subst hd0; omega
      · have := ih (u / 10) (by rw [Nat.pow_succ] at h; omega) (by omega)
        omega

theorem digs_digits (u d : Nat) (h : u < 10 ^ d) (hd : 1 ≤ d) : digs (decDigits u) d (decide ((decDigits u).length ≤ 1)) = some u := by
  unfold digs
  rw [if_neg, decFrom_digits]
  rintro (a | a | ⟨a, b⟩)
  · exact decDigits_ne u a
  · rw [decDigits_length] at a
    have := nDigits_le_of u d h hd
    omega
  · by_cases h0 : u = 0
    · subst h0
      rw [decDigits, dif_pos (by omega)] at b
      simp at b
    · exact decDigits_head u (by omega) a

end Go.Proofs.YtjjflbnopphciaaGreatDoor

namespace Go.Proofs.YtjjflbnopphciaaGreatDoor
open Go.Lib

/-- A text cut at every byte c. -/
def pcs (c : UInt8) : List UInt8 → List (List UInt8)
  | [] => [[]]
  | b :: t => if b = c then [] :: pcs c t else match pcs c t with
    | p :: ps => (b :: p) :: ps
    | [] => [[b]]
theorem pcs_ne (c : UInt8) (l : List UInt8) : pcs c l ≠ [] := by
  cases l with
  | nil => simp [pcs]
  | cons b t =>
    unfold pcs
    split
    · simp
    · split <;> simp
theorem pcs_hit (c : UInt8) (l : List UInt8) : ∀ n, l[n]? = some c → (∀ q : Nat, q < n → l[q]? ≠ some c) → pcs c l = l.take n :: pcs c (l.drop (n + 1)) := by
  induction l with
  | nil => intro n h; simp at h
  | cons b t ih =>
    intro n h hno
    cases n with
    | zero =>
      simp at h; subst h
      simp [pcs]
    | succ n =>
      have hb : b ≠ c := fun e => hno 0 (by omega) (by simp [e])
      have := ih n (by simpa using h) (fun q hq => by have := hno (q + 1) (by omega); simpa using this)
      simp only [pcs, if_neg hb, List.take_succ_cons, List.drop_succ_cons]
      rw [this]
theorem pcs_miss (c : UInt8) (l : List UInt8) (h : ∀ q : Nat, l[q]? ≠ some c) : pcs c l = [l] := by
  induction l with
  | nil => rfl
  | cons b t ih =>
    have hb : b ≠ c := fun e => h 0 (by simp [e])
    have := ih (fun q => by have := h (q + 1); simpa using this)
    simp only [pcs, if_neg hb, this]
theorem pcs_app (c : UInt8) (x t : List UInt8) (h : ∀ b ∈ x, b ≠ c) : pcs c (x ++ c :: t) = x :: pcs c t := by
  induction x with
  | nil => simp [pcs]
  | cons b r ih =>
    have hb : b ≠ c := h b (by simp)
    have := ih (fun y hy => h y (by simp [hy]))
    simp only [List.cons_append, pcs, if_neg hb, this]
theorem pcs_join (c : UInt8) (xs : List (List UInt8)) (hne : xs ≠ []) (h : ∀ x ∈ xs, ∀ b ∈ x, b ≠ c) : pcs c (join xs [c]) = xs := by
  induction xs with
  | nil => exact absurd rfl hne
  | cons x r ih =>
    rw [join_cons]
    cases r with
    | nil =>
      simp only [joinTail, List.map_nil, List.flatten_nil, List.append_nil]
      refine pcs_miss c x fun q e => ?_
      have := List.mem_of_getElem? e
      exact h x (by simp) c this rfl
    | cons y s =>
      have e : joinTail [c] (y :: s) = c :: join (y :: s) [c] := by
        rw [join_cons]
        simp [joinTail]
      rw [e, pcs_app c x _ (h x (by simp)), ih (by simp) (fun z hz => h z (by simp [hz]))]

/-- What the library's index of one byte says. -/
theorem idx_one (l : List UInt8) (c : UInt8) : (index l [c] = -1 ∧ ∀ q : Nat, l[q]? ≠ some c) ∨ (∃ i : Nat, index l [c] = i ∧ l[i]? = some c ∧ ∀ q : Nat, q < i → l[q]? ≠ some c) := by
  induction l with
  | nil => exact .inl ⟨rfl, fun q => by simp⟩
  | cons b t ih =>
    by_cases hb : b = c
    · subst hb
      refine .inr ⟨0, ?_, by simp, fun q hq => by omega⟩
      simp [index, List.isPrefixOf]
    · have hp : [c].isPrefixOf (b :: t) = false := by simp [List.isPrefixOf]; exact fun e => hb e.symm
      have hi : index (b :: t) [c] = if index t [c] == -1 then -1 else index t [c] + 1 := by
        simp only [index, hp]; rfl
      rcases ih with ⟨h1, h2⟩ | ⟨i, h1, h2, h3⟩
      · refine .inl ⟨by rw [hi, h1]; rfl, fun q => ?_⟩
        cases q with
        | zero => simpa using hb
        | succ q => simpa using h2 q
      · refine .inr ⟨i + 1, ?_, by simpa using h2, fun q hq => ?_⟩
        · rw [hi, h1]
          have : ((i : Int) == -1) = false := beq_eq_false_iff_ne.2 (by omega)
          rw [this]
          simp
        · cases q with
          | zero => simpa using hb
          | succ q => simpa using h3 q (by omega)

/-- Cut at most k times. -/
theorem splitK_pcs (c : UInt8) : ∀ (k : Nat) (l : List UInt8), (splitK [c] 0 k l).length = min k ((pcs c l).length - 1) + 1 ∧ ((pcs c l).length ≤ k + 1 → splitK [c] 0 k l = pcs c l) := by
  intro k
  induction k with
  | zero =>
    intro l
    refine ⟨by simp [splitK], fun h => ?_⟩
    rcases idx_one l c with ⟨_, h2⟩ | ⟨i, _, h2, h3⟩
    · rw [pcs_miss c l h2]; rfl
    · exfalso
      rw [pcs_hit c l i h2 h3] at h
      have := pcs_ne c (l.drop (i + 1))
      have h4 : 0 < (pcs c (l.drop (i + 1))).length := List.length_pos_iff.2 this
      simp only [List.length_cons] at h
      omega
  | succ k ih =>
    intro l
    rcases idx_one l c with ⟨h1, h2⟩ | ⟨i, h1, h2, h3⟩
    · have e : splitK [c] 0 (k + 1) l = [l] := by simp [splitK, h1]
      rw [e, pcs_miss c l h2]
      exact ⟨by simp, fun _ => rfl⟩
    · have hne : ((i : Int) == -1) = false := beq_eq_false_iff_ne.2 (by omega)
      have e : splitK [c] 0 (k + 1) l = l.take i :: splitK [c] 0 k (l.drop (i + 1)) := by
        simp only [splitK, h1, hne]
        simp
      rw [e, pcs_hit c l i h2 h3]
      obtain ⟨a, b⟩ := ih (l.drop (i + 1))
      have h4 : 0 < (pcs c (l.drop (i + 1))).length := List.length_pos_iff.2 (pcs_ne c _)
      refine ⟨by simp only [List.length_cons, a]; omega, fun h => ?_⟩
      rw [b (by simp only [List.length_cons] at h; omega)]

end Go.Proofs.YtjjflbnopphciaaGreatDoor

namespace Go.Proofs.YtjjflbnopphciaaGreatDoor
open Go.RowKit

theorem sizeS_any (n : Int) (w : World) (h : -9223372036854775807 ≤ n ∧ n ≤ 9223372036854775807) :
    Calls Tryz.prog 71 #[.int .i64 n] w fun e w' => e = .returned (.int .i64 (n.natAbs : Int)) ∧ w = w' := by
  have hw : IntKind.i64.wrap (-n) = -n := IntWalk.i64_in _ (by omega)
  go_enter Tryz.func71, Tryz.ntmps71
  go_wp2
  all_goals go_ret
  all_goals refine ⟨?_, rfl⟩
  all_goals first
    | (rw [show ((n.natAbs : Nat) : Int) = -n by omega]; done)
    | (rw [show ((n.natAbs : Nat) : Int) = n by omega]; done)
    | (rw [show ((n.natAbs : Nat) : Int) = -n by omega]; rfl)
    | (rw [show ((n.natAbs : Nat) : Int) = n by omega]; rfl)

theorem bytes_app (a b : List UInt8) : (ByteArray.mk a.toArray ++ ByteArray.mk b.toArray) = ByteArray.mk (a ++ b).toArray := by
  apply ByteArray.ext
  simp
theorem bytes_one (x : UInt8) (b : List UInt8) : (ByteArray.mk #[x] ++ ByteArray.mk b.toArray) = ByteArray.mk (x :: b).toArray := bytes_app [x] b
theorem bytes_size (a : List UInt8) : (ByteArray.mk a.toArray).size = a.length := by simp [ByteArray.size]

/-- What the digits taken so far say. -/
structure DecI (u q : Nat) (sl : List UInt8) : Prop where
  le : q ≤ u
  len : sl.length ≤ 19
  pow : 1 ≤ q → q * 10 ^ sl.length ≤ 9223372036854775808
  dig : Lib.decDigits u = (if q = 0 then [] else Lib.decDigits q) ++ sl
theorem DecI.start (u : Nat) (h : 1 ≤ u) (hu : u ≤ 9223372036854775808) : DecI u u [] := ⟨Nat.le_refl _, by simp, fun _ => by simpa using hu, by rw [if_neg (by omega)]; simp⟩
theorem DecI.len18 {u q : Nat} {sl : List UInt8} (h : DecI u q sl) (hq : 1 ≤ q) : sl.length ≤ 18 := by
  have h1 := h.pow hq
  have h2 : 10 ^ sl.length ≤ q * 10 ^ sl.length := Nat.le_mul_of_pos_left _ (by omega)
  by_cases e : sl.length ≤ 18
  · exact e
  · have h3 : 10 ^ 19 ≤ 10 ^ sl.length := Nat.pow_le_pow_right (by omega) (by omega)
    omega
theorem DecI.step {u q : Nat} {sl : List UInt8} (h : DecI u q sl) (hq : 1 ≤ q) : DecI u (q / 10) (UInt8.ofNat (48 + q % 10) :: sl) := by
  have h18 := h.len18 hq
  refine ⟨Nat.le_trans (Nat.div_le_self _ _) h.le, by simp only [List.length_cons]; omega, fun _ => ?_, ?_⟩
  · have h1 := h.pow hq
    rw [List.length_cons, Nat.pow_succ]
    have : q / 10 * (10 ^ sl.length * 10) = (q / 10 * 10) * 10 ^ sl.length := by rw [Nat.mul_comm (10 ^ sl.length) 10, Nat.mul_assoc]
    rw [this]
    exact Nat.le_trans (Nat.mul_le_mul_right _ (by omega)) h1
  · rw [h.dig, if_neg (by omega)]
    by_cases h10 : q < 10
    · rw [if_pos (by omega)]
      rw [Lib.decDigits, dif_pos h10, Nat.mod_eq_of_lt h10]
      rfl
    · rw [if_neg (by omega), Lib.decDigits, dif_neg h10, List.append_assoc]
      rfl
theorem DecI.done {u : Nat} {sl : List UInt8} (h : DecI u 0 sl) : sl = Lib.decDigits u := by have := h.dig; simpa using this.symm

theorem digit_conv (d : Nat) (hd : d < 10) (W : World) :
    (convert 119 9 (.slice (some ⟨W.heap.size, 0, none⟩) 1 1)).run Tryz.prog (W.alloc (.cells #[.int .u8 (48 + (d : Int))] 5)) = .ok (.string ⟨#[UInt8.ofNat (48 + d)]⟩) (W.alloc (.cells #[.int .u8 (48 + (d : Int))] 5)) := by
  obtain ⟨b, hb⟩ : ∃ b, UInt8.ofNat (48 + d) = b := ⟨_, rfl⟩
  have hbn : b.toNat = 48 + d := by rw [← hb]; simp [UInt8.toNat_ofNat']; omega
  rw [hb]
  exact run_convert_bytes_back (P := Tryz.prog) (W.alloc (.cells #[.int .u8 (48 + (d : Int))] 5)) 119 9 5 ⟨W.heap.size, 0, none⟩ 1 [b] Tryz.underlying119 Tryz.underlying5 Tryz.underlying9 (fun j hj => by
    have hj0 : j = 0 := by simpa using hj
    subst hj0
    rw [show ([b][0].toNat : Int) = 48 + (d : Int) by show (b.toNat : Int) = _; rw [hbn]; omega]
    simp [go_sem, Addr.add])

set_option maxRecDepth 100000 in
set_option maxHeartbeats 1000000 in
theorem decimal_neg (u : Nat) (w : World) (h1 : 1 ≤ u) (hu : u ≤ 9223372036854775808) :
    Calls Tryz.prog 42 #[.int .i64 (-(u : Int))] w fun e w' => e = .returned (.string ⟨(45 :: Lib.decDigits u).toArray⟩) ∧ Below w.heap.size w w' := by
  have hzb : (-(u : Int) == 0) = false := beq_eq_false_iff_ne.2 (by omega)
  have hneg : -(u : Int) < 0 := by omega
  go_enter Tryz.func42, Tryz.ntmps42
  go_wp2
  go_loopw [0, 3] (fun v s wr => ∃ (q : Nat) (sl : List UInt8), v = .int .i64 (-(q : Int)) ∧ s = .string ⟨sl.toArray⟩ ∧ Hid (DecI u q sl ∧ Below w.heap.size w wr)) (fun v _ _ => (intOf v).natAbs)
  case atStart => exact ⟨u, [], rfl, rfl, DecI.start u h1 hu, Below.refl _ _⟩
  case round =>
    obtain ⟨q, sl, rfl, rfl, HB⟩ := hrel
    have hqu : q ≤ 9223372036854775808 := Nat.le_trans HB.out.1.le hu
    by_cases hq0 : q = 0
    · subst hq0
      have hs := HB.out.1.done
      have hl := HB.out.1.len
      have hsz := bytes_size sl
      have hs1 : (ByteArray.mk #[45]).size = 1 := rfl
      have HE : Hid (ByteArray.mk #[45] ++ ByteArray.mk sl.toArray = ByteArray.mk (45 :: Lib.decDigits u).toArray) := by show _ = _; rw [bytes_one, ← hs]
      clear hs
      go_wp2
      go_ret
      exact ⟨by rw [← HE.out]; rfl, HB.out.2⟩
    · have hqb : ((-(q : Int)) != 0) = true := bne_iff_ne.2 (by omega)
      have hd : (-(q : Int)).tmod 10 = -((q % 10 : Nat) : Int) := by rw [Int.neg_tmod]; rfl
      have hv : (-(q : Int)).tdiv 10 = -((q / 10 : Nat) : Int) := by rw [Int.neg_tdiv]; rfl
      have hst := HB.out.1.step (by omega)
      have hl := HB.out.1.len18 (by omega)
      have hsz := bytes_size sl
      have hs1 := HB.out.2.size
      obtain ⟨d, hdd⟩ : ∃ d, q % 10 = d := ⟨_, rfl⟩
      obtain ⟨p, hpp⟩ : ∃ p, q / 10 = p := ⟨_, rfl⟩
      rw [hdd] at hd hst
      rw [hpp] at hv hst
      have hd10 : d < 10 := by omega
      have hpq : p < q := by omega
      have hcb := digit_conv d hd10 wr
      have HST := Lib.hid hst
      obtain ⟨b, hb⟩ : ∃ b, UInt8.ofNat (48 + d) = b := ⟨_, rfl⟩
      rw [hb] at hcb HST
      have hsb : (ByteArray.mk #[b]).size = 1 := rfl
      clear hb hst hdd hpp
      go_wp2_with (go_at_call 71; refine (sizeS_any _ _ (by omega)).mono ?_; rintro e w' ⟨rfl, rfl⟩)
      go_roundw
      case rel =>
        rw [show decide (0 < u) = true from decide_eq_true (by omega)]
        exact ⟨_, _, _, _, _, _, _, _, _, _, _, _, _, _, _, _, _, ⟨p, b :: sl, rfl, by show Value.string (ByteArray.mk #[b] ++ ByteArray.mk sl.toArray) = _; rw [bytes_one], HST.out, HB.out.2.alloc hs1 _⟩, rfl⟩
      case measure => simp [intOf]; omega

set_option maxRecDepth 100000 in
set_option maxHeartbeats 1000000 in
theorem decimal_pos (u : Nat) (w : World) (h1 : 1 ≤ u) (hu : u ≤ 9223372036854775807) :
    Calls Tryz.prog 42 #[.int .i64 (u : Int)] w fun e w' => e = .returned (.string ⟨(Lib.decDigits u).toArray⟩) ∧ Below w.heap.size w w' := by
  have hzb : ((u : Int) == 0) = false := beq_eq_false_iff_ne.2 (by omega)
  have hneg : ¬ (u : Int) < 0 := by omega
  go_enter Tryz.func42, Tryz.ntmps42
  go_wp2
  go_loopw [0, 3] (fun v s wr => ∃ (q : Nat) (sl : List UInt8), v = .int .i64 (q : Int) ∧ s = .string ⟨sl.toArray⟩ ∧ Hid (DecI u q sl ∧ Below w.heap.size w wr)) (fun v _ _ => (intOf v).natAbs)
  case atStart => exact ⟨u, [], rfl, rfl, DecI.start u h1 (by omega), Below.refl _ _⟩
  case round =>
    obtain ⟨q, sl, rfl, rfl, HB⟩ := hrel
    have hqu : q ≤ 9223372036854775807 := Nat.le_trans HB.out.1.le hu
    by_cases hq0 : q = 0
    · subst hq0
      have hs := HB.out.1.done
      have hl := HB.out.1.len
      have hsz := bytes_size sl
      have hs1 : (ByteArray.mk #[]).size = 0 := rfl
      have HE : Hid (ByteArray.mk #[] ++ ByteArray.mk sl.toArray = ByteArray.mk (Lib.decDigits u).toArray) := by show _ = _; rw [show ByteArray.mk #[] = ByteArray.mk ([] : List UInt8).toArray from rfl, bytes_app, ← hs]; rfl
      have HS : Hid (ByteArray.mk sl.toArray = ByteArray.mk (Lib.decDigits u).toArray) := by show _ = _; rw [← hs]
      clear hs
      go_wp2
      go_ret
      first | exact ⟨by rw [← HE.out]; rfl, HB.out.2⟩ | exact ⟨by rw [← HS.out]; rfl, HB.out.2⟩ | exact ⟨by rw [← HE.out], HB.out.2⟩ | exact ⟨by rw [← HS.out], HB.out.2⟩
    · have hqb : ((q : Int) != 0) = true := bne_iff_ne.2 (by omega)
      have hd : (q : Int).tmod 10 = ((q % 10 : Nat) : Int) := rfl
      have hv : (q : Int).tdiv 10 = ((q / 10 : Nat) : Int) := rfl
      have hst := HB.out.1.step (by omega)
      have hl := HB.out.1.len18 (by omega)
      have hsz := bytes_size sl
      have hs1 := HB.out.2.size
      obtain ⟨d, hdd⟩ : ∃ d, q % 10 = d := ⟨_, rfl⟩
      obtain ⟨p, hpp⟩ : ∃ p, q / 10 = p := ⟨_, rfl⟩
      rw [hdd] at hd hst
      rw [hpp] at hv hst
      have hd10 : d < 10 := by omega
      have hpq : p < q := by omega
      have hcb := digit_conv d hd10 wr
      have HST := Lib.hid hst
      obtain ⟨b, hb⟩ : ∃ b, UInt8.ofNat (48 + d) = b := ⟨_, rfl⟩
      rw [hb] at hcb HST
      have hsb : (ByteArray.mk #[b]).size = 1 := rfl
      clear hb hst hdd hpp
      go_wp2_with (go_at_call 71; refine (sizeS_any _ _ (by omega)).mono ?_; rintro e w' ⟨rfl, rfl⟩)
      go_roundw
      case rel => exact ⟨p, b :: sl, by go_num, by rw [bytes_one], HST.out, HB.out.2.alloc hs1 _⟩
      case measure => simp [intOf]; omega

theorem decimal_zero (w : World) :
    Calls Tryz.prog 42 #[.int .i64 0] w fun e w' => e = .returned (.string ⟨#[48]⟩) ∧ Below w.heap.size w w' := by
  go_enter Tryz.func42, Tryz.ntmps42
  go_wp2
  go_ret
  exact ⟨rfl, Below.refl _ _⟩

theorem decimal_any (n : Int) (w : World) (h0 : -9223372036854775808 ≤ n) (h1 : n ≤ 9223372036854775807) :
    Calls Tryz.prog 42 #[.int .i64 n] w fun e w' => e = .returned (.string ⟨(Lib.itoa n).toArray⟩) ∧ Below w.heap.size w w' := by
  rcases Int.lt_trichotomy n 0 with h | h | h
  · obtain ⟨u, hu⟩ : ∃ u : Nat, n = -(u : Int) := ⟨n.natAbs, by omega⟩
    rw [hu, Lib.itoa_neg u (by omega)]
    exact decimal_neg u w (by omega) (by omega)
  · subst h
    have := decimal_zero w
    rw [show Lib.itoa 0 = [48] by rw [Lib.itoa, if_neg (by omega)]; show Lib.decDigits 0 = _; rw [Lib.decDigits, dif_pos (by omega)]; rfl]
    exact this
  · obtain ⟨u, hu⟩ : ∃ u : Nat, n = (u : Int) := ⟨n.toNat, by omega⟩
    rw [hu, Lib.itoa_nonneg u]
    exact decimal_pos u w (by omega) (by omega)

end Go.Proofs.YtjjflbnopphciaaGreatDoor

namespace Go.Proofs.YtjjflbnopphciaaGreatDoor
open Go.RowKit

theorem dec_step {r : List UInt8} {j n : Nat} {b : UInt8} (h : Lib.decFrom 0 (r.take j) = some n) (hb : r[j]? = some b) (h1 : 48 ≤ b.toNat) (h2 : b.toNat ≤ 57) : Lib.decFrom 0 (r.take (j + 1)) = some (10 * n + (b.toNat - 48)) := by
  have e : r.take (j + 1) = r.take j ++ [b] := by rw [List.take_add_one, hb]; rfl
  rw [e, decFrom_append, h]
  show Lib.decFrom n [b] = _
  rw [Lib.decFrom, Lib.digitVal, if_pos ⟨h1, h2⟩]
  show Lib.decFrom (n * 10 + (b.toNat - 48)) [] = _
  rw [Lib.decFrom, Nat.mul_comm]
theorem dec_bd {r : List UInt8} {n : Nat} (h : Lib.decFrom 0 r = some n) (d : Nat) (hl : r.length ≤ d) (h0 : 1 ≤ r.length) : n < 10 ^ d := by
  have : digs r d true = some n := by
    unfold digs
    rw [if_neg]
    · exact h
    · rintro (e | e | e)
      · subst e; simp at h0
      · omega
      · exact absurd e.2 (by simp)
  exact digs_bd this
theorem dec_bd' {r : List UInt8} {j n : Nat} (h : Lib.decFrom 0 (r.take j) = some n) (d : Nat) (hl : j ≤ d) (hd : d ≤ 17) : n < 100000000000000000 := by
  have h18 : 10 ^ d ≤ 10 ^ 17 := Nat.pow_le_pow_right (by omega) hd
  by_cases e : (r.take j) = []
  · rw [e] at h
    have : n = 0 := by have := Option.some.inj h; omega
    omega
  · have := dec_bd h d (by rw [List.length_take]; omega) (List.length_pos_iff.2 e)
    omega
theorem dec_none {r : List UInt8} {j n : Nat} {b : UInt8} (h : Lib.decFrom 0 (r.take j) = some n) (hb : r[j]? = some b) (h1 : ¬ (48 ≤ b.toNat ∧ b.toNat ≤ 57)) : Lib.decFrom 0 r = none :=
  decFrom_bad r j 0 n b h hb (by rw [Lib.digitVal, if_neg h1])

/-- What the words say of a string. -/
theorem str_get (s : ByteArray) (k : Nat) (h : k < s.size) : s.data.toList[k]? = some s[k] := by
  rw [List.getElem?_eq_getElem (by simpa using h)]

  rfl
end Go.Proofs.YtjjflbnopphciaaGreatDoor

namespace Go.Proofs.YtjjflbnopphciaaGreatDoor
open Go.RowKit

set_option maxRecDepth 100000 in
set_option maxHeartbeats 2000000 in
theorem number_neg (s : ByteArray) (d : Nat) (w : World) (hs : s.size ≤ 9223372036854775806) (hd1 : 1 ≤ d) (hd17 : d ≤ 17) (hp : 0 < s.size) (hm : s[0] = 45) :
    Calls Tryz.prog 41 #[.string s, .int .i64 (d : Int)] w fun e w' => e = .returned (.tuple #[.int .i64 ((numS s.data.toList d).getD 0), .bool (numS s.data.toList d).isSome]) ∧ w = w' := by
  have hlen : s.data.toList.length = s.size := by simp
  have HL := Lib.hid hlen; clear hlen
  have HM : Hid (numS s.data.toList d = (digs s.data.toList.tail d false).map fun (n : Nat) => -(n : Int)) := by
    show _ = _; unfold numS; rw [if_pos (by rw [List.head?_eq_getElem?, str_get s 0 hp, hm])]
  have hmm : (((s[0].toNat : Nat) : Int) == 45) = true := by rw [hm]; rfl
  clear hm
  have hgt : (0 : Int) < s.size := by omega
  by_cases h1 : s.size = 1
  · have HN : Hid (numS s.data.toList d = none) := by
      show _ = _; rw [HM.out]; unfold digs
      rw [if_pos (.inl (List.length_eq_zero_iff.1 (by rw [List.length_tail, HL.out, h1])))]; rfl
    go_enter Tryz.func41, Tryz.ntmps41
    go_wp2
    go_ret2
    exact ⟨by rw [HN.out]; rfl, rfl⟩
  have he1 : ((s.size : Int) == 1) = false := beq_eq_false_iff_ne.2 (by omega)
  by_cases h6 : d + 1 < s.size
  · have HN : Hid (numS s.data.toList d = none) := by
      show _ = _; rw [HM.out]; unfold digs
      rw [if_pos (.inr (.inl (by rw [List.length_tail, HL.out]; omega)))]; rfl
    have hgd : (d : Int) < (s.size : Int) - 1 := by omega
    go_enter Tryz.func41, Tryz.ntmps41
    go_wp2
    go_ret2
    exact ⟨by rw [HN.out]; rfl, rfl⟩
  have hgd : ¬ (d : Int) < (s.size : Int) - 1 := by omega
  have hp1 : 1 < s.size := by omega
  have hg1 : s.data.toList.tail.head? = some s[1] := by rw [List.head?_eq_getElem?, List.getElem?_tail]; exact str_get s 1 hp1
  by_cases hz : s[1] = 48
  · have HN : Hid (numS s.data.toList d = none) := by
      show _ = _; rw [HM.out]; unfold digs
      rw [if_pos (.inr (.inr ⟨by rw [hg1, hz], rfl⟩))]; rfl
    have hzz : (((s[1].toNat : Nat) : Int) == 48) = true := by rw [hz]; rfl
    clear hz hg1
    go_enter Tryz.func41, Tryz.ntmps41
    go_wp2
    go_ret2
    exact ⟨by rw [HN.out]; rfl, rfl⟩
  have HN : Hid (numS s.data.toList d = (Lib.decFrom 0 s.data.toList.tail).map fun (n : Nat) => -(n : Int)) := by
    show _ = _; rw [HM.out]; unfold digs
    rw [if_neg]
    rintro (e | e | ⟨e, e2⟩)
    · rw [e] at hg1; cases hg1
    · rw [List.length_tail, HL.out] at e; omega
    · rw [hg1] at e; exact hz (Option.some.inj e)
  have hzz : (((s[1].toNat : Nat) : Int) == 48) = false := by
    refine beq_eq_false_iff_ne.2 fun e => hz ?_
    apply UInt8.toNat_inj.1
    show s[1].toNat = 48
    omega
  clear hz hg1
  go_enter Tryz.func41, Tryz.ntmps41
  go_wp2
  go_loop [7, 8] (fun v i => ∃ k n : Nat, k + 1 ≤ s.size ∧ v = .int .i64 (n : Int) ∧ i = .int .i64 ((k + 1 : Nat) : Int) ∧ Hid (Lib.decFrom 0 (s.data.toList.tail.take k) = some n)) (fun _ i => s.size - (intOf i).toNat)
  case atStart => exact ⟨0, 0, by omega, rfl, rfl, rfl⟩
  case round =>
    obtain ⟨k, n, hk, rfl, rfl, HA⟩ := hrel
    by_cases hlt : k + 1 < s.size
    · have hnb := dec_bd' HA.out d (by omega) (by omega)
      have hgk : s.data.toList.tail[k]? = some s[k + 1] := by rw [List.getElem?_tail]; exact str_get s (k + 1) hlt
      rcases (show ((s[k + 1].toNat : Nat) : Int) < 48 ∨ (48 ≤ ((s[k + 1].toNat : Nat) : Int) ∧ ((s[k + 1].toNat : Nat) : Int) ≤ 57) ∨ 57 < ((s[k + 1].toNat : Nat) : Int) by omega) with hd1 | ⟨hd1, hd2⟩ | hd1
      · have HS := Lib.hid (dec_none HA.out hgk (by omega))
        clear hgk
        go_wp2
        go_ret2
        exact ⟨by rw [HN.out, HS.out]; rfl, rfl⟩
      · have HS := Lib.hid (dec_step HA.out hgk (by omega) (by omega))
        have hw1 : IntKind.i64.wrap (10 * (n : Int)) = 10 * n := IntWalk.i64_in _ (by omega)
        have hw2 : IntKind.i64.wrap (10 * (n : Int) + (((s[k + 1].toNat : Nat) : Int) - 48)) = ((10 * n + (s[k + 1].toNat - 48) : Nat) : Int) := by rw [IntWalk.i64_in _ (by omega)]; omega
        clear hgk
        go_wp2
        go_round
        case rel => exact ⟨k + 1, 10 * n + (s[k + 1].toNat - 48), by omega, by go_num, by go_num, HS.out⟩
        case measure => simp [intOf]; omega
      · have HS := Lib.hid (dec_none HA.out hgk (by omega))
        clear hgk
        go_wp2
        go_ret2
        exact ⟨by rw [HN.out, HS.out]; rfl, rfl⟩
    · have HS : Hid (Lib.decFrom 0 s.data.toList.tail = some n) := by
        have := HA.out
        rwa [List.take_of_length_le (by rw [List.length_tail, HL.out]; omega)] at this
      have hnb := dec_bd' HA.out d (by omega) (by omega)
      have hwn : IntKind.i64.wrap (-(n : Int)) = -(n : Int) := IntWalk.i64_in _ (by omega)
      have hc2 := HL
      go_wp2
      go_ret2
      exact ⟨by rw [HN.out, HS.out]; rfl, rfl⟩

set_option maxRecDepth 100000 in
set_option maxHeartbeats 2000000 in
theorem number_pos (s : ByteArray) (d : Nat) (w : World) (hs : s.size ≤ 9223372036854775806) (hd1 : 1 ≤ d) (hd17 : d ≤ 17) (hp : 0 < s.size) (hm : ¬ s[0] = 45) :
    Calls Tryz.prog 41 #[.string s, .int .i64 (d : Int)] w fun e w' => e = .returned (.tuple #[.int .i64 ((numS s.data.toList d).getD 0), .bool (numS s.data.toList d).isSome]) ∧ w = w' := by
  have hlen : s.data.toList.length = s.size := by simp
  have HL := Lib.hid hlen; clear hlen
  have hg0 := str_get s 0 hp
  have HM : Hid (numS s.data.toList d = (digs s.data.toList d (decide (s.data.toList.length ≤ 1))).map fun (n : Nat) => (n : Int)) := by
    show _ = _; unfold numS; rw [if_neg (by rw [List.head?_eq_getElem?, hg0]; exact fun e => hm (Option.some.inj e))]
  have hmm : (((s[0].toNat : Nat) : Int) == 45) = false := by
    refine beq_eq_false_iff_ne.2 fun e => hm ?_
    apply UInt8.toNat_inj.1
    show s[0].toNat = 45
    omega
  clear hm
  have hgt : (0 : Int) < s.size := by omega
  have he1 : ((s.size : Int) == 0) = false := beq_eq_false_iff_ne.2 (by omega)
  by_cases h6 : d < s.size
  · have HN : Hid (numS s.data.toList d = none) := by
      show _ = _; rw [HM.out]; unfold digs
      rw [if_pos (.inr (.inl (by rw [HL.out]; omega)))]; rfl
    have hgd : (d : Int) < (s.size : Int) := by omega
    go_enter Tryz.func41, Tryz.ntmps41
    go_wp2
    go_ret2
    exact ⟨by rw [HN.out]; rfl, rfl⟩
  have hgd : ¬ (d : Int) < (s.size : Int) := by omega
  by_cases hz : 1 < s.size ∧ s[0] = 48
  · have HN : Hid (numS s.data.toList d = none) := by
      show _ = _; rw [HM.out]; unfold digs
      rw [if_pos (.inr (.inr ⟨by rw [List.head?_eq_getElem?, hg0, hz.2], decide_eq_false (by rw [HL.out]; omega)⟩))]; rfl
    obtain ⟨h1, hz⟩ := hz
    have hzz : (((s[0].toNat : Nat) : Int) == 48) = true := by rw [hz]; rfl
    clear hz hg0
    go_enter Tryz.func41, Tryz.ntmps41
    go_wp2
    go_ret2
    exact ⟨by rw [HN.out]; rfl, rfl⟩
  have HN : Hid (numS s.data.toList d = (Lib.decFrom 0 s.data.toList).map fun (n : Nat) => (n : Int)) := by
    show _ = _; rw [HM.out]; unfold digs
    rw [if_neg]
    rintro (e | e | ⟨e, e2⟩)
    · rw [e] at HL; have := HL.out; simp at this; omega
    · rw [HL.out] at e; omega
    · refine hz ⟨?_, ?_⟩
      · have := of_decide_eq_false e2; rw [HL.out] at this; omega
      · rw [List.head?_eq_getElem?, hg0] at e; exact Option.some.inj e
  have hzz : s.size = 1 ∨ 1 < s.size ∧ (((s[0].toNat : Nat) : Int) == 48) = false := by
    by_cases h1 : s.size = 1
    · exact .inl h1
    · refine .inr ⟨by omega, beq_eq_false_iff_ne.2 fun e => hz ⟨by omega, ?_⟩⟩
      apply UInt8.toNat_inj.1
      show s[0].toNat = 48
      omega
  clear hz hg0
  rcases hzz with hzz | ⟨hz1, hzz⟩
  · cases hzb : (((s[0].toNat : Nat) : Int) == 48)
    · go_enter Tryz.func41, Tryz.ntmps41
      go_wp2
      go_loop [7, 8] (fun v i => ∃ k n : Nat, k ≤ s.size ∧ v = .int .i64 (n : Int) ∧ i = .int .i64 (k : Int) ∧ Hid (Lib.decFrom 0 (s.data.toList.take k) = some n)) (fun _ i => s.size - (intOf i).toNat)
      case atStart => exact ⟨0, 0, Nat.zero_le _, rfl, rfl, rfl⟩
      case round =>
        obtain ⟨k, n, hk, rfl, rfl, HA⟩ := hrel
        by_cases hlt : k < s.size
        · have hnb := dec_bd' HA.out d (by omega) (by omega)
          have hgk : s.data.toList[k]? = some s[k] := by exact str_get s k hlt
          rcases (show ((s[k].toNat : Nat) : Int) < 48 ∨ (48 ≤ ((s[k].toNat : Nat) : Int) ∧ ((s[k].toNat : Nat) : Int) ≤ 57) ∨ 57 < ((s[k].toNat : Nat) : Int) by omega) with hd1 | ⟨hd1, hd2⟩ | hd1
          · have HS := Lib.hid (dec_none HA.out hgk (by omega))
            clear hgk
            go_wp2
            go_ret2
            exact ⟨by rw [HN.out, HS.out]; rfl, rfl⟩
          · have HS := Lib.hid (dec_step HA.out hgk (by omega) (by omega))
            have hw1 : IntKind.i64.wrap (10 * (n : Int)) = 10 * n := IntWalk.i64_in _ (by omega)
            have hw2 : IntKind.i64.wrap (10 * (n : Int) + (((s[k].toNat : Nat) : Int) - 48)) = ((10 * n + (s[k].toNat - 48) : Nat) : Int) := by rw [IntWalk.i64_in _ (by omega)]; omega
            clear hgk
            go_wp2
            go_round
            case rel => exact ⟨k + 1, 10 * n + (s[k].toNat - 48), by omega, by go_num, by go_num, HS.out⟩
            case measure => simp [intOf]; omega
          · have HS := Lib.hid (dec_none HA.out hgk (by omega))
            clear hgk
            go_wp2
            go_ret2
            exact ⟨by rw [HN.out, HS.out]; rfl, rfl⟩
        · have HS : Hid (Lib.decFrom 0 s.data.toList = some n) := by
            have := HA.out
            rwa [List.take_of_length_le (by rw [HL.out]; omega)] at this
          have hnb := dec_bd' HA.out d (by omega) (by omega)
          have hwn : IntKind.i64.wrap (-(n : Int)) = -(n : Int) := IntWalk.i64_in _ (by omega)
          have hc2 := HL
          go_wp2
          go_ret2
          exact ⟨by rw [HN.out, HS.out]; rfl, rfl⟩
    · go_enter Tryz.func41, Tryz.ntmps41
      go_wp2
      go_loop [7, 8] (fun v i => ∃ k n : Nat, k ≤ s.size ∧ v = .int .i64 (n : Int) ∧ i = .int .i64 (k : Int) ∧ Hid (Lib.decFrom 0 (s.data.toList.take k) = some n)) (fun _ i => s.size - (intOf i).toNat)
      case atStart => exact ⟨0, 0, Nat.zero_le _, rfl, rfl, rfl⟩
      case round =>
        obtain ⟨k, n, hk, rfl, rfl, HA⟩ := hrel
        by_cases hlt : k < s.size
        · have hnb := dec_bd' HA.out d (by omega) (by omega)
          have hgk : s.data.toList[k]? = some s[k] := by exact str_get s k hlt
          rcases (show ((s[k].toNat : Nat) : Int) < 48 ∨ (48 ≤ ((s[k].toNat : Nat) : Int) ∧ ((s[k].toNat : Nat) : Int) ≤ 57) ∨ 57 < ((s[k].toNat : Nat) : Int) by omega) with hd1 | ⟨hd1, hd2⟩ | hd1
          · have HS := Lib.hid (dec_none HA.out hgk (by omega))
            clear hgk
            go_wp2
            go_ret2
            exact ⟨by rw [HN.out, HS.out]; rfl, rfl⟩
          · have HS := Lib.hid (dec_step HA.out hgk (by omega) (by omega))
            have hw1 : IntKind.i64.wrap (10 * (n : Int)) = 10 * n := IntWalk.i64_in _ (by omega)
            have hw2 : IntKind.i64.wrap (10 * (n : Int) + (((s[k].toNat : Nat) : Int) - 48)) = ((10 * n + (s[k].toNat - 48) : Nat) : Int) := by rw [IntWalk.i64_in _ (by omega)]; omega
            clear hgk
            go_wp2
            go_round
            case rel => exact ⟨k + 1, 10 * n + (s[k].toNat - 48), by omega, by go_num, by go_num, HS.out⟩
            case measure => simp [intOf]; omega
          · have HS := Lib.hid (dec_none HA.out hgk (by omega))
            clear hgk
            go_wp2
            go_ret2
            exact ⟨by rw [HN.out, HS.out]; rfl, rfl⟩
        · have HS : Hid (Lib.decFrom 0 s.data.toList = some n) := by
            have := HA.out
            rwa [List.take_of_length_le (by rw [HL.out]; omega)] at this
          have hnb := dec_bd' HA.out d (by omega) (by omega)
          have hwn : IntKind.i64.wrap (-(n : Int)) = -(n : Int) := IntWalk.i64_in _ (by omega)
          have hc2 := HL
          go_wp2
          go_ret2
          exact ⟨by rw [HN.out, HS.out]; rfl, rfl⟩
  · go_enter Tryz.func41, Tryz.ntmps41
    go_wp2
    go_loop [7, 8] (fun v i => ∃ k n : Nat, k ≤ s.size ∧ v = .int .i64 (n : Int) ∧ i = .int .i64 (k : Int) ∧ Hid (Lib.decFrom 0 (s.data.toList.take k) = some n)) (fun _ i => s.size - (intOf i).toNat)
    case atStart => exact ⟨0, 0, Nat.zero_le _, rfl, rfl, rfl⟩
    case round =>
      obtain ⟨k, n, hk, rfl, rfl, HA⟩ := hrel
      by_cases hlt : k < s.size
      · have hnb := dec_bd' HA.out d (by omega) (by omega)
        have hgk : s.data.toList[k]? = some s[k] := by exact str_get s k hlt
        rcases (show ((s[k].toNat : Nat) : Int) < 48 ∨ (48 ≤ ((s[k].toNat : Nat) : Int) ∧ ((s[k].toNat : Nat) : Int) ≤ 57) ∨ 57 < ((s[k].toNat : Nat) : Int) by omega) with hd1 | ⟨hd1, hd2⟩ | hd1
        · have HS := Lib.hid (dec_none HA.out hgk (by omega))
          clear hgk
          go_wp2
          go_ret2
          exact ⟨by rw [HN.out, HS.out]; rfl, rfl⟩
        · have HS := Lib.hid (dec_step HA.out hgk (by omega) (by omega))
          have hw1 : IntKind.i64.wrap (10 * (n : Int)) = 10 * n := IntWalk.i64_in _ (by omega)
          have hw2 : IntKind.i64.wrap (10 * (n : Int) + (((s[k].toNat : Nat) : Int) - 48)) = ((10 * n + (s[k].toNat - 48) : Nat) : Int) := by rw [IntWalk.i64_in _ (by omega)]; omega
          clear hgk
          go_wp2
          go_round
          case rel => exact ⟨k + 1, 10 * n + (s[k].toNat - 48), by omega, by go_num, by go_num, HS.out⟩
          case measure => simp [intOf]; omega
        · have HS := Lib.hid (dec_none HA.out hgk (by omega))
          clear hgk
          go_wp2
          go_ret2
          exact ⟨by rw [HN.out, HS.out]; rfl, rfl⟩
      · have HS : Hid (Lib.decFrom 0 s.data.toList = some n) := by
          have := HA.out
          rwa [List.take_of_length_le (by rw [HL.out]; omega)] at this
        have hnb := dec_bd' HA.out d (by omega) (by omega)
        have hwn : IntKind.i64.wrap (-(n : Int)) = -(n : Int) := IntWalk.i64_in _ (by omega)
        have hc2 := HL
        go_wp2
        go_ret2
        exact ⟨by rw [HN.out, HS.out]; rfl, rfl⟩

theorem number_any (s : ByteArray) (d : Nat) (w : World) (hs : s.size ≤ 9223372036854775806) (hd1 : 1 ≤ d) (hd17 : d ≤ 17) :
    Calls Tryz.prog 41 #[.string s, .int .i64 (d : Int)] w fun e w' => e = .returned (.tuple #[.int .i64 ((numS s.data.toList d).getD 0), .bool (numS s.data.toList d).isSome]) ∧ w = w' := by
  by_cases hp : 0 < s.size
  · by_cases hm : s[0] = 45
    · exact number_neg s d w hs hd1 hd17 hp hm
    · exact number_pos s d w hs hd1 hd17 hp hm
  · have h0 : s.size = 0 := by omega
    have hlen : s.data.toList.length = s.size := by simp
    have HN : Hid (numS s.data.toList d = none) := by
      show _ = _
      have hnil : s.data.toList = [] := List.length_eq_zero_iff.1 (by rw [hlen]; exact h0)
      rw [hnil]
      unfold numS digs
      simp
    clear hlen
    go_enter Tryz.func41, Tryz.ntmps41
    go_wp2
    go_ret2
    exact ⟨by rw [HN.out]; rfl, rfl⟩

end Go.Proofs.YtjjflbnopphciaaGreatDoor

