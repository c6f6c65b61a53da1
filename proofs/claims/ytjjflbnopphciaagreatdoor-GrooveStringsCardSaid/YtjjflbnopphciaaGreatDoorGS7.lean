import Derived.Test.YtjjflbnopphciaaGreatDoorGS6
import Derived.Test.YtjjflbnopphciaaGreatDoorB1
import Derived.Lib.AtoiAll
import Derived.Lib.AtoiTie
namespace Go.Proofs.YtjjflbnopphciaaGreatDoor
open Go.RowKit

theorem decDigits_back (r : List UInt8) : ∀ n, r ≠ [] → (r.head? ≠ some 48 ∨ r.length ≤ 1) → Lib.decFrom 0 r = some n → r = Lib.decDigits n := by
  have key : ∀ (k : Nat) (r : List UInt8), r.length = k → ∀ n, r ≠ [] → (r.head? ≠ some 48 ∨ r.length ≤ 1) → Lib.decFrom 0 r = some n → r = Lib.decDigits n := by
    intro k
    induction k with
    | zero => intro r hl n hne; exact absurd (List.eq_nil_of_length_eq_zero hl) hne
    | succ k ih =>
      intro r hl n hne hh hd
      rcases List.eq_nil_or_concat r with e | ⟨t, b, e⟩
      · exact absurd e hne
      · rw [List.concat_eq_append] at e
        subst e
        rw [decFrom_append] at hd
        cases hm : Lib.decFrom 0 t with
        | none => rw [hm] at hd; cases hd
        | some m =>
          rw [hm] at hd
          have hd2 : Lib.decFrom m [b] = some n := hd
          rw [Lib.decFrom] at hd2
          cases hv : Lib.digitVal b with
          | none => rw [hv] at hd2; cases hd2
          | some d =>
            rw [hv] at hd2
            have hn : m * 10 + d = n := by
              have : Lib.decFrom (m * 10 + d) [] = some n := hd2
              rw [Lib.decFrom] at this
              exact Option.some.inj this
            obtain ⟨h1, h2, h3⟩ := Lib.digitVal_eq hv
            have hb : b = UInt8.ofNat (48 + d) := by
              apply UInt8.toNat_inj.1
              rw [UInt8.toNat_ofNat']
              omega
            by_cases ht : t = []
            · subst ht
              have hm0 : m = 0 := by rw [Lib.decFrom] at hm; exact (Option.some.inj hm).symm
              subst hm0
              rw [← hn, Lib.decDigits, dif_pos (by omega), List.nil_append, hb, Nat.zero_mul, Nat.zero_add]
            · have hlen : t.length = k := by simp at hl; exact hl
              have hpos : 0 < t.length := List.length_pos_iff.2 ht
              have hh1 : (t ++ [b]).head? ≠ some 48 := by
                rcases hh with h | h
                · exact h
                · rw [List.length_append, List.length_singleton] at h; omega
              have hht : t.head? ≠ some 48 := by
                have e1 : (t ++ [b]).head? = t.head? := by
                  cases t with
                  | nil => exact absurd rfl ht
                  | cons a u => rfl
                rw [e1] at hh1
                exact hh1
              have hmp := decFrom_pos hm hht ht
              have := ih t hlen m ht (.inl hht) hm
              rw [Lib.decDigits, dif_neg (by omega), show n / 10 = m by omega, show n % 10 = d by omega, ← this, hb]
  exact fun n => key r.length r rfl n

theorem digs_back {r : List UInt8} {d n : Nat} {z : Bool} (hz : z = true → r.length ≤ 1) (h : digs r d z = some n) : r = Lib.decDigits n ∧ Lib.decFrom 0 r = some n ∧ r ≠ [] ∧ r.length ≤ d ∧ (z = false → 0 < n) := by
  unfold digs at h
  split at h
  · cases h
  · rename_i h1
    have hne : r ≠ [] := fun e => h1 (.inl e)
    have hl : r.length ≤ d := by
      by_cases e : d < r.length
      · exact absurd (.inr (.inl e)) h1
      · omega
    have hh : r.head? ≠ some 48 ∨ r.length ≤ 1 := by
      cases z with
      | true => exact .inr (hz rfl)
      | false => exact .inl fun e => h1 (.inr (.inr ⟨e, rfl⟩))
    refine ⟨decDigits_back r n hne hh h, h, hne, hl, fun e => ?_⟩
    subst e
    exact decFrom_pos h (fun e => h1 (.inr (.inr ⟨e, rfl⟩))) hne

theorem atoi_minus {r : List UInt8} {n : Nat} (h : Lib.decFrom 0 r = some n) (hne : r ≠ []) : Lib.atoi (45 :: r) = some (-(n : Int)) := by
  have : Lib.decNat r = some n := by
    unfold Lib.decNat
    rw [if_neg (by cases r with | nil => exact absurd rfl hne | cons a t => simp), h]
  rw [Lib.atoi, if_pos (by decide), this]; rfl
theorem atoi_plain {r : List UInt8} {n : Nat} (h : Lib.decFrom 0 r = some n) (hne : r ≠ []) : Lib.atoi r = some (n : Int) := by
  have h2 : Lib.decNat r = some n := by
    unfold Lib.decNat
    rw [if_neg (by cases r with | nil => exact absurd rfl hne | cons a t => simp), h]
  cases r with
  | nil => exact absurd rfl hne
  | cons b t =>
    obtain ⟨d, hd⟩ := Lib.digit_of_decFrom _ _ _ h 0 b rfl
    obtain ⟨h1, h3, _⟩ := Lib.digitVal_eq hd
    have a1 : (b == 45) = false := by
      refine beq_eq_false_iff_ne.2 ?_
      rintro rfl
      have : (45 : UInt8).toNat = 45 := rfl
      omega
    have a2 : (b == 43) = false := by
      refine beq_eq_false_iff_ne.2 ?_
      rintro rfl
      have : (43 : UInt8).toNat = 43 := rfl
      omega
    rw [Lib.atoi, if_neg (by rw [a1]; decide), if_neg (by rw [a2]; decide), h2]
    rfl

/-- What the base's Number reads is written so, and Atoi reads it. -/
theorem numS_back {l : List UInt8} {d : Nat} {k : Int} (h : numS l d = some k) (hd : d ≤ 17) : l = Lib.itoa k ∧ Lib.atoiAll l = .ok k := by
  unfold numS at h
  split at h
  · rename_i hm
    cases hn : digs l.tail d false with
    | none => rw [hn] at h; cases h
    | some n =>
      rw [hn] at h
      have hk : k = -(n : Int) := (Option.some.inj h).symm
      obtain ⟨h1, h2, h3, h4, h5⟩ := digs_back (fun e => by cases e) hn
      have hp := h5 rfl
      have hl : l = 45 :: l.tail := by
        cases l with
        | nil => simp at hm
        | cons a t => simp at hm; subst hm; rfl
      have ha : Lib.atoi l = some k := by rw [hl, hk]; exact atoi_minus h2 h3
      refine ⟨?_, ?_⟩
      · rw [hk, Lib.itoa_neg n (by omega), ← h1]; exact hl
      · rw [Lib.atoiAll_short l (by rw [hl, List.length_cons]; omega), ha]; rfl
  · cases hn : digs l d (decide (l.length ≤ 1)) with
    | none => rw [hn] at h; cases h
    | some n =>
      rw [hn] at h
      have hk : k = (n : Int) := (Option.some.inj h).symm
      obtain ⟨h1, h2, h3, h4, _⟩ := digs_back (fun e => of_decide_eq_true e) hn
      refine ⟨?_, ?_⟩
      · rw [hk, Lib.itoa_nonneg n]; exact h1
      · rw [Lib.atoiAll_short l (by omega), hk, atoi_plain h2 h3]; rfl

theorem numS_int7 (x : Int) (h : -10000000 < x ∧ x < 10000000) : numS (Lib.itoa x) 7 = some x := by
  rcases Int.lt_trichotomy x 0 with h0 | h0 | h0
  · obtain ⟨u, hu⟩ : ∃ u : Nat, x = -(u : Int) := ⟨x.natAbs, by omega⟩
    rw [hu, Lib.itoa_neg u (by omega)]
    unfold numS
    rw [if_pos (show (45 :: Lib.decDigits u).head? = some 45 from rfl), List.tail_cons]
    have hd : digs (Lib.decDigits u) 7 false = some u := by
      have h1 := digs_digits u 7 (by omega) (by omega)
      have hne := decDigits_ne u
      have hh := decDigits_head u (by omega)
      have hl := digitsB_len u 7 (by omega) (by omega)
      unfold digs
      rw [if_neg]
      · exact decFrom_digits u
      · rintro (e | e | e)
        · exact hne e
        · omega
        · exact hh e.1
    rw [hd]; rfl
  · subst h0
    decide +kernel
  · obtain ⟨u, hu⟩ : ∃ u : Nat, x = (u : Int) := ⟨x.toNat, by omega⟩
    rw [hu, Lib.itoa_nonneg u]
    unfold numS
    have hh : (Lib.decDigits u).head? ≠ some 45 := by
      intro e
      have hm : (45 : UInt8) ∈ Lib.decDigits u := List.mem_of_mem_head? e
      have := decDigits_all u 45 hm
      revert this; decide
    rw [if_neg hh, digs_digits u 7 (by omega) (by omega)]
    rfl
theorem itoaG_all (n : Int) : ∀ b ∈ Lib.itoa n, b ≠ 32 := by
  intro b hb
  have := itoa_all n b hb
  rintro rfl; revert this; decide
theorem pcs_joinG (xs : List Int) (h : xs ≠ []) : pcs 32 (joinP xs) = xs.map Lib.itoa := by
  refine pcs_join 32 _ (by simpa using h) ?_
  intro x hx b hb
  obtain ⟨y, _, rfl⟩ := List.mem_map.1 hx
  exact itoaG_all y b hb

/-- The numbers of words, if all are numbers of at most seven digits. -/
def numsW : List (List UInt8) → Option (List Int)
  | [] => some []
  | p :: ps => match numS p 7 with
    | some k => (numsW ps).map (k :: ·)
    | none => none
theorem numsW_ok : ∀ (ps : List (List UInt8)) (l : List Int), numsW ps = some l → ps = l.map Lib.itoa ∧ (∀ x ∈ l, -10000000 < x ∧ x < 10000000) := by
  intro ps
  induction ps with
  | nil => intro l h; simp [numsW] at h; subst h; simp
  | cons p ps ih =>
    intro l h
    unfold numsW at h
    cases hk : numS p 7 with
    | none => rw [hk] at h; cases h
    | some k =>
      rw [hk] at h
      cases hr : numsW ps with
      | none => rw [hr] at h; cases h
      | some r =>
        rw [hr] at h
        have hl : l = k :: r := (Option.some.inj h).symm
        subst hl
        obtain ⟨h1, h2⟩ := ih r hr
        have hb := numS_bd hk
        refine ⟨by rw [List.map_cons, ← h1, ← (numS_back hk (by omega)).1], ?_⟩
        intro x hx
        rcases List.mem_cons.1 hx with rfl | hx
        · have : (10 : Nat) ^ 7 = 10000000 := by decide
          omega
        · exact h2 x hx
theorem numsW_itoa : ∀ l : List Int, (∀ x ∈ l, -10000000 < x ∧ x < 10000000) → numsW (l.map Lib.itoa) = some l := by
  intro l
  induction l with
  | nil => intro _; rfl
  | cons x l ih =>
    intro h
    rw [List.map_cons, numsW, numS_int7 x (h x (by simp)), ih fun y hy => h y (by simp [hy])]
    rfl
theorem numsW_bad : ∀ (ps : List (List UInt8)) (j : Nat) (p : List UInt8), ps[j]? = some p → numS p 7 = none → numsW ps = none := by
  intro ps
  induction ps with
  | nil => intro j p h; simp at h
  | cons q ps ih =>
    intro j p h hn
    unfold numsW
    cases j with
    | zero =>
      have : q = p := by simpa using h
      subst this
      rw [hn]
    | succ j =>
      cases hk : numS q 7 with
      | none => rfl
      | some k => rw [ih j p (by simpa using h) hn]; rfl
theorem numsW_snoc (ps : List (List UInt8)) (p : List UInt8) (k : Int) (hk : numS p 7 = some k) : ∀ l, numsW ps = some l → numsW (ps ++ [p]) = some (l ++ [k]) := by
  induction ps with
  | nil => intro l hl; simp [numsW] at hl; subst hl; simp [numsW, hk]
  | cons q t ih =>
    intro l hl
    rw [numsW] at hl
    rw [List.cons_append, numsW]
    cases hq : numS q 7 with
    | none => rw [hq] at hl; cases hl
    | some a =>
      rw [hq] at hl
      cases hr : numsW t with
      | none => rw [hr] at hl; cases hl
      | some r =>
        rw [hr] at hl
        have : l = a :: r := (Option.some.inj hl).symm
        subst this
        rw [ih r hr]
        rfl
theorem numsW_take (ps : List (List UInt8)) (j : Nat) (p : List UInt8) (l : List Int) (k : Int) (h : ps[j]? = some p) (hl : numsW (ps.take j) = some l) (hk : numS p 7 = some k) : numsW (ps.take (j + 1)) = some (l ++ [k]) := by
  have e : ps.take (j + 1) = ps.take j ++ [p] := by rw [List.take_add_one, h]; rfl
  rw [e]
  exact numsW_snoc _ _ _ hk _ hl

/-- What the numbers of a path give. -/
def pathO : Option (List Int) → List Int × Int
  | none => ([], 7)
  | some l => if posE l = 0 then (l, 0) else ([], posE l)
/-- What a path's string says: the numbers and the error. -/
def pathS (s : ByteArray) : List Int × Int :=
  if 60000 < s.size then ([], 8) else if s.size = 0 then ([], 0) else pathO (numsW (pcs 32 s.data.toList))
theorem pathO_ok {l : List Int} (h : posE l = 0) : pathO (some l) = (l, 0) := if_pos h
theorem pathO_err {l : List Int} (h : posE l ≠ 0) : pathO (some l) = ([], posE l) := if_neg h
theorem joinP_pos (l : List Int) (hne : l ≠ []) : 0 < (joinP l).length := by
  cases l with
  | nil => exact absurd rfl hne
  | cons x r =>
    have h1 := List.length_pos_iff.2 (itoa_ne x)
    unfold joinP
    rw [List.map_cons, Lib.join_cons, List.length_append]
    omega
/-- Valid positions are read again. -/
theorem pathS_join (l : List Int) (h : posE l = 0) (hb : ∀ x ∈ l, -1000000 ≤ x ∧ x ≤ 1000000) (hl : l.length ≤ 200) : pathS ⟨(joinP l).toArray⟩ = (l, 0) := by
  have hlen : (joinP l).length ≤ 21 * l.length := joinP_len l fun x hx => by have := hb x hx; omega
  unfold pathS
  rw [bytes_size, if_neg (by omega)]
  by_cases hn : l = []
  · subst hn
    rw [if_pos (by rfl)]
  · have := joinP_pos l hn
    rw [if_neg (by omega)]
    show pathO (numsW (pcs 32 (joinP l))) = _
    rw [pcs_joinG l hn, numsW_itoa l fun x hx => by have := hb x hx; omega]
    exact pathO_ok h
end Go.Proofs.YtjjflbnopphciaaGreatDoor
