import Derived.Test.YtepjnkmmielamaaDoorM12
namespace Go.Proofs.YtepjnkmmielamaaDoor

/-- Numbers with zeros behind them, eight in all. -/
def padU (xs : List Int) : List Int := xs ++ List.replicate (8 - xs.length) 0
theorem padU_length (xs : List Int) (h : xs.length ≤ 8) : (padU xs).length = 8 := by simp [padU]; omega
theorem padU_nil : padU [] = [0, 0, 0, 0, 0, 0, 0, 0] := rfl
theorem padU_full (xs : List Int) (h : xs.length = 8) : padU xs = xs := by simp [padU, h]
theorem padU_set (xs : List Int) (u : Int) (h : xs.length < 8) : (padU xs).set xs.length u = padU (xs ++ [u]) := by
  unfold padU
  rw [List.set_append_right _ _ (by omega)]
  have e : 8 - xs.length = (8 - (xs ++ [u]).length) + 1 := by simp; omega
  rw [e, Nat.sub_self, List.replicate_succ]
  simp
theorem padU_at (xs : List Int) (j : Nat) (h : j < xs.length) : (padU xs).getD j 0 = xs.getD j 0 := by
  simp [padU, List.getD_eq_getElem?_getD, List.getElem?_append_left h]

def rdOk (l : List Int) (k : Nat) : Bool := okR l k 8 && decide ((restR l k 8).length = 0)
def rdXs (l : List Int) (k : Nat) : List Int := if okR l k 8 then numsU l k 8 else List.replicate 8 0

theorem rd_stop (l : List Int) (k j : Nat) (hj : j < 8) (h : stepOk (restR l k j) k = false) : okR l k 8 = false := by
  cases he : okR l k 8 with
  | false => rfl
  | true =>
    have := okR_mono l k (j + 1) 8 (by omega) he
    simp [okR, h] at this
theorem rdOk_stop (l : List Int) (k j : Nat) (hj : j < 8) (h : stepOk (restR l k j) k = false) : rdOk l k = false := by
  simp [rdOk, rd_stop l k j hj h]
theorem rdXs_stop (l : List Int) (k j : Nat) (hj : j < 8) (h : stepOk (restR l k j) k = false) : rdXs l k = List.replicate 8 0 := by
  simp [rdXs, rd_stop l k j hj h]

theorem restR_len (l : List Int) (k j : Nat) : (restR l k j).length ≤ l.length := by
  induction j with
  | zero => exact Nat.le_refl _
  | succ j ih => simp only [restR, stepR, List.length_drop]; omega
theorem restR_01 (l : List Int) (k j : Nat) (h : Bits01 l) : Bits01 (restR l k j) := by
  induction j with
  | zero => exact h
  | succ j ih => exact fun x hx => ih x (List.mem_of_mem_drop hx)

theorem stepU_bd (l : List Int) (k : Nat) (h : Bits01 l) (hk : k ≤ 17) (hn : l.length ≤ 400) : 0 ≤ stepU l k ∧ stepU l k ≤ 60000000 := by
  unfold stepU
  have h1 := numT_bd ((l.drop (onesL l + 1)).take k) (fun x hx => h x (List.mem_of_mem_drop (List.mem_of_mem_take hx)))
  have h2 : ((l.drop (onesL l + 1)).take k).length ≤ k := by rw [List.length_take]; omega
  have h3 : (2 : Int) ^ ((l.drop (onesL l + 1)).take k).length ≤ 131072 := by
    have : ((2 ^ ((l.drop (onesL l + 1)).take k).length : Nat) : Int) ≤ ((2 ^ 17 : Nat) : Int) := by exact_mod_cast Nat.pow_le_pow_right (by omega) (by omega)
    simpa using this
  have h4 := pw_bd k hk
  unfold pw at h4
  have h5 := onesL_le l
  have h6 : (0 : Int) ≤ (onesL l : Int) * 2 ^ k := Int.mul_nonneg (by omega) (by omega)
  have h7 : (onesL l : Int) * 2 ^ k ≤ 400 * 131072 := Int.mul_le_mul (by omega) h4.2 (by omega) (by omega)
  omega
theorem numsU_bd (l : List Int) (k j : Nat) (h : Bits01 l) (hk : k ≤ 17) (hn : l.length ≤ 400) : ∀ x ∈ numsU l k j, 0 ≤ x ∧ x ≤ 60000000 := by
  induction j with
  | zero => intro x hx; simp [numsU] at hx
  | succ j ih =>
    intro x hx
    simp only [numsU, List.mem_append, List.mem_singleton] at hx
    rcases hx with hx | rfl
    · exact ih x hx
    · exact stepU_bd _ k (restR_01 l k j h) hk (Nat.le_trans (restR_len l k j) hn)

theorem unfold1_bd (u : Int) (h0 : 0 ≤ u) (h1 : u ≤ 60000000) : -60000000 ≤ unfold1 u ∧ unfold1 u ≤ 60000000 := by
  unfold unfold1
  split <;> omega

end Go.Proofs.YtepjnkmmielamaaDoor
