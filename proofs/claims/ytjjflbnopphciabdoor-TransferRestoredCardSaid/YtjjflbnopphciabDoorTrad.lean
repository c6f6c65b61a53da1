import Derived.Test.YtjjflbnopphciabDoorTrac
import Derived.Deep.DeepCutAuto
import Derived.StillTailTactics
import Derived.Test.YtjjflbnopphciabDoorTrab
namespace Go.Proofs.YtjjflbnopphciabDoor

/-- A step of the elimination: row c is divided by its pivot, and its multiples are taken from all others. -/
def stpF (c : Nat) (M : Nat → Nat → Int) (r k : Nat) : Int :=
  if r = c then M c k * invT (M c c) % 65537 else (M r k - M c k * invT (M c c) % 65537 * M r c % 65537) % 65537
def slvF (M : Nat → Nat → Int) : Nat → Nat → Nat → Int
  | 0 => M
  | c + 1 => stpF c (slvF M c)
theorem emod_bd (x : Int) : 0 ≤ x % 65537 ∧ x % 65537 ≤ 65536 := by omega
theorem stpF_bd (c : Nat) (M : Nat → Nat → Int) (r k : Nat) : 0 ≤ stpF c M r k ∧ stpF c M r k ≤ 65536 := by
  unfold stpF; split <;> exact emod_bd _
theorem slvF_bd (M : Nat → Nat → Int) (h : ∀ r k, 0 ≤ M r k ∧ M r k ≤ 65536) (c : Nat) : ∀ r k, 0 ≤ slvF M c r k ∧ slvF M c r k ≤ 65536 := by
  cases c with
  | zero => exact h
  | succ c => exact stpF_bd c _
/-- Columns are independent of each other, but for those of the pivots. -/
theorem slvF_cols (M N : Nat → Nat → Int) (s : Nat → Nat) (n : Nat) (hs : ∀ c, c < n → s c = c) (h : ∀ r k, N r k = M r (s k)) : ∀ c, c ≤ n → ∀ r k, slvF N c r k = slvF M c r (s k) := by
  intro c
  induction c with
  | zero => intro _ r k; exact h r k
  | succ c ih =>
    intro hc r k
    have i2 := ih (by omega)
    show stpF c _ r k = stpF c _ r (s k)
    unfold stpF
    have e := hs c (by omega)
    rw [i2 c k, i2 c c, i2 r k, i2 r c, e]
/-- Only rows below n count. -/
theorem slvF_rows (M N : Nat → Nat → Int) (n : Nat) (h : ∀ r k, r < n → N r k = M r k) : ∀ c, c ≤ n → ∀ r k, r < n → slvF N c r k = slvF M c r k := by
  intro c
  induction c with
  | zero => intro _ r k hr; exact h r k hr
  | succ c ih =>
    intro hc r k hr
    have i2 := ih (by omega)
    show stpF c _ r k = stpF c _ r k
    unfold stpF
    rw [i2 c k (by omega), i2 c c (by omega), i2 r k hr, i2 r c hr]

/-- The same with lists of natural numbers, for the kernel. -/
def powQ (n i : Nat) : Nat := Nat.rec 1 (fun _ p => p * p % 65537 * n % 65537) i
def invQ (n : Nat) : Nat := powQ n 16
theorem powQ_eq (n i : Nat) : powTo n i = (powQ n i : Int) := by
  induction i with
  | zero => rfl
  | succ i ih =>
    show powTo n i * powTo n i % 65537 * n % 65537 = ((powQ n i * powQ n i % 65537 * n % 65537 : Nat) : Int)
    rw [ih, Int.natCast_emod, Int.natCast_mul, Int.natCast_emod, Int.natCast_mul]
    rfl
theorem invQ_eq (n : Nat) : invT n = (invQ n : Int) := powQ_eq n 16
def enQ (l : List (List Nat)) (r k : Nat) : Nat := (l.getD r []).getD k 0
def subQ (f : Nat) (row p : List Nat) : List Nat := List.zipWith (fun a b => (a + (65537 - b * f % 65537)) % 65537) row p
def rowsQ (c : Nat) (p : List Nat) : Nat → List (List Nat) → List (List Nat)
  | _, [] => []
  | r, row :: t => (if r = c then p else subQ (row.getD c 0) row p) :: rowsQ c p (r + 1) t
def stpQ (c : Nat) (l : List (List Nat)) : List (List Nat) :=
  rowsQ c ((l.getD c []).map fun x => x * invQ (enQ l c c) % 65537) 0 l
def isOne (l : List (List Nat)) (n : Nat) : Bool := (List.range n).all fun r => (List.range n).all fun k => Nat.beq (enQ l r k) (if r = k then 1 else 0)
def okQ : Nat → Nat → Nat → List (List Nat) → Bool
  | 0, n, _, l => isOne l n
  | f + 1, n, c, l => !Nat.beq (enQ l c c) 0 && okQ f n (c + 1) (stpQ c l)
def matQ (L T : List Nat) : List (List Nat) := T.map fun j => L.map fun i => invQ (4 + i - j)
def asc (hi : Nat) : Nat → Nat → List (List Nat)
  | 0, _ => [[]]
  | n + 1, lo => (List.range' lo (hi - lo)).flatMap fun a => (asc hi n (a + 1)).map (a :: ·)
def okAll (n : Nat) : Bool := (asc 4 n 0).all fun T => (asc 12 n 0).all fun L => okQ n n 0 (matQ L T)
theorem ok0 : okAll 0 = true := by decide +kernel
theorem ok1 : okAll 1 = true := by decide +kernel
theorem ok2 : okAll 2 = true := by decide +kernel
theorem ok3 : okAll 3 = true := by decide +kernel
theorem ok4 : okAll 4 = true := by decide +kernel

/-- Numbers that ascend, from lo to below hi. -/
def Asc (hi lo : Nat) : List Nat → Prop
  | [] => True
  | a :: t => lo ≤ a ∧ a < hi ∧ Asc hi (a + 1) t
theorem asc_mem (hi : Nat) : ∀ (l : List Nat) (lo : Nat), Asc hi lo l → l ∈ asc hi l.length lo := by
  intro l
  induction l with
  | nil => intro lo _; simp [asc]
  | cons a t ih =>
    intro lo h
    obtain ⟨h1, h2, h3⟩ := h
    simp only [List.length_cons, asc, List.mem_flatMap, List.mem_range'_1, List.mem_map]
    exact ⟨a, ⟨h1, by omega⟩, t, ih _ h3, rfl⟩
theorem okAll_of (n : Nat) (hn : n ≤ 4) : okAll n = true := by
  match n, hn with
  | 0, _ => exact ok0
  | 1, _ => exact ok1
  | 2, _ => exact ok2
  | 3, _ => exact ok3
  | 4, _ => exact ok4
theorem ok_of (L T : List Nat) (n : Nat) (hL : Asc 12 0 L) (hT : Asc 4 0 T) (h1 : L.length = n) (h2 : T.length = n) (hn : n ≤ 4) : okQ n n 0 (matQ L T) = true := by
  have h := okAll_of n hn
  unfold okAll at h
  rw [List.all_eq_true] at h
  have h3 := h T (by rw [← h2]; exact asc_mem 4 T 0 hT)
  rw [List.all_eq_true] at h3
  exact h3 L (by rw [← h1]; exact asc_mem 12 L 0 hL)

/-- Rows of natural numbers are those of a matrix. -/
def Eqv (n : Nat) (l : List (List Nat)) (M : Nat → Nat → Int) : Prop :=
  l.length = n ∧ (∀ r, r < n → (l.getD r []).length = n) ∧ ∀ r k, r < n → k < n → (enQ l r k : Int) = M r k ∧ enQ l r k < 65537
theorem rowsQ_len (c : Nat) (p : List Nat) (l : List (List Nat)) : ∀ r, (rowsQ c p r l).length = l.length := by
  induction l with
  | nil => intro r; rfl
  | cons a t ih => intro r; simp [rowsQ, ih]
theorem rowsQ_at (c : Nat) (p : List Nat) (l : List (List Nat)) : ∀ r i, i < l.length → (rowsQ c p r l).getD i [] = if r + i = c then p else subQ ((l.getD i []).getD c 0) (l.getD i []) p := by
  induction l with
  | nil => intro r i h; simp at h
  | cons a t ih =>
    intro r i h
    cases i with
    | zero => simp [rowsQ]
    | succ i =>
      have := ih (r + 1) i (by simpa using h)
      rw [show r + 1 + i = r + (i + 1) by omega] at this
      simpa [rowsQ] using this
theorem getD_map0 (l : List Nat) (f : Nat → Nat) (k : Nat) (h : k < l.length) : (l.map f).getD k 0 = f (l.getD k 0) := by
  simp [List.getD_eq_getElem?_getD, List.getElem?_eq_getElem h]
theorem subQ_at (f : Nat) (a b : List Nat) (k : Nat) (ha : k < a.length) (hb : k < b.length) : (subQ f a b).getD k 0 = (a.getD k 0 + (65537 - b.getD k 0 * f % 65537)) % 65537 := by
  unfold subQ
  simp [List.getD_eq_getElem?_getD, List.getElem?_zipWith, List.getElem?_eq_getElem ha, List.getElem?_eq_getElem hb]
theorem stpQ_eqv {n : Nat} {l : List (List Nat)} {M : Nat → Nat → Int} (h : Eqv n l M) {c : Nat} (hc : c < n) : Eqv n (stpQ c l) (stpF c M) := by
  obtain ⟨h1, h2, h3⟩ := h
  have hp : ∀ k, k < n → ((l.getD c []).map fun x => x * invQ (enQ l c c) % 65537).getD k 0 = enQ l c k * invQ (enQ l c c) % 65537 := fun k hk => getD_map0 _ _ k (by rw [h2 c hc]; exact hk)
  have hpl : ((l.getD c []).map fun x => x * invQ (enQ l c c) % 65537).length = n := by rw [List.length_map]; exact h2 c hc
  have hcc := (h3 c c hc hc).1
  have hpi : ∀ k, k < n → ((enQ l c k * invQ (enQ l c c) % 65537 : Nat) : Int) = M c k * invT (M c c) % 65537 := fun k hk => by
    rw [Int.natCast_emod, Int.natCast_mul, (h3 c k hc hk).1, ← invQ_eq, hcc]; rfl
  refine ⟨by unfold stpQ; rw [rowsQ_len]; exact h1, fun r hr => ?_, fun r k hr hk => ?_⟩
  · unfold stpQ
    rw [rowsQ_at _ _ _ _ _ (by omega)]
    split
    · exact hpl
    · unfold subQ; rw [List.length_zipWith, hpl, h2 r hr]; omega
  · have e : enQ (stpQ c l) r k = if 0 + r = c then enQ l c k * invQ (enQ l c c) % 65537 else (enQ l r k + (65537 - enQ l c k * invQ (enQ l c c) % 65537 * enQ l r c % 65537)) % 65537 := by
      unfold stpQ
      show (List.getD _ r []).getD k 0 = _
      rw [rowsQ_at _ _ _ _ _ (by omega)]
      split
      · exact hp k hk
      · rw [subQ_at _ _ _ _ (by rw [h2 r hr]; exact hk) (by rw [hpl]; exact hk), hp k hk]; rfl
    rw [e, Nat.zero_add]
    unfold stpF
    by_cases hrc : r = c
    · rw [if_pos hrc, if_pos hrc]; exact ⟨hpi k hk, Nat.mod_lt _ (by omega)⟩
    · rw [if_neg hrc, if_neg hrc]
      refine ⟨?_, Nat.mod_lt _ (by omega)⟩
      rw [← hpi k hk, ← (h3 r c hr hc).1, ← (h3 r k hr hk).1]
      generalize hX : enQ l c k * invQ (enQ l c c) % 65537 * enQ l r c = X
      have : (((enQ l c k * invQ (enQ l c c) % 65537 : Nat) : Int) * (enQ l r c : Int)) = (X : Int) := by rw [← hX, Int.natCast_mul]
      rw [this]
      omega
theorem okQ_spec (n f c : Nat) (l : List (List Nat)) (M : Nat → Nat → Int) (hf : c + f = n) (he : Eqv n l (slvF M c)) (h : okQ f n c l = true) :
    (∀ i, c ≤ i → i < n → slvF M i i i ≠ 0) ∧ ∀ r k, r < n → k < n → slvF M n r k = if r = k then 1 else 0 := by
  induction f generalizing c l with
  | zero =>
    obtain rfl : c = n := by omega
    refine ⟨fun i h1 h2 => by omega, fun r k hr hk => ?_⟩
    unfold okQ isOne at h
    rw [List.all_eq_true] at h
    have h2 := h r (List.mem_range.2 hr)
    rw [List.all_eq_true] at h2
    have h3 := Nat.eq_of_beq_eq_true (h2 k (List.mem_range.2 hk))
    rw [← (he.2.2 r k hr hk).1, h3]
    split <;> rfl
  | succ f ih =>
    simp only [okQ, Bool.and_eq_true, Bool.not_eq_true'] at h
    have hc : c < n := by omega
    obtain ⟨i1, i2⟩ := ih (c + 1) (stpQ c l) (by omega) (stpQ_eqv he hc) h.2
    refine ⟨fun i hi hin => ?_, i2⟩
    by_cases e : i = c
    · subst e
      rw [← (he.2.2 i i hc hc).1]
      intro h0
      have : enQ l i i = 0 := by omega
      rw [this] at h
      exact absurd h.1 (by decide)
    · exact i1 i (by omega) hin

/-- The weights of lost blocks in parities. -/
def wtF (L T : List Nat) (r k : Nat) : Int := invT (4 + (L.getD k 0 : Int) - (T.getD r 0 : Int))
theorem Asc.lt {hi lo : Nat} {l : List Nat} (h : Asc hi lo l) : ∀ x ∈ l, x < hi := by
  induction l generalizing lo with
  | nil => intro x hx; cases hx
  | cons a t ih =>
    intro x hx
    rcases List.mem_cons.1 hx with rfl | hx
    · exact h.2.1
    · exact ih h.2.2 x hx
theorem getD_mem (l : List Nat) (k : Nat) (h : k < l.length) : l.getD k 0 ∈ l := by
  rw [List.getD_eq_getElem?_getD, List.getElem?_eq_getElem h]; exact List.getElem_mem h
theorem mat_eqv (L T : List Nat) (n : Nat) (hT : Asc 4 0 T) (h1 : L.length = n) (h2 : T.length = n) (M : Nat → Nat → Int) (hM : ∀ r k, r < n → k < n → M r k = wtF L T r k) : Eqv n (matQ L T) M := by
  have hr : ∀ r, r < n → (matQ L T).getD r [] = L.map fun i => invQ (4 + i - T.getD r 0) := fun r hr => by
    simp [matQ, List.getD_eq_getElem?_getD, List.getElem?_eq_getElem (show r < T.length by omega)]
  refine ⟨by simp [matQ, h2], fun r h => by rw [hr r h]; simp [h1], fun r k h h3 => ?_⟩
  have e : enQ (matQ L T) r k = invQ (4 + L.getD k 0 - T.getD r 0) := by
    unfold enQ
    rw [hr r h]
    exact getD_map0 _ _ k (by omega)
  have hlt := hT.lt _ (getD_mem T r (by omega))
  rw [e, hM r k h h3, ← invQ_eq]
  unfold wtF
  rw [show ((4 + L.getD k 0 - T.getD r 0 : Nat) : Int) = 4 + (L.getD k 0 : Int) - (T.getD r 0 : Int) by omega]
  refine ⟨rfl, ?_⟩
  have b := invT_bd ((4 + L.getD k 0 - T.getD r 0 : Nat) : Int)
  rw [invQ_eq] at b
  omega
/-- No pivot is 0, and the weights become those of one. -/
theorem wt_pivots (L T : List Nat) (n : Nat) (hL : Asc 12 0 L) (hT : Asc 4 0 T) (h1 : L.length = n) (h2 : T.length = n) (hn : n ≤ 4) (M : Nat → Nat → Int) (hM : ∀ r k, r < n → k < n → M r k = wtF L T r k) :
    (∀ i, i < n → slvF M i i i ≠ 0) ∧ ∀ r k, r < n → k < n → slvF M n r k = if r = k then 1 else 0 := by
  have h := okQ_spec n n 0 (matQ L T) M (by omega) (mat_eqv L T n hT h1 h2 M hM) (ok_of L T n hL hT h1 h2 hn)
  exact ⟨fun i hi => h.1 i (Nat.zero_le _) hi, h.2⟩

/-- Sums. -/
def smF (f : Nat → Int) : Nat → Int
  | 0 => 0
  | n + 1 => smF f n + f n
theorem smF_congr {f g : Nat → Int} {n : Nat} (h : ∀ k, k < n → f k = g k) : smF f n = smF g n := by
  induction n with
  | zero => rfl
  | succ n ih => show _ + _ = _ + _; rw [ih fun k hk => h k (by omega), h n (by omega)]
theorem smF_mul (f : Nat → Int) (a : Int) (n : Nat) : smF (fun k => f k * a) n = smF f n * a := by
  induction n with
  | zero => simp [smF]
  | succ n ih => show _ + _ = (_ + _) * a; rw [ih, Int.add_mul]
theorem smF_sub (f g : Nat → Int) (n : Nat) : smF (fun k => f k - g k) n = smF f n - smF g n := by
  induction n with
  | zero => rfl
  | succ n ih => simp only [smF]; rw [ih]; omega
/-- Equal modulo the prime. -/
def Cg (a b : Int) : Prop := a % 65537 = b % 65537
theorem Cg.mod (a : Int) : Cg (a % 65537) a := Int.emod_emod _ _
theorem Cg.add {a b c d : Int} (h : Cg a b) (g : Cg c d) : Cg (a + c) (b + d) := by unfold Cg at *; rw [Int.add_emod, h, g, ← Int.add_emod]
theorem Cg.sub {a b c d : Int} (h : Cg a b) (g : Cg c d) : Cg (a - c) (b - d) := by unfold Cg at *; rw [Int.sub_emod, h, g, ← Int.sub_emod]
theorem Cg.mul {a b c d : Int} (h : Cg a b) (g : Cg c d) : Cg (a * c) (b * d) := by unfold Cg at *; rw [Int.mul_emod, h, g, ← Int.mul_emod]
theorem Cg.refl (a : Int) : Cg a a := rfl
theorem Cg.trans {a b c : Int} (h : Cg a b) (g : Cg b c) : Cg a c := Eq.trans h g
theorem Cg.symm {a b : Int} (h : Cg a b) : Cg b a := Eq.symm h
theorem smF_cg {f g : Nat → Int} {n : Nat} (h : ∀ k, k < n → Cg (f k) (g k)) : Cg (smF f n) (smF g n) := by
  induction n with
  | zero => rfl
  | succ n ih => exact (ih fun k hk => h k (by omega)).add (h n (by omega))
/-- A step keeps what solves all equations of column s. -/
theorem stpF_sol (M : Nat → Nat → Int) (x : Nat → Int) (n c s : Nat) (hc : c < n) (h : ∀ r, r < n → Cg (smF (fun k => M r k * x k) n) (M r s)) : ∀ r, r < n → Cg (smF (fun k => stpF c M r k * x k) n) (stpF c M r s) := by
  intro r hr
  obtain ⟨v, hv⟩ : ∃ v, invT (M c c) = v := ⟨_, rfl⟩
  have hp : Cg (smF (fun k => M c k * v % 65537 * x k) n) (M c s * v) := by
    have h1 : smF (fun k => M c k * v * x k) n = smF (fun k => M c k * x k) n * v := by
      rw [← smF_mul]; exact smF_congr fun k _ => by rw [Int.mul_assoc, Int.mul_assoc, Int.mul_comm v]
    have h2 : Cg (smF (fun k => M c k * v % 65537 * x k) n) (smF (fun k => M c k * v * x k) n) := smF_cg fun k _ => (Cg.mod _).mul (Cg.refl _)
    refine h2.trans ?_
    rw [h1]
    exact (h c hc).mul (Cg.refl v)
  by_cases e : r = c
  · have e1 : (fun k => stpF c M r k * x k) = fun k => M c k * v % 65537 * x k := by funext k; unfold stpF; rw [if_pos e, hv]
    have e2 : stpF c M r s = M c s * v % 65537 := by unfold stpF; rw [if_pos e, hv]
    rw [e1, e2]
    exact hp.trans (Cg.mod _).symm
  · have e1 : (fun k => stpF c M r k * x k) = fun k => (M r k - M c k * v % 65537 * M r c % 65537) % 65537 * x k := by funext k; unfold stpF; rw [if_neg e, hv]
    have e2 : stpF c M r s = (M r s - M c s * v % 65537 * M r c % 65537) % 65537 := by unfold stpF; rw [if_neg e, hv]
    rw [e1, e2]
    have h3 : Cg (smF (fun k => (M r k - M c k * v % 65537 * M r c % 65537) % 65537 * x k) n) (smF (fun k => M r k * x k - M c k * v % 65537 * x k * M r c) n) := smF_cg fun k _ => by
      have : M r k * x k - M c k * v % 65537 * x k * M r c = (M r k - M c k * v % 65537 * M r c) * x k := by
        rw [Int.sub_mul, Int.mul_assoc (M c k * v % 65537) (x k), Int.mul_comm (x k), ← Int.mul_assoc]
      rw [this]
      exact ((Cg.mod _).trans ((Cg.refl _).sub (Cg.mod _))).mul (Cg.refl _)
    refine h3.trans ?_
    rw [smF_sub, smF_mul]
    refine Cg.trans ?_ (Cg.mod _).symm
    refine Cg.trans ?_ ((Cg.refl _).sub (Cg.mod _)).symm
    exact (h r hr).sub ((hp.trans (Cg.mod _).symm).mul (Cg.refl _))
theorem slvF_sol (M : Nat → Nat → Int) (x : Nat → Int) (n s : Nat) (h : ∀ r, r < n → Cg (smF (fun k => M r k * x k) n) (M r s)) : ∀ c, c ≤ n → ∀ r, r < n → Cg (smF (fun k => slvF M c r k * x k) n) (slvF M c r s) := by
  intro c
  induction c with
  | zero => intro _; exact h
  | succ c ih => intro hc; exact stpF_sol _ x n c s (by omega) (ih (by omega))
theorem smF_unit (x : Nat → Int) (n r : Nat) (hr : r < n) : smF (fun k => (if r = k then 1 else 0) * x k) n = x r := by
  have h0 : ∀ m, m ≤ r → smF (fun k => (if r = k then 1 else 0) * x k) m = 0 := by
    intro m
    induction m with
    | zero => intro _; rfl
    | succ m ih => intro h; simp only [smF]; rw [ih (by omega), if_neg (by omega)]; omega
  have h1 : ∀ m, r < m → smF (fun k => (if r = k then 1 else 0) * x k) m = x r := by
    intro m
    induction m with
    | zero => intro h; omega
    | succ m ih =>
      intro h
      simp only [smF]
      by_cases e : r = m
      · subst e; rw [h0 r (by omega), if_pos rfl]; omega
      · rw [ih (by omega), if_neg e]; omega
  exact h1 n hr
/-- What solves the equations of lost blocks is what the elimination gives. -/
theorem wt_solved (L T : List Nat) (n : Nat) (hL : Asc 12 0 L) (hT : Asc 4 0 T) (h1 : L.length = n) (h2 : T.length = n) (hn : n ≤ 4) (M : Nat → Nat → Int) (hM : ∀ r k, r < n → k < n → M r k = wtF L T r k) (x : Nat → Int) (s : Nat)
    (h : ∀ r, r < n → Cg (smF (fun k => M r k * x k) n) (M r s)) : ∀ r, r < n → Cg (x r) (slvF M n r s) := by
  intro r hr
  have h3 := slvF_sol M x n s h n (Nat.le_refl _) r hr
  have h4 := (wt_pivots L T n hL hT h1 h2 hn M hM).2
  rw [smF_congr fun k hk => by rw [h4 r k hr hk], smF_unit x n r hr] at h3
  exact h3
end Go.Proofs.YtjjflbnopphciabDoor

namespace Go.Proofs.YtjjflbnopphciabDoor
open Go.RowKit

theorem wrapQ (z : Int) (h0 : -9223372036854775808 ≤ z) (h1 : z ≤ 9223372036854775807) : IntKind.i64.wrap z = z := by
  rw [IntKind.wrap_i64]; omega
/-- An equation's twelve cells. -/
abbrev eRow (f : Nat → Int) : Array Value := #[.int .i64 (f 0), .int .i64 (f 1), .int .i64 (f 2), .int .i64 (f 3), .int .i64 (f 4), .int .i64 (f 5), .int .i64 (f 6), .int .i64 (f 7), .int .i64 (f 8), .int .i64 (f 9), .int .i64 (f 10), .int .i64 (f 11)]
abbrev eZero : Array Value := #[.int .i64 0, .int .i64 0, .int .i64 0, .int .i64 0, .int .i64 0, .int .i64 0, .int .i64 0, .int .i64 0, .int .i64 0, .int .i64 0, .int .i64 0, .int .i64 0]
theorem j12 {j : Nat} (h : j < 12) : j = 0 ∨ j = 1 ∨ j = 2 ∨ j = 3 ∨ j = 4 ∨ j = 5 ∨ j = 6 ∨ j = 7 ∨ j = 8 ∨ j = 9 ∨ j = 10 ∨ j = 11 := by omega
theorem eRow_at (f : Nat → Int) (j : Nat) (h : j < 12) : (eRow f)[j]? = some (.int .i64 (f j)) := by
  rcases j12 h with rfl | rfl | rfl | rfl | rfl | rfl | rfl | rfl | rfl | rfl | rfl | rfl <;> rfl
/-- The first k cells are g's, the others f's. -/
def mixF (f g : Nat → Int) (k : Nat) : Nat → Int := fun j => if j < k then g j else f j
theorem mixF_step (f g : Nat → Int) (j : Nat) (h : j < 12) : (eRow (mixF f g j)).setIfInBounds j (.int .i64 (g j)) = eRow (mixF f g (j + 1)) := by
  rcases j12 h with rfl | rfl | rfl | rfl | rfl | rfl | rfl | rfl | rfl | rfl | rfl | rfl <;> simp [eRow, mixF]
theorem mixF_at (f g : Nat → Int) (j : Nat) : mixF f g j j = f j := if_neg (by omega)
theorem mixF_zero (f g : Nat → Int) : mixF f g 0 = f := by funext j; exact if_neg (by omega)
theorem mixF_all (f g : Nat → Int) : eRow (mixF f g 12) = eRow g := by simp [eRow, mixF]
theorem eInf0 : (Tryd.prog.info? 74).map (·.size) = some 12 := by kernel_rfl
theorem eInf (f : Nat → Int) : (Tryd.prog.info? 74).map (·.size) = some (eRow f).size := eInf0
theorem eRow_one (f : Nat → Int) : (eRow f).all (·.oneCell') = true := by simp [eRow, Value.oneCell']
theorem eRow_size (f : Nat → Int) : eZero.size = (eRow f).size := rfl
theorem results_cell1 {P : Program} {fn : Func} {p : Tmp} {ty : TypeId} (h : fn.results = #[.cell p ty]) (tmps : Array Value) (w : World) (g : Nat) (t : TypeId) (cs : Array Value) (fr : Nat × Nat) (d : TypeDesc)
    (hp : tmps.getD p undef = .pointer (some ⟨g, 0, none⟩)) (hg : w.heap[g]? = some (.cells cs t fr))
    (hu : P.underlying ty = some d) (hd : (match d with | .struct _ | .array _ _ => true | _ => false) = true) (hi : (P.info? ty).map (·.size) = some cs.size) :
    (results fn tmps).run P w = .ok (.agg cs) w := by
  have hp' : tmps[p]?.getD undef = .pointer (some ⟨g, 0, none⟩) := by simpa using hp
  simp [results, h, hp', asAddr, run_loadVar_row w g t ty cs fr d hg hu hd hi]
set_option maxRecDepth 100000 in
set_option maxHeartbeats 8000000 in
theorem times_any (f : Nat → Int) (fac : Int) (w : World) (hf : ∀ j, 0 ≤ f j ∧ f j ≤ 65536) (hfac : 0 ≤ fac ∧ fac ≤ 65536) :
    Calls Tryd.prog 62 #[.agg (eRow f), .int .i64 fac] w fun e w' => e = .returned (.agg (eRow (fun j => f j * fac % 65537))) ∧ Below w.heap.size w w' := by
  have HF := Lib.hid hf
  have HFAC := Lib.hid hfac
  obtain ⟨g, hg⟩ : ∃ g, (fun j => f j * fac % 65537) = g := ⟨_, rfl⟩
  have HG : Hid (∀ j, g j = f j * fac % 65537) := fun j => by rw [← hg]
  rw [hg]
  obtain ⟨w1, hw1⟩ : ∃ W, ((w.alloc (.cells (eRow f) 74)).alloc (.cells eZero 74)) = W := ⟨_, rfl⟩
  have K1 : Hid (Bk w1 w.heap.size 74 (eRow (mixF f g 0))) := by
    show Bk _ _ _ _
    rw [mixF_zero, ← hw1]
    exact (Bk.new _ _ _).alloc _
  have Z1 : Hid (Bk w1 (w.heap.size + 1) 74 eZero) := by
    show Bk _ _ _ _
    rw [← hw1]
    simpa using Bk.new (w.alloc (.cells (eRow f) 74)) 74 eZero
  have B1 : Hid (Below w.heap.size w w1) := by
    show Below _ _ _
    rw [← hw1]
    exact ((Below.refl _ _).alloc (Nat.le_refl _) _).alloc (by simp) _
  have HW1 := Lib.hid hw1
  clear hw1 hf hfac hg
  go_enter Tryd.func62, Tryd.ntmps62
  go_upto_region 1 with fail
  rw [show ((w.alloc (.cells (eRow f) 74)).alloc (.cells eZero 74)) = w1 from HW1.out]
  go_wp2
  go_loopw [7] (fun i wr => ∃ k : Nat, k ≤ 4 ∧ i = .int .i64 k ∧ Hid (Bk wr w.heap.size 74 (eRow (mixF f g k))) ∧ Hid (Bk wr (w.heap.size + 1) 74 eZero) ∧ Hid (Below w.heap.size w wr)) (fun i _ => 4 - (intOf i).toNat)
  case atStart => exact ⟨0, Nat.zero_le _, rfl, K1.out, Z1.out, B1.out⟩
  case round =>
    obtain ⟨k, hk, rfl, HK, HZ, HB⟩ := hrel
    by_cases hlt : k < 4
    · have hltI : (k : Int) < 4 := by omega
      have hcx : wr.cell? ⟨w.heap.size, k, none⟩ = some (.int .i64 (f k)) := by rw [HK.out.cell, eRow_at _ _ (by omega), mixF_at]
      have hfr : wr.frozen? ⟨w.heap.size, k, none⟩ = false := HK.out.frozen _
      have hxb := HF.out k
      have hgk := HG.out k
      obtain ⟨x, hx⟩ : ∃ x, f k = x := ⟨_, rfl⟩
      rw [hx] at hcx hxb hgk
      clear hx
      have hmb := mul_bd2 x fac 65536 65536 hxb.1 HFAC.out.1 hxb.2 HFAC.out.2
      obtain ⟨z, hz⟩ : ∃ z, x * fac = z := ⟨_, rfl⟩
      have hzb : -65536 ≤ z ∧ z ≤ 4294967296 := by rw [← hz]; omega
      rw [hz] at hgk
      have hw1 : IntKind.i64.wrap (x * fac) = z := by rw [hz]; exact wrapQ z (by omega) (by omega)
      have C : Hid (∀ W, Calls Tryd.prog 59 #[.int .i64 z] W fun e w' => e = .returned (.int .i64 (z % 65537)) ∧ W = w') := fun W => modPrime_any z (by omega) (by omega) W
      have NXT : Hid (Bk (wr.setCell ⟨w.heap.size, k, none⟩ (.int .i64 (z % 65537))) w.heap.size 74 (eRow (mixF f g (k + 1)))) := by
        show Bk _ _ _ _
        rw [← mixF_step f g k (by omega), hgk]
        exact HK.out.set_ _ _
      have NZ : Hid (Bk (wr.setCell ⟨w.heap.size, k, none⟩ (.int .i64 (z % 65537))) (w.heap.size + 1) 74 eZero) := HZ.out.far _ (by show w.heap.size + 1 ≠ w.heap.size; omega) _
      have NB : Hid (Below w.heap.size w (wr.setCell ⟨w.heap.size, k, none⟩ (.int .i64 (z % 65537)))) := HB.out.setCell (Nat.le_refl _) _
      have HZZ := Lib.hid hz
      clear hgk hz hzb
      clear hmb
      go_wp2_with (go_at_call 59; (first | (refine (C.out _).mono ?_) | (rw [HZZ.out]; refine (C.out _).mono ?_)); rintro e w' ⟨rfl, rfl⟩)
      go_roundw
      case rel => exact ⟨k + 1, by omega, by go_num, NXT.out, NZ.out, NB.out⟩
      case measure => simp [intOf]; omega
    · obtain rfl : k = 4 := by omega
      obtain ⟨wA, hwA⟩ : ∃ X, X = wr := ⟨_, rfl⟩
      subst hwA
      go_wp2
      rw [show ((4 : Nat) : Int) = 4 from rfl]
      go_loopw [21] (fun i wr => ∃ k : Nat, k ≤ 8 ∧ i = .int .i64 k ∧ Hid (Bk wr w.heap.size 74 (eRow (mixF f g (4 + k)))) ∧ Hid (Bk wr (w.heap.size + 1) 74 eZero) ∧ Hid (Below w.heap.size w wr)) (fun i _ => 8 - (intOf i).toNat)
      case atStart => exact ⟨0, Nat.zero_le _, rfl, HK.out, HZ.out, HB.out⟩
      case round =>
        obtain ⟨k, hk, rfl, HK, HZ, HB⟩ := hrel
        by_cases hlt : k < 8
        · have hltI : (k : Int) < 8 := by omega
          have hcx : wr.cell? ⟨w.heap.size, 4 + k, none⟩ = some (.int .i64 (f (4 + k))) := by rw [HK.out.cell, eRow_at _ _ (by omega), mixF_at]
          have hfr : wr.frozen? ⟨w.heap.size, (4 + k), none⟩ = false := HK.out.frozen _
          have hxb := HF.out (4 + k)
          have hgk := HG.out (4 + k)
          obtain ⟨x, hx⟩ : ∃ x, f (4 + k) = x := ⟨_, rfl⟩
          rw [hx] at hcx hxb hgk
          clear hx
          have hmb := mul_bd2 x fac 65536 65536 hxb.1 HFAC.out.1 hxb.2 HFAC.out.2
          obtain ⟨z, hz⟩ : ∃ z, x * fac = z := ⟨_, rfl⟩
          have hzb : -65536 ≤ z ∧ z ≤ 4294967296 := by rw [← hz]; omega
          rw [hz] at hgk
          have hw1 : IntKind.i64.wrap (x * fac) = z := by rw [hz]; exact wrapQ z (by omega) (by omega)
          have C : Hid (∀ W, Calls Tryd.prog 59 #[.int .i64 z] W fun e w' => e = .returned (.int .i64 (z % 65537)) ∧ W = w') := fun W => modPrime_any z (by omega) (by omega) W
          have NXT : Hid (Bk (wr.setCell ⟨w.heap.size, (4 + k), none⟩ (.int .i64 (z % 65537))) w.heap.size 74 (eRow (mixF f g ((4 + k) + 1)))) := by
            show Bk _ _ _ _
            rw [← mixF_step f g (4 + k) (by omega), hgk]
            exact HK.out.set_ _ _
          have NZ : Hid (Bk (wr.setCell ⟨w.heap.size, (4 + k), none⟩ (.int .i64 (z % 65537))) (w.heap.size + 1) 74 eZero) := HZ.out.far _ (by show w.heap.size + 1 ≠ w.heap.size; omega) _
          have NB : Hid (Below w.heap.size w (wr.setCell ⟨w.heap.size, (4 + k), none⟩ (.int .i64 (z % 65537)))) := HB.out.setCell (Nat.le_refl _) _
          have HZZ := Lib.hid hz
          clear hgk hz hzb
          clear hmb
          go_wp2_with (go_at_call 59; (first | (refine (C.out _).mono ?_) | (rw [HZZ.out]; refine (C.out _).mono ?_)); rintro e w' ⟨rfl, rfl⟩)
          go_roundw
          case rel => exact ⟨k + 1, by omega, by go_num, NXT.out, NZ.out, NB.out⟩
          case measure => simp [intOf]; omega
        · obtain rfl : k = 8 := by omega
          have HFIN : Hid (Bk (wr.setRow (w.heap.size + 1) (eRow (mixF f g 12))) (w.heap.size + 1) 74 (eRow (mixF f g 12)) ∧ Below w.heap.size w (wr.setRow (w.heap.size + 1) (eRow (mixF f g 12)))) := ⟨setRow_heap wr (w.heap.size + 1) _ (eRow (mixF f g 12)) _ _ HZ.out, below_setRow HB.out (by omega) _⟩
          have HK12 : Hid (Bk wr w.heap.size 74 (eRow (mixF f g 12))) := HK
          go_wp2_with (first
            | (with_reducible refine wpList_load_row rfl 74 (.tmp 2) rfl w.heap.size rfl 74 (eRow (mixF f g 12)) (0, 0) _ HK12.out.heap Tryd.underlying74 rfl (eInf _) ?_)
            | (with_reducible refine wpList_store_row rfl 74 (.tmp 4) (.tmp 35) rfl (w.heap.size + 1) (eRow (mixF f g 12)) rfl rfl 74 eZero HZ.out.heap (eInf _) (eRow_size _) (eRow_one _) ?_))
          refine bodyPost_ret (v := .agg (eRow (mixF f g 12))) ?_ rfl ⟨by rw [mixF_all], HFIN.out.2⟩
          exact results_cell1 (fn := Tryd.f62) rfl _ _ (w.heap.size + 1) 74 (eRow (mixF f g 12)) (0, 0) _ rfl HFIN.out.1 Tryd.underlying74 rfl (eInf _)
set_option maxRecDepth 100000 in
set_option maxHeartbeats 8000000 in
theorem minus_any (f o : Nat → Int) (w : World) (hf : ∀ j, 0 ≤ f j ∧ f j ≤ 65536) (ho : ∀ j, 0 ≤ o j ∧ o j ≤ 65536) :
    Calls Tryd.prog 63 #[.agg (eRow f), .agg (eRow o)] w fun e w' => e = .returned (.agg (eRow (fun j => (f j - o j) % 65537))) ∧ Below w.heap.size w w' := by
  have HF := Lib.hid hf
  have HOB := Lib.hid ho
  obtain ⟨g, hg⟩ : ∃ g, (fun j => (f j - o j) % 65537) = g := ⟨_, rfl⟩
  have HG : Hid (∀ j, g j = (f j - o j) % 65537) := fun j => by rw [← hg]
  rw [hg]
  obtain ⟨w1, hw1⟩ : ∃ W, (((w.alloc (.cells (eRow f) 74)).alloc (.cells (eRow o) 74)).alloc (.cells eZero 74)) = W := ⟨_, rfl⟩
  have K1 : Hid (Bk w1 w.heap.size 74 (eRow (mixF f g 0))) := by
    show Bk _ _ _ _
    rw [mixF_zero, ← hw1]
    exact ((Bk.new _ _ _).alloc _).alloc _
  have Z1 : Hid (Bk w1 (w.heap.size + 1 + 1) 74 eZero) := by
    show Bk _ _ _ _
    rw [← hw1]
    simpa using Bk.new ((w.alloc (.cells (eRow f) 74)).alloc (.cells (eRow o) 74)) 74 eZero
  have B1 : Hid (Below w.heap.size w w1) := by
    show Below _ _ _
    rw [← hw1]
    exact (((Below.refl _ _).alloc (Nat.le_refl _) _).alloc (by simp) _).alloc (by simp; omega) _
  have O1 : Hid (Bk w1 (w.heap.size + 1) 74 (eRow o)) := by
    show Bk _ _ _ _
    rw [← hw1]
    simpa using (Bk.new (w.alloc (.cells (eRow f) 74)) 74 (eRow o)).alloc (.cells eZero 74)
  have HW1 := Lib.hid hw1
  clear hw1 hf ho hg
  go_enter Tryd.func63, Tryd.ntmps63
  go_upto_region 1 with fail
  rw [show (((w.alloc (.cells (eRow f) 74)).alloc (.cells (eRow o) 74)).alloc (.cells eZero 74)) = w1 from HW1.out]
  go_wp2
  go_loopw [7] (fun i wr => ∃ k : Nat, k ≤ 4 ∧ i = .int .i64 k ∧ Hid (Bk wr w.heap.size 74 (eRow (mixF f g k))) ∧ Hid (Bk wr (w.heap.size + 1 + 1) 74 eZero) ∧ Hid (Below w.heap.size w wr) ∧ Hid (Bk wr (w.heap.size + 1) 74 (eRow o))) (fun i _ => 4 - (intOf i).toNat)
  case atStart => exact ⟨0, Nat.zero_le _, rfl, K1.out, Z1.out, B1.out, O1.out⟩
  case round =>
    obtain ⟨k, hk, rfl, HK, HZ, HB, HO⟩ := hrel
    by_cases hlt : k < 4
    · have hltI : (k : Int) < 4 := by omega
      have hcx : wr.cell? ⟨w.heap.size, k, none⟩ = some (.int .i64 (f k)) := by rw [HK.out.cell, eRow_at _ _ (by omega), mixF_at]
      have hfr : wr.frozen? ⟨w.heap.size, k, none⟩ = false := HK.out.frozen _
      have hxb := HF.out k
      have hgk := HG.out k
      have hcy : wr.cell? ⟨w.heap.size + 1, k, none⟩ = some (.int .i64 (o k)) := by rw [HO.out.cell, eRow_at _ _ (by omega)]
      have hyb := HOB.out k
      obtain ⟨y, hy⟩ : ∃ y, o k = y := ⟨_, rfl⟩
      rw [hy] at hcy hyb hgk
      clear hy
      obtain ⟨x, hx⟩ : ∃ x, f k = x := ⟨_, rfl⟩
      rw [hx] at hcx hxb hgk
      clear hx
      obtain ⟨z, hz⟩ : ∃ z, x - y = z := ⟨_, rfl⟩
      have hzb : -65536 ≤ z ∧ z ≤ 4294967296 := by rw [← hz]; omega
      rw [hz] at hgk
      have hw1 : IntKind.i64.wrap (x - y) = z := by rw [hz]; exact wrapQ z (by omega) (by omega)
      have C : Hid (∀ W, Calls Tryd.prog 59 #[.int .i64 z] W fun e w' => e = .returned (.int .i64 (z % 65537)) ∧ W = w') := fun W => modPrime_any z (by omega) (by omega) W
      have NXT : Hid (Bk (wr.setCell ⟨w.heap.size, k, none⟩ (.int .i64 (z % 65537))) w.heap.size 74 (eRow (mixF f g (k + 1)))) := by
        show Bk _ _ _ _
        rw [← mixF_step f g k (by omega), hgk]
        exact HK.out.set_ _ _
      have NZ : Hid (Bk (wr.setCell ⟨w.heap.size, k, none⟩ (.int .i64 (z % 65537))) (w.heap.size + 1 + 1) 74 eZero) := HZ.out.far _ (by show w.heap.size + 1 + 1 ≠ w.heap.size; omega) _
      have NB : Hid (Below w.heap.size w (wr.setCell ⟨w.heap.size, k, none⟩ (.int .i64 (z % 65537)))) := HB.out.setCell (Nat.le_refl _) _
      have NO : Hid (Bk (wr.setCell ⟨w.heap.size, k, none⟩ (.int .i64 (z % 65537))) (w.heap.size + 1) 74 (eRow o)) := HO.out.far _ (by show w.heap.size + 1 ≠ w.heap.size; omega) _
      have HZZ := Lib.hid hz
      clear hgk hz hzb
      go_upto_region 4 with fail
      go_still_tail 13, (by kernel_rfl)
      refine wpStill_step (fun K hK => ?_)
      go_simp
      first | (refine ⟨_, (C.out _).mono (fun e w'' h => ⟨h.1, h.2.symm⟩), hK _ ?_⟩) | (rw [HZZ.out]; refine ⟨_, (C.out _).mono (fun e w'' h => ⟨h.1, h.2.symm⟩), hK _ ?_⟩)
      clear hK K
      repeat still_step
      refine wpStill_nil ?_
      change wpList _ _ _ _ _ wr.drew
      have hcx' : wr.drew.cell? ⟨w.heap.size, k, none⟩ = some (.int .i64 x) := hcx
      have hfr' : wr.drew.frozen? ⟨w.heap.size, k, none⟩ = false := hfr
      have NXT' : Hid (Bk (wr.drew.setCell ⟨w.heap.size, k, none⟩ (.int .i64 (z % 65537))) w.heap.size 74 (eRow (mixF f g (k + 1)))) := NXT.out.drew
      have NZ' : Hid (Bk (wr.drew.setCell ⟨w.heap.size, k, none⟩ (.int .i64 (z % 65537))) (w.heap.size + 1 + 1) 74 eZero) := NZ.out.drew
      have NB' : Hid (Below w.heap.size w (wr.drew.setCell ⟨w.heap.size, k, none⟩ (.int .i64 (z % 65537)))) := NB.out.drew
      have NO' : Hid (Bk (wr.drew.setCell ⟨w.heap.size, k, none⟩ (.int .i64 (z % 65537))) (w.heap.size + 1) 74 (eRow o)) := NO.out.drew
      clear hcx hfr NXT NZ NB NO HK HZ HB HO hcy C HZZ hw1
      generalize wr.drew = w2 at *
      go_wp2
      go_roundw
      case rel => exact ⟨k + 1, by omega, by go_num, NXT'.out, NZ'.out, NB'.out, NO'.out⟩
      case measure => simp [intOf]; omega
    · obtain rfl : k = 4 := by omega
      obtain ⟨wA, hwA⟩ : ∃ X, X = wr := ⟨_, rfl⟩
      subst hwA
      go_wp2
      rw [show ((4 : Nat) : Int) = 4 from rfl]
      go_loopw [24] (fun i wr => ∃ k : Nat, k ≤ 8 ∧ i = .int .i64 k ∧ Hid (Bk wr w.heap.size 74 (eRow (mixF f g (4 + k)))) ∧ Hid (Bk wr (w.heap.size + 1 + 1) 74 eZero) ∧ Hid (Below w.heap.size w wr) ∧ Hid (Bk wr (w.heap.size + 1) 74 (eRow o))) (fun i _ => 8 - (intOf i).toNat)
      case atStart => exact ⟨0, Nat.zero_le _, rfl, HK.out, HZ.out, HB.out, HO.out⟩
      case round =>
        obtain ⟨k, hk, rfl, HK, HZ, HB, HO⟩ := hrel
        by_cases hlt : k < 8
        · have hltI : (k : Int) < 8 := by omega
          have hcx : wr.cell? ⟨w.heap.size, 4 + k, none⟩ = some (.int .i64 (f (4 + k))) := by rw [HK.out.cell, eRow_at _ _ (by omega), mixF_at]
          have hfr : wr.frozen? ⟨w.heap.size, (4 + k), none⟩ = false := HK.out.frozen _
          have hxb := HF.out (4 + k)
          have hgk := HG.out (4 + k)
          have hcy : wr.cell? ⟨w.heap.size + 1, (4 + k), none⟩ = some (.int .i64 (o (4 + k))) := by rw [HO.out.cell, eRow_at _ _ (by omega)]
          have hyb := HOB.out (4 + k)
          obtain ⟨y, hy⟩ : ∃ y, o (4 + k) = y := ⟨_, rfl⟩
          rw [hy] at hcy hyb hgk
          clear hy
          obtain ⟨x, hx⟩ : ∃ x, f (4 + k) = x := ⟨_, rfl⟩
          rw [hx] at hcx hxb hgk
          clear hx
          obtain ⟨z, hz⟩ : ∃ z, x - y = z := ⟨_, rfl⟩
          have hzb : -65536 ≤ z ∧ z ≤ 4294967296 := by rw [← hz]; omega
          rw [hz] at hgk
          have hw1 : IntKind.i64.wrap (x - y) = z := by rw [hz]; exact wrapQ z (by omega) (by omega)
          have C : Hid (∀ W, Calls Tryd.prog 59 #[.int .i64 z] W fun e w' => e = .returned (.int .i64 (z % 65537)) ∧ W = w') := fun W => modPrime_any z (by omega) (by omega) W
          have NXT : Hid (Bk (wr.setCell ⟨w.heap.size, (4 + k), none⟩ (.int .i64 (z % 65537))) w.heap.size 74 (eRow (mixF f g ((4 + k) + 1)))) := by
            show Bk _ _ _ _
            rw [← mixF_step f g (4 + k) (by omega), hgk]
            exact HK.out.set_ _ _
          have NZ : Hid (Bk (wr.setCell ⟨w.heap.size, (4 + k), none⟩ (.int .i64 (z % 65537))) (w.heap.size + 1 + 1) 74 eZero) := HZ.out.far _ (by show w.heap.size + 1 + 1 ≠ w.heap.size; omega) _
          have NB : Hid (Below w.heap.size w (wr.setCell ⟨w.heap.size, (4 + k), none⟩ (.int .i64 (z % 65537)))) := HB.out.setCell (Nat.le_refl _) _
          have NO : Hid (Bk (wr.setCell ⟨w.heap.size, (4 + k), none⟩ (.int .i64 (z % 65537))) (w.heap.size + 1) 74 (eRow o)) := HO.out.far _ (by show w.heap.size + 1 ≠ w.heap.size; omega) _
          have HZZ := Lib.hid hz
          clear hgk hz hzb
          go_upto_region 9 with fail
          go_still_tail 13, (by kernel_rfl)
          refine wpStill_step (fun K hK => ?_)
          go_simp
          first | (refine ⟨_, (C.out _).mono (fun e w'' h => ⟨h.1, h.2.symm⟩), hK _ ?_⟩) | (rw [HZZ.out]; refine ⟨_, (C.out _).mono (fun e w'' h => ⟨h.1, h.2.symm⟩), hK _ ?_⟩)
          clear hK K
          repeat still_step
          refine wpStill_nil ?_
          change wpList _ _ _ _ _ wr.drew
          have hcx' : wr.drew.cell? ⟨w.heap.size, (4 + k), none⟩ = some (.int .i64 x) := hcx
          have hfr' : wr.drew.frozen? ⟨w.heap.size, (4 + k), none⟩ = false := hfr
          have NXT' : Hid (Bk (wr.drew.setCell ⟨w.heap.size, (4 + k), none⟩ (.int .i64 (z % 65537))) w.heap.size 74 (eRow (mixF f g ((4 + k) + 1)))) := NXT.out.drew
          have NZ' : Hid (Bk (wr.drew.setCell ⟨w.heap.size, (4 + k), none⟩ (.int .i64 (z % 65537))) (w.heap.size + 1 + 1) 74 eZero) := NZ.out.drew
          have NB' : Hid (Below w.heap.size w (wr.drew.setCell ⟨w.heap.size, (4 + k), none⟩ (.int .i64 (z % 65537)))) := NB.out.drew
          have NO' : Hid (Bk (wr.drew.setCell ⟨w.heap.size, (4 + k), none⟩ (.int .i64 (z % 65537))) (w.heap.size + 1) 74 (eRow o)) := NO.out.drew
          clear hcx hfr NXT NZ NB NO HK HZ HB HO hcy C HZZ hw1
          generalize wr.drew = w2 at *
          go_wp2
          go_roundw
          case rel => exact ⟨k + 1, by omega, by go_num, NXT'.out, NZ'.out, NB'.out, NO'.out⟩
          case measure => simp [intOf]; omega
        · obtain rfl : k = 8 := by omega
          have HFIN : Hid (Bk (wr.setRow (w.heap.size + 1 + 1) (eRow (mixF f g 12))) (w.heap.size + 1 + 1) 74 (eRow (mixF f g 12)) ∧ Below w.heap.size w (wr.setRow (w.heap.size + 1 + 1) (eRow (mixF f g 12)))) := ⟨setRow_heap wr (w.heap.size + 1 + 1) _ (eRow (mixF f g 12)) _ _ HZ.out, below_setRow HB.out (by omega) _⟩
          have HK12 : Hid (Bk wr w.heap.size 74 (eRow (mixF f g 12))) := HK
          go_wp2_with (first
            | (with_reducible refine wpList_load_row rfl 74 (.tmp 2) rfl w.heap.size rfl 74 (eRow (mixF f g 12)) (0, 0) _ HK12.out.heap Tryd.underlying74 rfl (eInf _) ?_)
            | (with_reducible refine wpList_store_row rfl 74 (.tmp 4) (.tmp 41) rfl (w.heap.size + 1 + 1) (eRow (mixF f g 12)) rfl rfl 74 eZero HZ.out.heap (eInf _) (eRow_size _) (eRow_one _) ?_))
          refine bodyPost_ret (v := .agg (eRow (mixF f g 12))) ?_ rfl ⟨by rw [mixF_all], HFIN.out.2⟩
          exact results_cell1 (fn := Tryd.f63) rfl _ _ (w.heap.size + 1 + 1) 74 (eRow (mixF f g 12)) (0, 0) _ rfl HFIN.out.1 Tryd.underlying74 rfl (eInf _)
end Go.Proofs.YtjjflbnopphciabDoor

