import Derived.Test.YtjjflbnopphciabDoorTgac
namespace Go.Proofs.YtjjflbnopphciabDoor

/-- A step of the elimination: row c is divided by its pivot, and its multiples are taken from all others. -/
def stpF (c : Nat) (M : Nat → Nat → Int) (r k : Nat) : Int :=
  if r = c then M c k * invT (M c c) % 65537 else (M r k - M c k * invT (M c c) % 65537 * M r c % 65537) % 65537
def slvF (M : Nat → Nat → Int) : Nat → Nat → Nat → Int
  | 0 => M
  | c + 1 => stpF c (slvF M c)
theorem emod_bd (x : Int) : 0 ≤ x % 65537 ∧ x % 65537 ≤ 65536 := by omega
theorem stpF_bd (c : Nat) (M : Nat → Nat → Int) (r k : Nat) : 0 ≤ stpF c M r k ∧ stpF c M r k ≤ 65536 := by
  unfold stpF; split <;> exact emod_bd _
theorem slvF_bd (M : Nat → Nat → Int) (h : ∀ r k, 0 ≤ M r k ∧ M r k ≤ 65536) (c : Nat) : ∀ r k, 0 ≤ slvF M c r k ∧ slvF M c r k ≤ 65536 := by
  cases c with
  | zero => exact h
  | succ c => exact stpF_bd c _
/-- Columns are independent of each other, but for those of the pivots. -/
theorem slvF_cols (M N : Nat → Nat → Int) (s : Nat → Nat) (n : Nat) (hs : ∀ c, c < n → s c = c) (h : ∀ r k, N r k = M r (s k)) : ∀ c, c ≤ n → ∀ r k, slvF N c r k = slvF M c r (s k) := by
  intro c
  induction c with
  | zero => intro _ r k; exact h r k
  | succ c ih =>
    intro hc r k
    have i2 := ih (by omega)
    show stpF c _ r k = stpF c _ r (s k)
    unfold stpF
    have e := hs c (by omega)
    rw [i2 c k, i2 c c, i2 r k, i2 r c, e]
/-- Only rows below n count. -/
theorem slvF_rows (M N : Nat → Nat → Int) (n : Nat) (h : ∀ r k, r < n → N r k = M r k) : ∀ c, c ≤ n → ∀ r k, r < n → slvF N c r k = slvF M c r k := by
  intro c
  induction c with
  | zero => intro _ r k hr; exact h r k hr
  | succ c ih =>
    intro hc r k hr
    have i2 := ih (by omega)
    show stpF c _ r k = stpF c _ r k
    unfold stpF
    rw [i2 c k (by omega), i2 c c (by omega), i2 r k hr, i2 r c hr]

/-- The same with lists of natural numbers, for the kernel. -/
def powQ (n i : Nat) : Nat := Nat.rec 1 (fun _ p => p * p % 65537 * n % 65537) i
def invQ (n : Nat) : Nat := powQ n 16
theorem powQ_eq (n i : Nat) : powTo n i = (powQ n i : Int) := by
  induction i with
  | zero => rfl
  | succ i ih =>
    show powTo n i * powTo n i % 65537 * n % 65537 = ((powQ n i * powQ n i % 65537 * n % 65537 : Nat) : Int)
    rw [ih, Int.natCast_emod, Int.natCast_mul, Int.natCast_emod, Int.natCast_mul]
    rfl
theorem invQ_eq (n : Nat) : invT n = (invQ n : Int) := powQ_eq n 16
def enQ (l : List (List Nat)) (r k : Nat) : Nat := (l.getD r []).getD k 0
def subQ (f : Nat) (row p : List Nat) : List Nat := List.zipWith (fun a b => (a + (65537 - b * f % 65537)) % 65537) row p
def rowsQ (c : Nat) (p : List Nat) : Nat → List (List Nat) → List (List Nat)
  | _, [] => []
  | r, row :: t => (if r = c then p else subQ (row.getD c 0) row p) :: rowsQ c p (r + 1) t
def stpQ (c : Nat) (l : List (List Nat)) : List (List Nat) :=
  rowsQ c ((l.getD c []).map fun x => x * invQ (enQ l c c) % 65537) 0 l
def isOne (l : List (List Nat)) (n : Nat) : Bool := (List.range n).all fun r => (List.range n).all fun k => Nat.beq (enQ l r k) (if r = k then 1 else 0)
def okQ : Nat → Nat → Nat → List (List Nat) → Bool
  | 0, n, _, l => isOne l n
  | f + 1, n, c, l => !Nat.beq (enQ l c c) 0 && okQ f n (c + 1) (stpQ c l)
def matQ (L T : List Nat) : List (List Nat) := T.map fun j => L.map fun i => invQ (4 + i - j)
def asc (hi : Nat) : Nat → Nat → List (List Nat)
  | 0, _ => [[]]
  | n + 1, lo => (List.range' lo (hi - lo)).flatMap fun a => (asc hi n (a + 1)).map (a :: ·)
def okAll (n : Nat) : Bool := (asc 4 n 0).all fun T => (asc 12 n 0).all fun L => okQ n n 0 (matQ L T)
theorem ok0 : okAll 0 = true := by decide +kernel
theorem ok1 : okAll 1 = true := by decide +kernel
theorem ok2 : okAll 2 = true := by decide +kernel
theorem ok3 : okAll 3 = true := by decide +kernel
theorem ok4 : okAll 4 = true := by decide +kernel

/-- Numbers that ascend, from lo to below hi. -/
def Asc (hi lo : Nat) : List Nat → Prop
  | [] => True
  | a :: t => lo ≤ a ∧ a < hi ∧ Asc hi (a + 1) t
theorem asc_mem (hi : Nat) : ∀ (l : List Nat) (lo : Nat), Asc hi lo l → l ∈ asc hi l.length lo := by
  intro l
  induction l with
  | nil => intro lo _; simp [asc]
  | cons a t ih =>
    intro lo h
    obtain ⟨h1, h2, h3⟩ := h
    simp only [List.length_cons, asc, List.mem_flatMap, List.mem_range'_1, List.mem_map]
    exact ⟨a, ⟨h1, by omega⟩, t, ih _ h3, rfl⟩
theorem okAll_of (n : Nat) (hn : n ≤ 4) : okAll n = true := by
  match n, hn with
  | 0, _ => exact ok0
  | 1, _ => exact ok1
  | 2, _ => exact ok2
  | 3, _ => exact ok3
  | 4, _ => exact ok4
theorem ok_of (L T : List Nat) (n : Nat) (hL : Asc 12 0 L) (hT : Asc 4 0 T) (h1 : L.length = n) (h2 : T.length = n) (hn : n ≤ 4) : okQ n n 0 (matQ L T) = true := by
  have h := okAll_of n hn
  unfold okAll at h
  rw [List.all_eq_true] at h
  have h3 := h T (by rw [← h2]; exact asc_mem 4 T 0 hT)
  rw [List.all_eq_true] at h3
  exact h3 L (by rw [← h1]; exact asc_mem 12 L 0 hL)

/-- Rows of natural numbers are those of a matrix. -/
def Eqv (n : Nat) (l : List (List Nat)) (M : Nat → Nat → Int) : Prop :=
  l.length = n ∧ (∀ r, r < n → (l.getD r []).length = n) ∧ ∀ r k, r < n → k < n → (enQ l r k : Int) = M r k ∧ enQ l r k < 65537
theorem rowsQ_len (c : Nat) (p : List Nat) (l : List (List Nat)) : ∀ r, (rowsQ c p r l).length = l.length := by
  induction l with
  | nil => intro r; rfl
  | cons a t ih => intro r; simp [rowsQ, ih]
theorem rowsQ_at (c : Nat) (p : List Nat) (l : List (List Nat)) : ∀ r i, i < l.length → (rowsQ c p r l).getD i [] = if r + i = c then p else subQ ((l.getD i []).getD c 0) (l.getD i []) p := by
  induction l with
  | nil => intro r i h; simp at h
  | cons a t ih =>
    intro r i h
    cases i with
    | zero => simp [rowsQ]
    | succ i =>
      have := ih (r + 1) i (by simpa using h)
      rw [show r + 1 + i = r + (i + 1) by omega] at this
      simpa [rowsQ] using this
theorem getD_map0 (l : List Nat) (f : Nat → Nat) (k : Nat) (h : k < l.length) : (l.map f).getD k 0 = f (l.getD k 0) := by
  simp [List.getD_eq_getElem?_getD, List.getElem?_eq_getElem h]
theorem subQ_at (f : Nat) (a b : List Nat) (k : Nat) (ha : k < a.length) (hb : k < b.length) : (subQ f a b).getD k 0 = (a.getD k 0 + (65537 - b.getD k 0 * f % 65537)) % 65537 := by
  unfold subQ
  simp [List.getD_eq_getElem?_getD, List.getElem?_zipWith, List.getElem?_eq_getElem ha, List.getElem?_eq_getElem hb]
theorem stpQ_eqv {n : Nat} {l : List (List Nat)} {M : Nat → Nat → Int} (h : Eqv n l M) {c : Nat} (hc : c < n) : Eqv n (stpQ c l) (stpF c M) := by
  obtain ⟨h1, h2, h3⟩ := h
  have hp : ∀ k, k < n → ((l.getD c []).map fun x => x * invQ (enQ l c c) % 65537).getD k 0 = enQ l c k * invQ (enQ l c c) % 65537 := fun k hk => getD_map0 _ _ k (by rw [h2 c hc]; exact hk)
  have hpl : ((l.getD c []).map fun x => x * invQ (enQ l c c) % 65537).length = n := by rw [List.length_map]; exact h2 c hc
  have hcc := (h3 c c hc hc).1
  have hpi : ∀ k, k < n → ((enQ l c k * invQ (enQ l c c) % 65537 : Nat) : Int) = M c k * invT (M c c) % 65537 := fun k hk => by
    rw [Int.natCast_emod, Int.natCast_mul, (h3 c k hc hk).1, ← invQ_eq, hcc]; rfl
  refine ⟨by unfold stpQ; rw [rowsQ_len]; exact h1, fun r hr => ?_, fun r k hr hk => ?_⟩
  · unfold stpQ
    rw [rowsQ_at _ _ _ _ _ (by omega)]
    split
    · exact hpl
    · unfold subQ; rw [List.length_zipWith, hpl, h2 r hr]; omega
  · have e : enQ (stpQ c l) r k = if 0 + r = c then enQ l c k * invQ (enQ l c c) % 65537 else (enQ l r k + (65537 - enQ l c k * invQ (enQ l c c) % 65537 * enQ l r c % 65537)) % 65537 := by
      unfold stpQ
      show (List.getD _ r []).getD k 0 = _
      rw [rowsQ_at _ _ _ _ _ (by omega)]
      split
      · exact hp k hk
      · rw [subQ_at _ _ _ _ (by rw [h2 r hr]; exact hk) (by rw [hpl]; exact hk), hp k hk]; rfl
    rw [e, Nat.zero_add]
    unfold stpF
    by_cases hrc : r = c
    · rw [if_pos hrc, if_pos hrc]; exact ⟨hpi k hk, Nat.mod_lt _ (by omega)⟩
    · rw [if_neg hrc, if_neg hrc]
      refine ⟨?_, Nat.mod_lt _ (by omega)⟩
      rw [← hpi k hk, ← (h3 r c hr hc).1, ← (h3 r k hr hk).1]
      generalize hX : enQ l c k * invQ (enQ l c c) % 65537 * enQ l r c = X
      have : (((enQ l c k * invQ (enQ l c c) % 65537 : Nat) : Int) * (enQ l r c : Int)) = (X : Int) := by rw [← hX, Int.natCast_mul]
      rw [this]
      omega
theorem okQ_spec (n f c : Nat) (l : List (List Nat)) (M : Nat → Nat → Int) (hf : c + f = n) (he : Eqv n l (slvF M c)) (h : okQ f n c l = true) :
    (∀ i, c ≤ i → i < n → slvF M i i i ≠ 0) ∧ ∀ r k, r < n → k < n → slvF M n r k = if r = k then 1 else 0 := by
  induction f generalizing c l with
  | zero =>
    obtain rfl : c = n := by omega
    refine ⟨fun i h1 h2 => by omega, fun r k hr hk => ?_⟩
    unfold okQ isOne at h
    rw [List.all_eq_true] at h
    have h2 := h r (List.mem_range.2 hr)
    rw [List.all_eq_true] at h2
    have h3 := Nat.eq_of_beq_eq_true (h2 k (List.mem_range.2 hk))
    rw [← (he.2.2 r k hr hk).1, h3]
    split <;> rfl
  | succ f ih =>
    simp only [okQ, Bool.and_eq_true, Bool.not_eq_true'] at h
    have hc : c < n := by omega
    obtain ⟨i1, i2⟩ := ih (c + 1) (stpQ c l) (by omega) (stpQ_eqv he hc) h.2
    refine ⟨fun i hi hin => ?_, i2⟩
    by_cases e : i = c
    · subst e
      rw [← (he.2.2 i i hc hc).1]
      intro h0
      have : enQ l i i = 0 := by omega
      rw [this] at h
      exact absurd h.1 (by decide)
    · exact i1 i (by omega) hin

/-- The weights of lost blocks in parities. -/
def wtF (L T : List Nat) (r k : Nat) : Int := invT (4 + (L.getD k 0 : Int) - (T.getD r 0 : Int))
theorem Asc.lt {hi lo : Nat} {l : List Nat} (h : Asc hi lo l) : ∀ x ∈ l, x < hi := by
  induction l generalizing lo with
  | nil => intro x hx; cases hx
  | cons a t ih =>
    intro x hx
    rcases List.mem_cons.1 hx with rfl | hx
    · exact h.2.1
    · exact ih h.2.2 x hx
theorem getD_mem (l : List Nat) (k : Nat) (h : k < l.length) : l.getD k 0 ∈ l := by
  rw [List.getD_eq_getElem?_getD, List.getElem?_eq_getElem h]; exact List.getElem_mem h
theorem mat_eqv (L T : List Nat) (n : Nat) (hT : Asc 4 0 T) (h1 : L.length = n) (h2 : T.length = n) (M : Nat → Nat → Int) (hM : ∀ r k, r < n → k < n → M r k = wtF L T r k) : Eqv n (matQ L T) M := by
  have hr : ∀ r, r < n → (matQ L T).getD r [] = L.map fun i => invQ (4 + i - T.getD r 0) := fun r hr => by
    simp [matQ, List.getD_eq_getElem?_getD, List.getElem?_eq_getElem (show r < T.length by omega)]
  refine ⟨by simp [matQ, h2], fun r h => by rw [hr r h]; simp [h1], fun r k h h3 => ?_⟩
  have e : enQ (matQ L T) r k = invQ (4 + L.getD k 0 - T.getD r 0) := by
    unfold enQ
    rw [hr r h]
    exact getD_map0 _ _ k (by omega)
  have hlt := hT.lt _ (getD_mem T r (by omega))
  rw [e, hM r k h h3, ← invQ_eq]
  unfold wtF
  rw [show ((4 + L.getD k 0 - T.getD r 0 : Nat) : Int) = 4 + (L.getD k 0 : Int) - (T.getD r 0 : Int) by omega]
  refine ⟨rfl, ?_⟩
  have b := invT_bd ((4 + L.getD k 0 - T.getD r 0 : Nat) : Int)
  rw [invQ_eq] at b
  omega
/-- No pivot is 0, and the weights become those of one. -/
theorem wt_pivots (L T : List Nat) (n : Nat) (hL : Asc 12 0 L) (hT : Asc 4 0 T) (h1 : L.length = n) (h2 : T.length = n) (hn : n ≤ 4) (M : Nat → Nat → Int) (hM : ∀ r k, r < n → k < n → M r k = wtF L T r k) :
    (∀ i, i < n → slvF M i i i ≠ 0) ∧ ∀ r k, r < n → k < n → slvF M n r k = if r = k then 1 else 0 := by
  have h := okQ_spec n n 0 (matQ L T) M (by omega) (mat_eqv L T n hT h1 h2 M hM) (ok_of L T n hL hT h1 h2 hn)
  exact ⟨fun i hi => h.1 i (Nat.zero_le _) hi, h.2⟩

/-- Sums. -/
def smF (f : Nat → Int) : Nat → Int
  | 0 => 0
  | n + 1 => smF f n + f n
theorem smF_congr {f g : Nat → Int} {n : Nat} (h : ∀ k, k < n → f k = g k) : smF f n = smF g n := by
  induction n with
  | zero => rfl
  | succ n ih => show _ + _ = _ + _; rw [ih fun k hk => h k (by omega), h n (by omega)]
theorem smF_mul (f : Nat → Int) (a : Int) (n : Nat) : smF (fun k => f k * a) n = smF f n * a := by
  induction n with
  | zero => simp [smF]
  | succ n ih => show _ + _ = (_ + _) * a; rw [ih, Int.add_mul]
theorem smF_sub (f g : Nat → Int) (n : Nat) : smF (fun k => f k - g k) n = smF f n - smF g n := by
  induction n with
  | zero => rfl
  | succ n ih => simp only [smF]; rw [ih]; omega
/-- Equal modulo the prime. -/
def Cg (a b : Int) : Prop := a % 65537 = b % 65537
theorem Cg.mod (a : Int) : Cg (a % 65537) a := Int.emod_emod _ _
theorem Cg.add {a b c d : Int} (h : Cg a b) (g : Cg c d) : Cg (a + c) (b + d) := by unfold Cg at *; rw [Int.add_emod, h, g, ← Int.add_emod]
theorem Cg.sub {a b c d : Int} (h : Cg a b) (g : Cg c d) : Cg (a - c) (b - d) := by unfold Cg at *; rw [Int.sub_emod, h, g, ← Int.sub_emod]
theorem Cg.mul {a b c d : Int} (h : Cg a b) (g : Cg c d) : Cg (a * c) (b * d) := by unfold Cg at *; rw [Int.mul_emod, h, g, ← Int.mul_emod]
theorem Cg.refl (a : Int) : Cg a a := rfl
theorem Cg.trans {a b c : Int} (h : Cg a b) (g : Cg b c) : Cg a c := Eq.trans h g
theorem Cg.symm {a b : Int} (h : Cg a b) : Cg b a := Eq.symm h
theorem smF_cg {f g : Nat → Int} {n : Nat} (h : ∀ k, k < n → Cg (f k) (g k)) : Cg (smF f n) (smF g n) := by
  induction n with
  | zero => rfl
  | succ n ih => exact (ih fun k hk => h k (by omega)).add (h n (by omega))
/-- A step keeps what solves all equations of column s. -/
theorem stpF_sol (M : Nat → Nat → Int) (x : Nat → Int) (n c s : Nat) (hc : c < n) (h : ∀ r, r < n → Cg (smF (fun k => M r k * x k) n) (M r s)) : ∀ r, r < n → Cg (smF (fun k => stpF c M r k * x k) n) (stpF c M r s) := by
  intro r hr
  obtain ⟨v, hv⟩ : ∃ v, invT (M c c) = v := ⟨_, rfl⟩
  have hp : Cg (smF (fun k => M c k * v % 65537 * x k) n) (M c s * v) := by
    have h1 : smF (fun k => M c k * v * x k) n = smF (fun k => M c k * x k) n * v := by
      rw [← smF_mul]; exact smF_congr fun k _ => by rw [Int.mul_assoc, Int.mul_assoc, Int.mul_comm v]
    have h2 : Cg (smF (fun k => M c k * v % 65537 * x k) n) (smF (fun k => M c k * v * x k) n) := smF_cg fun k _ => (Cg.mod _).mul (Cg.refl _)
    refine h2.trans ?_
    rw [h1]
    exact (h c hc).mul (Cg.refl v)
  by_cases e : r = c
  · have e1 : (fun k => stpF c M r k * x k) = fun k => M c k * v % 65537 * x k := by funext k; unfold stpF; rw [if_pos e, hv]
    have e2 : stpF c M r s = M c s * v % 65537 := by unfold stpF; rw [if_pos e, hv]
    rw [e1, e2]
    exact hp.trans (Cg.mod _).symm
  · have e1 : (fun k => stpF c M r k * x k) = fun k => (M r k - M c k * v % 65537 * M r c % 65537) % 65537 * x k := by funext k; unfold stpF; rw [if_neg e, hv]
    have e2 : stpF c M r s = (M r s - M c s * v % 65537 * M r c % 65537) % 65537 := by unfold stpF; rw [if_neg e, hv]
    rw [e1, e2]
    have h3 : Cg (smF (fun k => (M r k - M c k * v % 65537 * M r c % 65537) % 65537 * x k) n) (smF (fun k => M r k * x k - M c k * v % 65537 * x k * M r c) n) := smF_cg fun k _ => by
      have : M r k * x k - M c k * v % 65537 * x k * M r c = (M r k - M c k * v % 65537 * M r c) * x k := by
        rw [Int.sub_mul, Int.mul_assoc (M c k * v % 65537) (x k), Int.mul_comm (x k), ← Int.mul_assoc]
      rw [this]
      exact ((Cg.mod _).trans ((Cg.refl _).sub (Cg.mod _))).mul (Cg.refl _)
    refine h3.trans ?_
    rw [smF_sub, smF_mul]
    refine Cg.trans ?_ (Cg.mod _).symm
    refine Cg.trans ?_ ((Cg.refl _).sub (Cg.mod _)).symm
    exact (h r hr).sub ((hp.trans (Cg.mod _).symm).mul (Cg.refl _))
theorem slvF_sol (M : Nat → Nat → Int) (x : Nat → Int) (n s : Nat) (h : ∀ r, r < n → Cg (smF (fun k => M r k * x k) n) (M r s)) : ∀ c, c ≤ n → ∀ r, r < n → Cg (smF (fun k => slvF M c r k * x k) n) (slvF M c r s) := by
  intro c
  induction c with
  | zero => intro _; exact h
  | succ c ih => intro hc; exact stpF_sol _ x n c s (by omega) (ih (by omega))
theorem smF_unit (x : Nat → Int) (n r : Nat) (hr : r < n) : smF (fun k => (if r = k then 1 else 0) * x k) n = x r := by
  have h0 : ∀ m, m ≤ r → smF (fun k => (if r = k then 1 else 0) * x k) m = 0 := by
    intro m
    induction m with
    | zero => intro _; rfl
    | succ m ih => intro h; simp only [smF]; rw [ih (by omega), if_neg (by omega)]; omega
  have h1 : ∀ m, r < m → smF (fun k => (if r = k then 1 else 0) * x k) m = x r := by
    intro m
    induction m with
    | zero => intro h; omega
    | succ m ih =>
      intro h
      simp only [smF]
      by_cases e : r = m
      · subst e; rw [h0 r (by omega), if_pos rfl]; omega
      · rw [ih (by omega), if_neg e]; omega
  exact h1 n hr
/-- What solves the equations of lost blocks is what the elimination gives. -/
theorem wt_solved (L T : List Nat) (n : Nat) (hL : Asc 12 0 L) (hT : Asc 4 0 T) (h1 : L.length = n) (h2 : T.length = n) (hn : n ≤ 4) (M : Nat → Nat → Int) (hM : ∀ r k, r < n → k < n → M r k = wtF L T r k) (x : Nat → Int) (s : Nat)
    (h : ∀ r, r < n → Cg (smF (fun k => M r k * x k) n) (M r s)) : ∀ r, r < n → Cg (x r) (slvF M n r s) := by
  intro r hr
  have h3 := slvF_sol M x n s h n (Nat.le_refl _) r hr
  have h4 := (wt_pivots L T n hL hT h1 h2 hn M hM).2
  rw [smF_congr fun k hk => by rw [h4 r k hr hk], smF_unit x n r hr] at h3
  exact h3
end Go.Proofs.YtjjflbnopphciabDoor

namespace Go.Proofs.YtjjflbnopphciabDoor
open Go.RowKit

theorem wrapS (z : Int) (h0 : -9223372036854775808 ≤ z) (h1 : z ≤ 9223372036854775807) : IntKind.i64.wrap z = z := by
  rw [IntKind.wrap_i64]; omega
theorem inB_asc (x : Int) (n : Nat) (hn : n ≤ 1000000) : inB x 0 (IntKind.i64.wrap ((n : Int) - 1)) = !(decide (x < 0) || decide ((n : Int) ≤ x)) := by
  have h : IntKind.i64.wrap ((n : Int) - 1) = (n : Int) - 1 := by
    apply wrapS <;> omega
  rw [h]
  unfold inB
  by_cases h1 : x < 0
  · simp [h1]; omega
  · by_cases h2 : (n : Int) ≤ x
    · simp [h1, h2]; omega
    · simp [h1, h2]; omega
/-- What stood before index k. -/
def prevL (xs : List Int) (k : Nat) : Int := if k = 0 then -1 else xs.getD (k - 1) 0
set_option maxRecDepth 100000 in
set_option maxHeartbeats 4000000 in
theorem lostErr_any (A : Option Addr) (n c : Nat) (xs : List Int) (m : Nat) (w : World) (hr : RdI w A n xs) (hn : n ≤ 1000000) (hm : m ≤ 1000000) :
    Calls Tryd.prog 36 #[.slice A n c, .int .i64 m] w fun e w' => e = .returned (.int .i64 (lostE m (-1) xs)) ∧ Below w.heap.size w w' := by
  have HR := Lib.hid hr
  clear hr
  go_enter Tryd.func36, Tryd.ntmps36
  go_wp2
  go_loopw [5] (fun i wr => ∃ k : Nat, k ≤ n ∧ i = .int .i64 k ∧ Hid (lostE m (-1) xs = lostE m (prevL xs k) (xs.drop k)) ∧ Hid (Below w.heap.size w wr)) (fun i _ => n - (intOf i).toNat)
  case atStart => exact ⟨0, Nat.zero_le _, rfl, rfl, Below.refl _ _⟩
  case round =>
    obtain ⟨k, hk, rfl, HE, HB⟩ := hrel
    by_cases hlt : k < n
    · obtain ⟨ad, ha, _, hc⟩ := (HR.out.below HB.out).2 (by omega)
      have hck := hc k hlt
      have hs := lostE_drop m (prevL xs k) xs k (by rw [HR.out.1]; exact hlt)
      have hkI : (k : Int) < (n : Int) := by omega
      have hpn : prevL xs (k + 1) = xs.getD k 0 := by unfold prevL; rw [if_neg (by omega)]; rfl
      have hpc : 0 < k → wr.cell? (ad.add (k - 1)) = some (.int .i64 (prevL xs k)) := fun h => by unfold prevL; rw [if_neg (by omega)]; exact hc (k - 1) (by omega)
      have hp0 : k = 0 → prevL xs k = -1 := fun h => if_pos h
      clear hc
      subst ha
      obtain ⟨x, hx⟩ : ∃ x, xs.getD k 0 = x := ⟨_, rfl⟩
      obtain ⟨p, hp⟩ : ∃ p, prevL xs k = p := ⟨_, rfl⟩
      rw [hx] at hck hs hpn
      rw [hp] at hs hpc hp0 HE
      have hin := inB_asc x m hm
      obtain ⟨mm, hmm⟩ : ∃ z, IntKind.i64.wrap ((m : Int) - 1) = z := ⟨_, rfl⟩
      rw [hmm] at hin
      have hmm2 : (m : Int) - 1 = mm := by rw [← hmm]; symm; apply wrapS <;> omega
      have C : Hid (∀ W b, inB x 0 mm = b → Calls Tryd.prog 13 #[.int .i64 x, .int .i64 0, .int .i64 mm] W fun e w' => e = .returned (.bool b) ∧ W = w') := fun W b hb => by rw [← hb]; exact within_any _ _ _ W
      have HMM := Lib.hid hmm
      clear hx hp hmm
      cases hb : (decide (x < 0) || decide ((m : Int) ≤ x)) with
      | true =>
        rw [hb] at hin
        have hz : lostE m p (xs.drop k) = 6 := by
          rw [hs]
          have : ascE m p x = 6 := by unfold ascE; rw [hb]; rfl
          rw [this]; rfl
        have HZ := Lib.hid hz
        have C1 := Lib.hid (fun W => C.out W _ hin)
        clear hs hpn hpc hp0 hin hb hz C
        go_wp2_with (go_at_call 13; first | (refine (C1.out _).mono ?_; rintro e w' ⟨rfl, rfl⟩) | (rw [HMM.out]; refine (C1.out _).mono ?_; rintro e w' ⟨rfl, rfl⟩))
        go_ret
        exact ⟨by rw [HE.out, HZ.out]; rfl, HB.out⟩
      | false =>
        rw [hb] at hin
        have hx0 : 0 ≤ x := by
          have := (Bool.or_eq_false_iff.1 hb).1
          simpa using this
        have hz : lostE m p (xs.drop k) = if x ≤ p then 9 else lostE m x (xs.drop (k + 1)) := by
          rw [hs]
          have : ascE m p x = if x ≤ p then 9 else 0 := by unfold ascE; rw [hb]; rfl
          rw [this]
          by_cases h : x ≤ p
          · rw [if_pos h, if_pos h]; rfl
          · rw [if_neg h, if_neg h]; rfl
        have HZ := Lib.hid hz
        have C1 := Lib.hid (fun W => C.out W _ hin)
        have HPN := Lib.hid hpn
        clear hs hpn hin hb hz C
        by_cases hk0 : k = 0
        · have hpm := hp0 hk0
          have hnle : ¬ x ≤ p := by omega
          have hd0 : decide ((0 : Int) < (k : Int)) = false := by simp; omega
          have hd0n : decide (0 < k) = false := by simp; omega
          have HN := Lib.hid (show lostE m p (xs.drop k) = lostE m x (xs.drop (k + 1)) by rw [HZ.out, if_neg hnle])
          clear hpc hp0 hpm hnle hk0 HZ
          go_wp2_with (go_at_call 13; first | (refine (C1.out _).mono ?_; rintro e w' ⟨rfl, rfl⟩) | (rw [HMM.out]; refine (C1.out _).mono ?_; rintro e w' ⟨rfl, rfl⟩))
          go_upto_region 6 with fail
          refine wp_region_held_drew (S := (fun w' : World => w'.cell? (ad.add k) = some (.int .i64 x))) (by kernel_rfl) (hck) ?_
          intro hHeld
          refine wpAnyH_take (i := 0) (v := ?_) rfl (by kernel_rfl) (by kernel_rfl) (by kernel_rfl) (fun _ _ _ h => h) (Or.inl ⟨by rfl, ?_⟩) (by assumption) ?_
          rotate_left
          · intro w hSw; (try dsimp only at hSw); go_simp; (try (with_reducible rfl))
          try simp only [List.getElem_toArray, List.getElem_cons_succ, List.getElem_cons_zero, Act.put, List.setIfInBounds_toArray, List.set_cons_zero, List.set_cons_succ]
          refine wpAnyH_take (i := 1) (v := ?_) rfl (by kernel_rfl) (by kernel_rfl) (by kernel_rfl) (fun _ _ _ h => h) (Or.inl ⟨by rfl, ?_⟩) (by assumption) ?_
          rotate_left
          · intro w hSw; (try dsimp only at hSw); go_simp; (try (with_reducible rfl))
          try simp only [List.getElem_toArray, List.getElem_cons_succ, List.getElem_cons_zero, Act.put, List.setIfInBounds_toArray, List.set_cons_zero, List.set_cons_succ]
          first | rw [hd0] | rw [hd0n] | skip
          refine wpAnyH_take (i := 2) (v := ?_) rfl (by kernel_rfl) (by kernel_rfl) (by kernel_rfl) (fun _ _ _ h => h) (Or.inl ⟨by rfl, ?_⟩) (by assumption) ?_
          rotate_left
          · intro w hSw; (try dsimp only at hSw); go_simp; (try (with_reducible rfl))
          try simp only [List.getElem_toArray, List.getElem_cons_succ, List.getElem_cons_zero, Act.put, List.setIfInBounds_toArray, List.set_cons_zero, List.set_cons_succ]
          refine wpAnyH_take (i := 3) (v := undef) rfl (by kernel_rfl) (by kernel_rfl) (by kernel_rfl) (fun _ _ _ h => h) (Or.inr ⟨by rfl, rfl⟩) (by assumption) ?_
          try simp only [List.getElem_toArray, List.getElem_cons_succ, List.getElem_cons_zero, Act.put, List.setIfInBounds_toArray, List.set_cons_zero, List.set_cons_succ]
          refine wpAnyH_take (i := 4) (v := undef) rfl (by kernel_rfl) (by kernel_rfl) (by kernel_rfl) (fun _ _ _ h => h) (Or.inr ⟨by rfl, rfl⟩) (by assumption) ?_
          try simp only [List.getElem_toArray, List.getElem_cons_succ, List.getElem_cons_zero, Act.put, List.setIfInBounds_toArray, List.set_cons_zero, List.set_cons_succ]
          refine wpAnyH_take (i := 5) (v := undef) rfl (by kernel_rfl) (by kernel_rfl) (by kernel_rfl) (fun _ _ _ h => h) (Or.inr ⟨by rfl, rfl⟩) (by assumption) ?_
          try simp only [List.getElem_toArray, List.getElem_cons_succ, List.getElem_cons_zero, Act.put, List.setIfInBounds_toArray, List.set_cons_zero, List.set_cons_succ]
          refine wpAnyH_take (i := 6) (v := undef) rfl (by kernel_rfl) (by kernel_rfl) (by kernel_rfl) (fun _ _ _ h => h) (Or.inr ⟨by rfl, rfl⟩) (by assumption) ?_
          try simp only [List.getElem_toArray, List.getElem_cons_succ, List.getElem_cons_zero, Act.put, List.setIfInBounds_toArray, List.set_cons_zero, List.set_cons_succ]
          refine wpAnyH_take (i := 7) (v := undef) rfl (by kernel_rfl) (by kernel_rfl) (by kernel_rfl) (fun _ _ _ h => h) (Or.inr ⟨by rfl, rfl⟩) (by assumption) ?_
          try simp only [List.getElem_toArray, List.getElem_cons_succ, List.getElem_cons_zero, Act.put, List.setIfInBounds_toArray, List.set_cons_zero, List.set_cons_succ]
          refine wpAnyH_take (i := 8) (v := undef) rfl (by kernel_rfl) (by kernel_rfl) (by kernel_rfl) (fun _ _ _ h => h) (Or.inr ⟨by rfl, rfl⟩) (by assumption) ?_
          try simp only [List.getElem_toArray, List.getElem_cons_succ, List.getElem_cons_zero, Act.put, List.setIfInBounds_toArray, List.set_cons_zero, List.set_cons_succ]
          refine wpAnyH_take (i := 9) (v := undef) rfl (by kernel_rfl) (by kernel_rfl) (by kernel_rfl) (fun _ _ _ h => h) (Or.inr ⟨by rfl, rfl⟩) (by assumption) ?_
          try simp only [List.getElem_toArray, List.getElem_cons_succ, List.getElem_cons_zero, Act.put, List.setIfInBounds_toArray, List.set_cons_zero, List.set_cons_succ]
          refine wpAnyH_take (i := 10) (v := undef) rfl (by kernel_rfl) (by kernel_rfl) (by kernel_rfl) (fun _ _ _ h => h) (Or.inr ⟨by rfl, rfl⟩) (by assumption) ?_
          try simp only [List.getElem_toArray, List.getElem_cons_succ, List.getElem_cons_zero, Act.put, List.setIfInBounds_toArray, List.set_cons_zero, List.set_cons_succ]
          refine wpAnyH_take (i := 11) (v := undef) rfl (by kernel_rfl) (by kernel_rfl) (by kernel_rfl) (fun _ _ _ h => h) (Or.inr ⟨by rfl, rfl⟩) (by assumption) ?_
          try simp only [List.getElem_toArray, List.getElem_cons_succ, List.getElem_cons_zero, Act.put, List.setIfInBounds_toArray, List.set_cons_zero, List.set_cons_succ]
          refine wpAnyH_take (i := 12) (v := undef) rfl (by kernel_rfl) (by kernel_rfl) (by kernel_rfl) (fun _ _ _ h => h) (Or.inr ⟨by rfl, rfl⟩) (by assumption) ?_
          try simp only [List.getElem_toArray, List.getElem_cons_succ, List.getElem_cons_zero, Act.put, List.setIfInBounds_toArray, List.set_cons_zero, List.set_cons_succ]
          refine wpAnyH_take (i := 13) (v := ?_) rfl (by kernel_rfl) (by kernel_rfl) (by kernel_rfl) (fun _ _ _ h => h) (Or.inl ⟨by rfl, ?_⟩) (by assumption) ?_
          rotate_left
          · intro w hSw; (try dsimp only at hSw); go_simp; (try (with_reducible rfl))
          try simp only [List.getElem_toArray, List.getElem_cons_succ, List.getElem_cons_zero, Act.put, List.setIfInBounds_toArray, List.set_cons_zero, List.set_cons_succ]
          refine wpAnyH_done (by kernel_rfl) ?_ _
          clear hHeld
          go_wp2
          go_roundw
          case rel => exact ⟨k + 1, by omega, by go_num, by show _ = _; rw [HE.out, HN.out, HPN.out], HB.out.drew⟩
          case measure => simp [intOf]; omega
        · have hcp := hpc (by omega)
          have hd0 : decide ((0 : Int) < (k : Int)) = true := by simp; omega
          have hd0n : decide (0 < k) = true := by simp; omega
          obtain ⟨j, hj⟩ : ∃ j : Nat, k - 1 = j := ⟨_, rfl⟩
          have hjk : (k : Int) - 1 = (j : Int) := by omega
          have hjn : (j : Int) < (n : Int) := by omega
          have hjw : IntKind.i64.wrap (j : Int) = (j : Int) := by apply wrapS <;> omega
          rw [hj] at hcp
          clear hpc hp0 hk0 hj
          cases hle : decide (x ≤ p) with
          | true =>
            have HN := Lib.hid (show lostE m p (xs.drop k) = 9 by rw [HZ.out, if_pos (by simpa using hle)])
            clear HZ
            go_wp2_with (go_at_call 13; first | (refine (C1.out _).mono ?_; rintro e w' ⟨rfl, rfl⟩) | (rw [HMM.out]; refine (C1.out _).mono ?_; rintro e w' ⟨rfl, rfl⟩))
            go_upto_region 6 with fail
            refine wp_region_held_drew (S := (fun w' : World => w'.cell? (ad.add k) = some (.int .i64 x) ∧ w'.cell? (ad.add j) = some (.int .i64 p))) (by kernel_rfl) (⟨hck, hcp⟩) ?_
            intro hHeld
            refine wpAnyH_take (i := 0) (v := ?_) rfl (by kernel_rfl) (by kernel_rfl) (by kernel_rfl) (fun _ _ _ h => h) (Or.inl ⟨by rfl, ?_⟩) (by assumption) ?_
            rotate_left
            · intro w hSw; (try dsimp only at hSw); go_simp; (try (with_reducible rfl))
            try simp only [List.getElem_toArray, List.getElem_cons_succ, List.getElem_cons_zero, Act.put, List.setIfInBounds_toArray, List.set_cons_zero, List.set_cons_succ]
            refine wpAnyH_take (i := 1) (v := ?_) rfl (by kernel_rfl) (by kernel_rfl) (by kernel_rfl) (fun _ _ _ h => h) (Or.inl ⟨by rfl, ?_⟩) (by assumption) ?_
            rotate_left
            · intro w hSw; (try dsimp only at hSw); go_simp; (try (with_reducible rfl))
            try simp only [List.getElem_toArray, List.getElem_cons_succ, List.getElem_cons_zero, Act.put, List.setIfInBounds_toArray, List.set_cons_zero, List.set_cons_succ]
            first | rw [hd0] | rw [hd0n] | skip
            refine wpAnyH_take (i := 2) (v := ?_) rfl (by kernel_rfl) (by kernel_rfl) (by kernel_rfl) (fun _ _ _ h => h) (Or.inl ⟨by rfl, ?_⟩) (by assumption) ?_
            rotate_left
            · intro w hSw; (try dsimp only at hSw); go_simp; (try (with_reducible rfl))
            try simp only [List.getElem_toArray, List.getElem_cons_succ, List.getElem_cons_zero, Act.put, List.setIfInBounds_toArray, List.set_cons_zero, List.set_cons_succ]
            refine wpAnyH_take (i := 3) (v := ?_) rfl (by kernel_rfl) (by kernel_rfl) (by kernel_rfl) (fun _ _ _ h => h) (Or.inl ⟨by rfl, ?_⟩) (by assumption) ?_
            rotate_left
            · intro w hSw; (try dsimp only at hSw); go_simp; (try (with_reducible rfl))
            try simp only [List.getElem_toArray, List.getElem_cons_succ, List.getElem_cons_zero, Act.put, List.setIfInBounds_toArray, List.set_cons_zero, List.set_cons_succ]
            refine wpAnyH_take (i := 4) (v := ?_) rfl (by kernel_rfl) (by kernel_rfl) (by kernel_rfl) (fun _ _ _ h => h) (Or.inl ⟨by rfl, ?_⟩) (by assumption) ?_
            rotate_left
            · intro w hSw; (try dsimp only at hSw); go_simp; (try (with_reducible rfl))
            try simp only [List.getElem_toArray, List.getElem_cons_succ, List.getElem_cons_zero, Act.put, List.setIfInBounds_toArray, List.set_cons_zero, List.set_cons_succ]
            refine wpAnyH_take (i := 5) (v := ?_) rfl (by kernel_rfl) (by kernel_rfl) (by kernel_rfl) (fun _ _ _ h => h) (Or.inl ⟨by rfl, ?_⟩) (by assumption) ?_
            rotate_left
            · intro w hSw; (try dsimp only at hSw); go_simp; (try (with_reducible rfl))
            try simp only [List.getElem_toArray, List.getElem_cons_succ, List.getElem_cons_zero, Act.put, List.setIfInBounds_toArray, List.set_cons_zero, List.set_cons_succ]
            refine wpAnyH_take (i := 6) (v := ?_) rfl (by kernel_rfl) (by kernel_rfl) (by kernel_rfl) (fun _ _ _ h => h) (Or.inl ⟨by rfl, ?_⟩) (by assumption) ?_
            rotate_left
            · intro w hSw; (try dsimp only at hSw); go_simp; (try (with_reducible rfl))
            try simp only [List.getElem_toArray, List.getElem_cons_succ, List.getElem_cons_zero, Act.put, List.setIfInBounds_toArray, List.set_cons_zero, List.set_cons_succ]
            refine wpAnyH_take (i := 7) (v := ?_) rfl (by kernel_rfl) (by kernel_rfl) (by kernel_rfl) (fun _ _ _ h => h) (Or.inl ⟨by rfl, ?_⟩) (by assumption) ?_
            rotate_left
            · intro w hSw; (try dsimp only at hSw); go_simp; (try (with_reducible rfl))
            try simp only [List.getElem_toArray, List.getElem_cons_succ, List.getElem_cons_zero, Act.put, List.setIfInBounds_toArray, List.set_cons_zero, List.set_cons_succ]
            refine wpAnyH_take (i := 8) (v := ?_) rfl (by kernel_rfl) (by kernel_rfl) (by kernel_rfl) (fun _ _ _ h => h) (Or.inl ⟨by rfl, ?_⟩) (by assumption) ?_
            rotate_left
            · intro w hSw; (try dsimp only at hSw); go_simp; (try (with_reducible rfl))
            try simp only [List.getElem_toArray, List.getElem_cons_succ, List.getElem_cons_zero, Act.put, List.setIfInBounds_toArray, List.set_cons_zero, List.set_cons_succ]
            refine wpAnyH_take (i := 9) (v := ?_) rfl (by kernel_rfl) (by kernel_rfl) (by kernel_rfl) (fun _ _ _ h => h) (Or.inl ⟨by rfl, ?_⟩) (by assumption) ?_
            rotate_left
            · intro w hSw; (try dsimp only at hSw); go_simp; (try (with_reducible rfl))
            try simp only [List.getElem_toArray, List.getElem_cons_succ, List.getElem_cons_zero, Act.put, List.setIfInBounds_toArray, List.set_cons_zero, List.set_cons_succ]
            refine wpAnyH_take (i := 10) (v := ?_) rfl (by kernel_rfl) (by kernel_rfl) (by kernel_rfl) (fun _ _ _ h => h) (Or.inl ⟨by rfl, ?_⟩) (by assumption) ?_
            rotate_left
            · intro w hSw; (try dsimp only at hSw); go_simp; (try (with_reducible rfl))
            try simp only [List.getElem_toArray, List.getElem_cons_succ, List.getElem_cons_zero, Act.put, List.setIfInBounds_toArray, List.set_cons_zero, List.set_cons_succ]
            refine wpAnyH_take (i := 11) (v := ?_) rfl (by kernel_rfl) (by kernel_rfl) (by kernel_rfl) (fun _ _ _ h => h) (Or.inl ⟨by rfl, ?_⟩) (by assumption) ?_
            rotate_left
            · intro w hSw; (try dsimp only at hSw); go_simp; (try (with_reducible rfl))
            try simp only [List.getElem_toArray, List.getElem_cons_succ, List.getElem_cons_zero, Act.put, List.setIfInBounds_toArray, List.set_cons_zero, List.set_cons_succ]
            refine wpAnyH_take (i := 12) (v := ?_) rfl (by kernel_rfl) (by kernel_rfl) (by kernel_rfl) (fun _ _ _ h => h) (Or.inl ⟨by rfl, ?_⟩) (by assumption) ?_
            rotate_left
            · intro w hSw; (try dsimp only at hSw); go_simp; (try (with_reducible rfl))
            try simp only [List.getElem_toArray, List.getElem_cons_succ, List.getElem_cons_zero, Act.put, List.setIfInBounds_toArray, List.set_cons_zero, List.set_cons_succ]
            first | rw [hle] | skip
            refine wpAnyH_take (i := 13) (v := ?_) rfl (by kernel_rfl) (by kernel_rfl) (by kernel_rfl) (fun _ _ _ h => h) (Or.inl ⟨by rfl, ?_⟩) (by assumption) ?_
            rotate_left
            · intro w hSw; (try dsimp only at hSw); go_simp; (try (with_reducible rfl))
            try simp only [List.getElem_toArray, List.getElem_cons_succ, List.getElem_cons_zero, Act.put, List.setIfInBounds_toArray, List.set_cons_zero, List.set_cons_succ]
            refine wpAnyH_done (by kernel_rfl) ?_ _
            clear hHeld
            go_wp2
            go_ret
            exact ⟨by rw [HE.out, HN.out]; rfl, HB.out.drew⟩
          | false =>
            have HN := Lib.hid (show lostE m p (xs.drop k) = lostE m x (xs.drop (k + 1)) by rw [HZ.out, if_neg (by simpa using hle)])
            clear HZ
            go_wp2_with (go_at_call 13; first | (refine (C1.out _).mono ?_; rintro e w' ⟨rfl, rfl⟩) | (rw [HMM.out]; refine (C1.out _).mono ?_; rintro e w' ⟨rfl, rfl⟩))
            go_upto_region 6 with fail
            refine wp_region_held_drew (S := (fun w' : World => w'.cell? (ad.add k) = some (.int .i64 x) ∧ w'.cell? (ad.add j) = some (.int .i64 p))) (by kernel_rfl) (⟨hck, hcp⟩) ?_
            intro hHeld
            refine wpAnyH_take (i := 0) (v := ?_) rfl (by kernel_rfl) (by kernel_rfl) (by kernel_rfl) (fun _ _ _ h => h) (Or.inl ⟨by rfl, ?_⟩) (by assumption) ?_
            rotate_left
            · intro w hSw; (try dsimp only at hSw); go_simp; (try (with_reducible rfl))
            try simp only [List.getElem_toArray, List.getElem_cons_succ, List.getElem_cons_zero, Act.put, List.setIfInBounds_toArray, List.set_cons_zero, List.set_cons_succ]
            refine wpAnyH_take (i := 1) (v := ?_) rfl (by kernel_rfl) (by kernel_rfl) (by kernel_rfl) (fun _ _ _ h => h) (Or.inl ⟨by rfl, ?_⟩) (by assumption) ?_
            rotate_left
            · intro w hSw; (try dsimp only at hSw); go_simp; (try (with_reducible rfl))
            try simp only [List.getElem_toArray, List.getElem_cons_succ, List.getElem_cons_zero, Act.put, List.setIfInBounds_toArray, List.set_cons_zero, List.set_cons_succ]
            first | rw [hd0] | rw [hd0n] | skip
            refine wpAnyH_take (i := 2) (v := ?_) rfl (by kernel_rfl) (by kernel_rfl) (by kernel_rfl) (fun _ _ _ h => h) (Or.inl ⟨by rfl, ?_⟩) (by assumption) ?_
            rotate_left
            · intro w hSw; (try dsimp only at hSw); go_simp; (try (with_reducible rfl))
            try simp only [List.getElem_toArray, List.getElem_cons_succ, List.getElem_cons_zero, Act.put, List.setIfInBounds_toArray, List.set_cons_zero, List.set_cons_succ]
            refine wpAnyH_take (i := 3) (v := ?_) rfl (by kernel_rfl) (by kernel_rfl) (by kernel_rfl) (fun _ _ _ h => h) (Or.inl ⟨by rfl, ?_⟩) (by assumption) ?_
            rotate_left
            · intro w hSw; (try dsimp only at hSw); go_simp; (try (with_reducible rfl))
            try simp only [List.getElem_toArray, List.getElem_cons_succ, List.getElem_cons_zero, Act.put, List.setIfInBounds_toArray, List.set_cons_zero, List.set_cons_succ]
            refine wpAnyH_take (i := 4) (v := ?_) rfl (by kernel_rfl) (by kernel_rfl) (by kernel_rfl) (fun _ _ _ h => h) (Or.inl ⟨by rfl, ?_⟩) (by assumption) ?_
            rotate_left
            · intro w hSw; (try dsimp only at hSw); go_simp; (try (with_reducible rfl))
            try simp only [List.getElem_toArray, List.getElem_cons_succ, List.getElem_cons_zero, Act.put, List.setIfInBounds_toArray, List.set_cons_zero, List.set_cons_succ]
            refine wpAnyH_take (i := 5) (v := ?_) rfl (by kernel_rfl) (by kernel_rfl) (by kernel_rfl) (fun _ _ _ h => h) (Or.inl ⟨by rfl, ?_⟩) (by assumption) ?_
            rotate_left
            · intro w hSw; (try dsimp only at hSw); go_simp; (try (with_reducible rfl))
            try simp only [List.getElem_toArray, List.getElem_cons_succ, List.getElem_cons_zero, Act.put, List.setIfInBounds_toArray, List.set_cons_zero, List.set_cons_succ]
            refine wpAnyH_take (i := 6) (v := ?_) rfl (by kernel_rfl) (by kernel_rfl) (by kernel_rfl) (fun _ _ _ h => h) (Or.inl ⟨by rfl, ?_⟩) (by assumption) ?_
            rotate_left
            · intro w hSw; (try dsimp only at hSw); go_simp; (try (with_reducible rfl))
            try simp only [List.getElem_toArray, List.getElem_cons_succ, List.getElem_cons_zero, Act.put, List.setIfInBounds_toArray, List.set_cons_zero, List.set_cons_succ]
            refine wpAnyH_take (i := 7) (v := ?_) rfl (by kernel_rfl) (by kernel_rfl) (by kernel_rfl) (fun _ _ _ h => h) (Or.inl ⟨by rfl, ?_⟩) (by assumption) ?_
            rotate_left
            · intro w hSw; (try dsimp only at hSw); go_simp; (try (with_reducible rfl))
            try simp only [List.getElem_toArray, List.getElem_cons_succ, List.getElem_cons_zero, Act.put, List.setIfInBounds_toArray, List.set_cons_zero, List.set_cons_succ]
            refine wpAnyH_take (i := 8) (v := ?_) rfl (by kernel_rfl) (by kernel_rfl) (by kernel_rfl) (fun _ _ _ h => h) (Or.inl ⟨by rfl, ?_⟩) (by assumption) ?_
            rotate_left
            · intro w hSw; (try dsimp only at hSw); go_simp; (try (with_reducible rfl))
            try simp only [List.getElem_toArray, List.getElem_cons_succ, List.getElem_cons_zero, Act.put, List.setIfInBounds_toArray, List.set_cons_zero, List.set_cons_succ]
            refine wpAnyH_take (i := 9) (v := ?_) rfl (by kernel_rfl) (by kernel_rfl) (by kernel_rfl) (fun _ _ _ h => h) (Or.inl ⟨by rfl, ?_⟩) (by assumption) ?_
            rotate_left
            · intro w hSw; (try dsimp only at hSw); go_simp; (try (with_reducible rfl))
            try simp only [List.getElem_toArray, List.getElem_cons_succ, List.getElem_cons_zero, Act.put, List.setIfInBounds_toArray, List.set_cons_zero, List.set_cons_succ]
            refine wpAnyH_take (i := 10) (v := ?_) rfl (by kernel_rfl) (by kernel_rfl) (by kernel_rfl) (fun _ _ _ h => h) (Or.inl ⟨by rfl, ?_⟩) (by assumption) ?_
            rotate_left
            · intro w hSw; (try dsimp only at hSw); go_simp; (try (with_reducible rfl))
            try simp only [List.getElem_toArray, List.getElem_cons_succ, List.getElem_cons_zero, Act.put, List.setIfInBounds_toArray, List.set_cons_zero, List.set_cons_succ]
            refine wpAnyH_take (i := 11) (v := ?_) rfl (by kernel_rfl) (by kernel_rfl) (by kernel_rfl) (fun _ _ _ h => h) (Or.inl ⟨by rfl, ?_⟩) (by assumption) ?_
            rotate_left
            · intro w hSw; (try dsimp only at hSw); go_simp; (try (with_reducible rfl))
            try simp only [List.getElem_toArray, List.getElem_cons_succ, List.getElem_cons_zero, Act.put, List.setIfInBounds_toArray, List.set_cons_zero, List.set_cons_succ]
            refine wpAnyH_take (i := 12) (v := ?_) rfl (by kernel_rfl) (by kernel_rfl) (by kernel_rfl) (fun _ _ _ h => h) (Or.inl ⟨by rfl, ?_⟩) (by assumption) ?_
            rotate_left
            · intro w hSw; (try dsimp only at hSw); go_simp; (try (with_reducible rfl))
            try simp only [List.getElem_toArray, List.getElem_cons_succ, List.getElem_cons_zero, Act.put, List.setIfInBounds_toArray, List.set_cons_zero, List.set_cons_succ]
            first | rw [hle] | skip
            refine wpAnyH_take (i := 13) (v := ?_) rfl (by kernel_rfl) (by kernel_rfl) (by kernel_rfl) (fun _ _ _ h => h) (Or.inl ⟨by rfl, ?_⟩) (by assumption) ?_
            rotate_left
            · intro w hSw; (try dsimp only at hSw); go_simp; (try (with_reducible rfl))
            try simp only [List.getElem_toArray, List.getElem_cons_succ, List.getElem_cons_zero, Act.put, List.setIfInBounds_toArray, List.set_cons_zero, List.set_cons_succ]
            refine wpAnyH_done (by kernel_rfl) ?_ _
            clear hHeld
            go_wp2
            go_roundw
            case rel => exact ⟨k + 1, by omega, by go_num, by show _ = _; rw [HE.out, HN.out, HPN.out], HB.out.drew⟩
            case measure => simp [intOf]; omega
    · go_wp2
      go_ret
      refine ⟨?_, HB.out⟩
      rw [HE.out, List.drop_of_length_le (by have := HR.out.1; omega)]
      rfl
end Go.Proofs.YtjjflbnopphciabDoor

namespace Go.Proofs.YtjjflbnopphciabDoor
open Go.RowKit

theorem firstE_map_step (f : Int → Int) (xs : List Int) (k : Nat) (hk : k < xs.length) : firstE ((xs.drop k).map f) = if f (xs.getD k 0) = 0 then firstE ((xs.drop (k + 1)).map f) else f (xs.getD k 0) := by
  rw [List.drop_eq_getElem_cons hk]
  simp only [List.map_cons, firstE, List.getD_eq_getElem?_getD, List.getElem?_eq_getElem hk, Option.getD_some]
set_option maxRecDepth 100000 in
set_option maxHeartbeats 2000000 in
theorem checkEachNum (A : Option Addr) (n c : Nat) (xs : List Int)  (w : World) (hr : RdI w A n xs) (hn : n ≤ 1000000) (hC : ∀ x W, x ∈ xs → Below w.heap.size w W → Calls Tryd.prog 52 #[.int .i64 x] W fun e w' => e = .returned (.int .i64 ((fun x => rangeE x 0 65536) x)) ∧ Below W.heap.size W w') :
    Calls Tryd.prog 38 #[.slice A n c, .func (Fn.func 52) #[] #[]] w
      fun e w' => e = .returned (.int .i64 (firstE (xs.map (fun x => rangeE x 0 65536)))) ∧ Below w.heap.size w w' := by
  have HR := Lib.hid hr
  have HC := Lib.hid hC
  clear hr hC
  go_enter Tryd.func38, Tryd.ntmps38
  go_wp2
  go_loopw [10] (fun i wr => ∃ k : Nat, k ≤ n ∧ i = .int .i64 k ∧ Hid (firstE (xs.map (fun x => rangeE x 0 65536)) = firstE ((xs.drop k).map (fun x => rangeE x 0 65536))) ∧ Hid (Below w.heap.size w wr)) (fun i _ => n - (intOf i).toNat)
  case atStart => exact ⟨0, Nat.zero_le _, rfl, rfl, Below.refl _ _⟩
  case round =>
    obtain ⟨k, hk, rfl, HE, HB⟩ := hrel
    by_cases hlt : k < n
    · obtain ⟨ad, ha, _, hc⟩ := (HR.out.below HB.out).2 (by omega)
      have hck := hc k hlt
      clear hc
      subst ha
      have hs := firstE_map_step (fun x => rangeE x 0 65536) xs k (by rw [HR.out.1]; exact hlt)
      have hmem : xs.getD k 0 ∈ xs := by
        rw [List.getD_eq_getElem?_getD, List.getElem?_eq_getElem (by rw [HR.out.1]; exact hlt)]; exact List.getElem_mem _
      obtain ⟨x, hx⟩ : ∃ x, xs.getD k 0 = x := ⟨_, rfl⟩
      rw [hx] at hck hs hmem
      have C0 := HC.out x wr hmem HB.out
      obtain ⟨r, hrr⟩ : ∃ r, (fun x => rangeE x 0 65536) x = r := ⟨_, rfl⟩
      (try dsimp only at hrr)
      (try dsimp only at hs)
      (try dsimp only at C0)
      rw [hrr] at hs C0
      have C := Lib.hid C0
      have HS := Lib.hid hs
      have hkI : (k : Int) < (n : Int) := by omega
      have hszr : w.heap.size ≤ wr.heap.size := HB.out.size
      clear hs hx hrr hmem C0
      go_wp2_with (go_at_call 52; refine C.out.mono ?_; rintro e w' ⟨rfl, hb⟩)
      · have h1 : (r != 0) = true := by assumption
        have HF : Hid (Below w.heap.size w w') := HB.out.trans (hb.mono hszr)
        go_ret
        have h2 : r ≠ 0 := by simpa using h1
        exact ⟨by rw [HE.out, HS.out, if_neg h2]; rfl, HF.out⟩
      · have h1 : (r != 0) = false := by assumption
        have h2 : r = 0 := by simpa using h1
        have HF : Hid (Below w.heap.size w w') := HB.out.trans (hb.mono hszr)
        clear hb
        go_roundw
        case rel =>
          refine ⟨k + 1, by omega, by go_num, ?_, HF.out⟩
          show firstE (xs.map (fun x => rangeE x 0 65536)) = _
          rw [HE.out, HS.out, if_pos h2]
        case measure => simp [intOf]; omega
    · go_wp2
      go_ret
      refine ⟨?_, HB.out⟩
      rw [HE.out, List.drop_of_length_le (by have := HR.out.1; omega)]
      rfl
set_option maxRecDepth 100000 in
theorem checkNumbers_any (arr : Array Value) (xs : List Int) (w : World) (h : Is8 arr xs) :
    Calls Tryd.prog 42 #[.agg arr] w fun e w' => e = .returned (.int .i64 (rangesE xs 0 65536)) ∧ Below w.heap.size w w' := by
  have hrd : RdI (w.alloc (.cells arr 34)) (some ⟨w.heap.size, 0, none⟩) 8 xs := by
    refine ⟨h.len, fun _ => ⟨_, rfl, by simp, fun j hj => ?_⟩⟩
    have hadd : (⟨w.heap.size, 0, none⟩ : Addr).add j = ⟨w.heap.size, j, none⟩ := by unfold Addr.add; split <;> simp_all
    rw [hadd, cell_of_row _ _ j arr _ (0, 0) (heap_alloc_new w _)]
    exact h.at_ j hj
  have C := Lib.hid (fun c => checkEachNum (some ⟨w.heap.size, 0, none⟩) 8 c xs (w.alloc (.cells arr 34)) hrd (by omega) (fun x W _ _ => (checkNumber_any x W).mono (by rintro e w' ⟨h1, rfl⟩; exact ⟨h1, Below.refl _ _⟩)))
  have H := Lib.hid h; clear h hrd
  go_enter Tryd.func42, Tryd.ntmps42
  go_wp2_with fail
  refine (C.out _).mono ?_
  rintro e w' ⟨rfl, hb⟩
  go_wp2
  go_ret
  exact ⟨rfl, ((Below.refl _ _).alloc (Nat.le_refl _) _).trans (hb.mono (by simp))⟩
set_option maxRecDepth 100000 in
theorem cg1_any (g : Nat) (A : Option Addr) (n ca : Nat) (ds : List (List Int)) (i : Nat) (w : World) (hg : w.cell? ⟨g, 0, none⟩ = some (.slice A n ca)) (hr : RdD w A n ds) (hi : i < n) :
    Calls Tryd.prog 40 #[.int .i64 (i : Int), .pointer (some ⟨g, 0, none⟩)] w fun e w' => e = .returned (.int .i64 (rangesE (ds.getD i []) (-32767) 32767)) ∧ Below w.heap.size w w' := by
  obtain ⟨ad, x0, x1, x2, x3, x4, x5, x6, x7, rfl, hbl, hrow, p0, p1, p2, p3, p4, p5, p6, p7⟩ := hr.row hi
  obtain ⟨r, hrr⟩ : ∃ r, rangesE (ds.getD i []) (-32767) 32767 = r := ⟨_, rfl⟩
  rw [hrr]
  rw [hrow] at hrr
  have C : Hid (∀ W, Calls Tryd.prog 27 #[.agg #[.int .i64 x0, .int .i64 x1, .int .i64 x2, .int .i64 x3, .int .i64 x4, .int .i64 x5, .int .i64 x6, .int .i64 x7]] W fun e w' => e = .returned (.int .i64 r) ∧ Below W.heap.size W w') := fun W => by rw [← hrr]; exact checkSamples_any _ _ W (is8_lit x0 x1 x2 x3 x4 x5 x6 x7)
  have hiI : (i : Int) < (n : Int) := by omega
  clear hrow hrr hr
  go_enter Tryd.func40, Tryd.ntmps40
  go_wp2_with fail
  refine (C.out _).mono ?_
  rintro e w' ⟨rfl, hb⟩
  go_wp2
  go_ret
  exact ⟨rfl, hb⟩
set_option maxRecDepth 100000 in
theorem cg2_any (g : Nat) (A : Option Addr) (n ca : Nat) (ds : List (List Int)) (i : Nat) (w : World) (hg : w.cell? ⟨g, 1, none⟩ = some (.slice A n ca)) (hr : RdD w A n ds) (hi : i < n) :
    Calls Tryd.prog 41 #[.int .i64 (i : Int), .pointer (some ⟨g, 0, none⟩)] w fun e w' => e = .returned (.int .i64 (rangesE (ds.getD i []) (0) 65536)) ∧ Below w.heap.size w w' := by
  obtain ⟨ad, x0, x1, x2, x3, x4, x5, x6, x7, rfl, hbl, hrow, p0, p1, p2, p3, p4, p5, p6, p7⟩ := hr.row hi
  obtain ⟨r, hrr⟩ : ∃ r, rangesE (ds.getD i []) (0) 65536 = r := ⟨_, rfl⟩
  rw [hrr]
  rw [hrow] at hrr
  have C : Hid (∀ W, Calls Tryd.prog 42 #[.agg #[.int .i64 x0, .int .i64 x1, .int .i64 x2, .int .i64 x3, .int .i64 x4, .int .i64 x5, .int .i64 x6, .int .i64 x7]] W fun e w' => e = .returned (.int .i64 r) ∧ Below W.heap.size W w') := fun W => by rw [← hrr]; exact checkNumbers_any _ _ W (is8_lit x0 x1 x2 x3 x4 x5 x6 x7)
  have hiI : (i : Int) < (n : Int) := by omega
  clear hrow hrr hr
  go_enter Tryd.func41, Tryd.ntmps41
  go_wp2_with fail
  refine (C.out _).mono ?_
  rintro e w' ⟨rfl, hb⟩
  go_wp2
  go_ret
  exact ⟨rfl, hb⟩
/-- The error of those blocks that are kept. -/
def rowsE (ds : List (List Int)) (lo hi : Int) (ks : List Int) : Int := firstE (ks.map fun x => rangesE (ds.getD x.toNat []) lo hi)
set_option maxRecDepth 100000 in
set_option maxHeartbeats 2000000 in
theorem checkKept1_of (A : Option Addr) (n c : Nat) (xs : List Int) (ds : List (List Int)) (g : Nat) (w : World) (hr : RdI w A n xs) (hn : n ≤ 1000000) (hC : ∀ x W, x ∈ xs → Below w.heap.size w W → Calls Tryd.prog 40 #[.int .i64 x, .pointer (some ⟨g, 0, none⟩)] W fun e w' => e = .returned (.int .i64 ((fun x => rangesE (ds.getD x.toNat []) (-32767) 32767) x)) ∧ Below W.heap.size W w') :
    Calls Tryd.prog 38 #[.slice A n c, .func (Fn.func 40) #[] #[.pointer (some ⟨g, 0, none⟩)]] w
      fun e w' => e = .returned (.int .i64 (firstE (xs.map (fun x => rangesE (ds.getD x.toNat []) (-32767) 32767)))) ∧ Below w.heap.size w w' := by
  have HR := Lib.hid hr
  have HC := Lib.hid hC
  clear hr hC
  go_enter Tryd.func38, Tryd.ntmps38
  go_wp2
  go_loopw [10] (fun i wr => ∃ k : Nat, k ≤ n ∧ i = .int .i64 k ∧ Hid (firstE (xs.map (fun x => rangesE (ds.getD x.toNat []) (-32767) 32767)) = firstE ((xs.drop k).map (fun x => rangesE (ds.getD x.toNat []) (-32767) 32767))) ∧ Hid (Below w.heap.size w wr)) (fun i _ => n - (intOf i).toNat)
  case atStart => exact ⟨0, Nat.zero_le _, rfl, rfl, Below.refl _ _⟩
  case round =>
    obtain ⟨k, hk, rfl, HE, HB⟩ := hrel
    by_cases hlt : k < n
    · obtain ⟨ad, ha, _, hc⟩ := (HR.out.below HB.out).2 (by omega)
      have hck := hc k hlt
      clear hc
      subst ha
      have hs := firstE_map_step (fun x => rangesE (ds.getD x.toNat []) (-32767) 32767) xs k (by rw [HR.out.1]; exact hlt)
      have hmem : xs.getD k 0 ∈ xs := by
        rw [List.getD_eq_getElem?_getD, List.getElem?_eq_getElem (by rw [HR.out.1]; exact hlt)]; exact List.getElem_mem _
      obtain ⟨x, hx⟩ : ∃ x, xs.getD k 0 = x := ⟨_, rfl⟩
      rw [hx] at hck hs hmem
      have C0 := HC.out x wr hmem HB.out
      obtain ⟨r, hrr⟩ : ∃ r, (fun x => rangesE (ds.getD x.toNat []) (-32767) 32767) x = r := ⟨_, rfl⟩
      (try dsimp only at hrr)
      (try dsimp only at hs)
      (try dsimp only at C0)
      rw [hrr] at hs C0
      have C := Lib.hid C0
      have HS := Lib.hid hs
      have hkI : (k : Int) < (n : Int) := by omega
      have hszr : w.heap.size ≤ wr.heap.size := HB.out.size
      clear hs hx hrr hmem C0
      go_wp2_with (go_at_call 40; refine C.out.mono ?_; rintro e w' ⟨rfl, hb⟩)
      · have h1 : (r != 0) = true := by assumption
        have HF : Hid (Below w.heap.size w w') := HB.out.trans (hb.mono hszr)
        go_ret
        have h2 : r ≠ 0 := by simpa using h1
        exact ⟨by rw [HE.out, HS.out, if_neg h2]; rfl, HF.out⟩
      · have h1 : (r != 0) = false := by assumption
        have h2 : r = 0 := by simpa using h1
        have HF : Hid (Below w.heap.size w w') := HB.out.trans (hb.mono hszr)
        clear hb
        go_roundw
        case rel =>
          refine ⟨k + 1, by omega, by go_num, ?_, HF.out⟩
          show firstE (xs.map (fun x => rangesE (ds.getD x.toNat []) (-32767) 32767)) = _
          rw [HE.out, HS.out, if_pos h2]
        case measure => simp [intOf]; omega
    · go_wp2
      go_ret
      refine ⟨?_, HB.out⟩
      rw [HE.out, List.drop_of_length_le (by have := HR.out.1; omega)]
      rfl
theorem checkKept1 (A : Option Addr) (n c : Nat) (xs : List Int) (g : Nat) (B : Option Addr) (m cb : Nat) (ds : List (List Int)) (w : World) (hr : RdI w A n xs) (hn : n ≤ 1000000) (hg : w.cell? ⟨g, 0, none⟩ = some (.slice B m cb)) (hd : RdD w B m ds) (hx : ∀ x ∈ xs, 0 ≤ x ∧ x < m) :
    Calls Tryd.prog 38 #[.slice A n c, .func (Fn.func 40) #[] #[.pointer (some ⟨g, 0, none⟩)]] w
      fun e w' => e = .returned (.int .i64 (rowsE ds (-32767) 32767 xs)) ∧ Below w.heap.size w w' :=
  checkKept1_of A n c xs ds g w hr hn (fun x W hm hb => by
    obtain ⟨h0, h1⟩ := hx x hm
    obtain ⟨i, rfl⟩ := Int.eq_ofNat_of_zero_le h0
    have := cg1_any g B m cb ds i W ((hb.cell (World.block_lt_of_cell? _ _ hg)).trans hg) (hd.below hb) (by omega)
    simpa using this)
set_option maxRecDepth 100000 in
set_option maxHeartbeats 2000000 in
theorem checkKept2_of (A : Option Addr) (n c : Nat) (xs : List Int) (ds : List (List Int)) (g : Nat) (w : World) (hr : RdI w A n xs) (hn : n ≤ 1000000) (hC : ∀ x W, x ∈ xs → Below w.heap.size w W → Calls Tryd.prog 41 #[.int .i64 x, .pointer (some ⟨g, 0, none⟩)] W fun e w' => e = .returned (.int .i64 ((fun x => rangesE (ds.getD x.toNat []) (0) 65536) x)) ∧ Below W.heap.size W w') :
    Calls Tryd.prog 38 #[.slice A n c, .func (Fn.func 41) #[] #[.pointer (some ⟨g, 0, none⟩)]] w
      fun e w' => e = .returned (.int .i64 (firstE (xs.map (fun x => rangesE (ds.getD x.toNat []) (0) 65536)))) ∧ Below w.heap.size w w' := by
  have HR := Lib.hid hr
  have HC := Lib.hid hC
  clear hr hC
  go_enter Tryd.func38, Tryd.ntmps38
  go_wp2
  go_loopw [10] (fun i wr => ∃ k : Nat, k ≤ n ∧ i = .int .i64 k ∧ Hid (firstE (xs.map (fun x => rangesE (ds.getD x.toNat []) (0) 65536)) = firstE ((xs.drop k).map (fun x => rangesE (ds.getD x.toNat []) (0) 65536))) ∧ Hid (Below w.heap.size w wr)) (fun i _ => n - (intOf i).toNat)
  case atStart => exact ⟨0, Nat.zero_le _, rfl, rfl, Below.refl _ _⟩
  case round =>
    obtain ⟨k, hk, rfl, HE, HB⟩ := hrel
    by_cases hlt : k < n
    · obtain ⟨ad, ha, _, hc⟩ := (HR.out.below HB.out).2 (by omega)
      have hck := hc k hlt
      clear hc
      subst ha
      have hs := firstE_map_step (fun x => rangesE (ds.getD x.toNat []) (0) 65536) xs k (by rw [HR.out.1]; exact hlt)
      have hmem : xs.getD k 0 ∈ xs := by
        rw [List.getD_eq_getElem?_getD, List.getElem?_eq_getElem (by rw [HR.out.1]; exact hlt)]; exact List.getElem_mem _
      obtain ⟨x, hx⟩ : ∃ x, xs.getD k 0 = x := ⟨_, rfl⟩
      rw [hx] at hck hs hmem
      have C0 := HC.out x wr hmem HB.out
      obtain ⟨r, hrr⟩ : ∃ r, (fun x => rangesE (ds.getD x.toNat []) (0) 65536) x = r := ⟨_, rfl⟩
      (try dsimp only at hrr)
      (try dsimp only at hs)
      (try dsimp only at C0)
      rw [hrr] at hs C0
      have C := Lib.hid C0
      have HS := Lib.hid hs
      have hkI : (k : Int) < (n : Int) := by omega
      have hszr : w.heap.size ≤ wr.heap.size := HB.out.size
      clear hs hx hrr hmem C0
      go_wp2_with (go_at_call 41; refine C.out.mono ?_; rintro e w' ⟨rfl, hb⟩)
      · have h1 : (r != 0) = true := by assumption
        have HF : Hid (Below w.heap.size w w') := HB.out.trans (hb.mono hszr)
        go_ret
        have h2 : r ≠ 0 := by simpa using h1
        exact ⟨by rw [HE.out, HS.out, if_neg h2]; rfl, HF.out⟩
      · have h1 : (r != 0) = false := by assumption
        have h2 : r = 0 := by simpa using h1
        have HF : Hid (Below w.heap.size w w') := HB.out.trans (hb.mono hszr)
        clear hb
        go_roundw
        case rel =>
          refine ⟨k + 1, by omega, by go_num, ?_, HF.out⟩
          show firstE (xs.map (fun x => rangesE (ds.getD x.toNat []) (0) 65536)) = _
          rw [HE.out, HS.out, if_pos h2]
        case measure => simp [intOf]; omega
    · go_wp2
      go_ret
      refine ⟨?_, HB.out⟩
      rw [HE.out, List.drop_of_length_le (by have := HR.out.1; omega)]
      rfl
theorem checkKept2 (A : Option Addr) (n c : Nat) (xs : List Int) (g : Nat) (B : Option Addr) (m cb : Nat) (ds : List (List Int)) (w : World) (hr : RdI w A n xs) (hn : n ≤ 1000000) (hg : w.cell? ⟨g, 1, none⟩ = some (.slice B m cb)) (hd : RdD w B m ds) (hx : ∀ x ∈ xs, 0 ≤ x ∧ x < m) :
    Calls Tryd.prog 38 #[.slice A n c, .func (Fn.func 41) #[] #[.pointer (some ⟨g, 0, none⟩)]] w
      fun e w' => e = .returned (.int .i64 (rowsE ds (0) 65536 xs)) ∧ Below w.heap.size w w' :=
  checkKept2_of A n c xs ds g w hr hn (fun x W hm hb => by
    obtain ⟨h0, h1⟩ := hx x hm
    obtain ⟨i, rfl⟩ := Int.eq_ofNat_of_zero_le h0
    have := cg2_any g B m cb ds i W ((hb.cell (World.block_lt_of_cell? _ _ hg)).trans hg) (hd.below hb) (by omega)
    simpa using this)
end Go.Proofs.YtjjflbnopphciabDoor

