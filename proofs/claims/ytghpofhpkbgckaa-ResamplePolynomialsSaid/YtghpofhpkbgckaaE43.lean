import Derived.Test.YtghpofhpkbgckaaE42

namespace Go.Proofs.Ytghpofhpkbgckaa
open Go.RowKit

theorem grownBy_setCellG (W : World) (a : Addr) (v : Value) : W.grownBy (W.setCell a v) (some a.block) :=
  ⟨rfl, rfl, rfl, (KeepsWalks.setCell W _ v).size, fun k _ hk => Below.heap_setCell _ _ _ k (fun e => hk (by rw [e]))⟩
theorem step_append_at {P : Program} (w : World) {ops : Array Oper} {o : Oper} {a : Act} {K : Act → World → Prop} {Q : Exit → Act → World → Prop} {E : Prop} (hgd : o.guard = none) (s x : Operand) (t : TypeId)
    (ho : o.op = .call { callee := .builtin .append, args := #[s, x], argTypes := #[t, t] })
    (base : Nat) (e : TypeId) (i : TypeInfo) (z : Value) (size bytes : Nat) (ht : P.underlying t = some (.slice e)) (hi : P.info? e = some i) (hz : i.zero = some z)
    (hsize : i.size = size) (hby : i.bytes = bytes) (hzs : z.cells.size = size) (hsz : 0 < size)
    (v : Value) (n : Nat) (xs : List Value) (hs : a.eval s = v) (hown : w.ownsRow base e size v n xs)
    (ad : Addr) (m c : Nat) (news : List Value) (hx : a.eval x = .slice (some ad) m c) (hl : news.length = m * size) (hnews : ∀ j u, news[j]? = some u → w.cell? (ad.add j) = some u) (h1 : ∀ u ∈ news, u.oneCell' = true)
    (h63 : n + m ≤ maxLen) (hbytes : (n + m) * bytes ≤ 140737488355328) (hbase : base ≤ w.heap.size)
    (h : ∀ v' w', w'.ownsRow base e size v' (n + m) (xs ++ news) → w.grownBy w' v.ownBlock → (v' = .slice none 0 0 ↔ v = .slice none 0 0 ∧ m = 0) → (v'.ownBlock = v.ownBlock ∨ v'.ownBlock = some w.heap.size) → K (a.put o.dst v') w') :
    if Region.wanted o (yielded ops a.tmps) = true then Oper.wp P o a w K Q else E := by
  have hw : Region.wanted o (yielded ops a.tmps) = true := by simp [Region.wanted, hgd]
  rw [if_pos hw]
  obtain ⟨v', w', hr, h2, h3, h4, h5⟩ := run_append_own_at (P := P) w base t o.type e i z size bytes ht hi hz hsize hby hzs hsz v n xs hown ad m c news hl hnews h1 h63 hbytes hbase
  unfold Oper.wp execOp
  simp only [ho, resolve, invoke, builtin, Sem.run_bind, Sem.run_pure, Result.andThen_ok, List.map_toArray, List.map_cons, List.map_nil, hs, hx, hr]
  exact h v' w' h2 h3 h4 h5


theorem ownFar {w : World} {base t size k : Nat} {x : Value} {xs : List Value} (ho : w.ownsRow base t size x k xs) (a : Addr) (u : Value) (ha : a.block < base) : (w.setCell a u).ownsRow base t size x k xs :=
  ho.kept (grownBy_setCellG w a u) (by
    cases hb : x.ownBlock with
    | none => exact .inl rfl
    | some g => exact .inr (by intro e; injection e with e; have := (ho.lt g hb).1; omega))
/-- The last output but i. -/
def backF (ys : List Int) (k i : Nat) : Int := if i ≤ k then ys.getD (k - i) 0 else 0
theorem backF_bd {ys : List Int} {A : Int} (hA : 0 ≤ A) (h : ∀ y ∈ ys, -A ≤ y ∧ y ≤ A) (k i : Nat) : -A ≤ backF ys k i ∧ backF ys k i ≤ A := by
  unfold backF
  split
  · exact getD_bd hA h _
  · omega
set_option maxRecDepth 100000 in
set_option maxHeartbeats 4000000 in
theorem added_any (f s d : Int) (A : Option Addr) (m c : Nat) (ys : List Int) (k : Nat) (w : World) (h : EqOk f s d) (hr : RdI w A m ys) (hk : k ≤ m) (hm : m ≤ 1000000) (hy : ∀ y ∈ ys, -1000000000000000 ≤ y ∧ y ≤ 1000000000000000) :
    Calls Try.prog 85 #[.agg #[.int .i64 f, .int .i64 s, .int .i64 d], .slice A m c, .int .i64 (k : Int)] w fun e w' => e = .returned (.int .i64 (echoF f s d (backF ys k 1) (backF ys k 2))) ∧ Below w.heap.size w w' := by
  have ha := backF_bd (by omega) hy k 1
  have hb := backF_bd (by omega) hy k 2
  have HR := Lib.hid hr
  have HA : Hid (backF ys k 1 = if 1 ≤ k then ys.getD (k - 1) 0 else 0) := rfl
  have HB : Hid (backF ys k 2 = if 2 ≤ k then ys.getD (k - 2) 0 else 0) := rfl
  obtain ⟨a, ha'⟩ : ∃ a, backF ys k 1 = a := ⟨_, rfl⟩
  obtain ⟨b, hb'⟩ : ∃ b, backF ys k 2 = b := ⟨_, rfl⟩
  rw [ha'] at ha HA ⊢
  rw [hb'] at hb HB ⊢
  clear ha' hb' hr hy
  have h1 := big_mul h.1 ha
  have h2 := big_mul h.2.1 hb
  have h3 := h.2.2
  have HE : Hid (echoF f s d a b = (f * a + s * b) / d) := rfl
  have w1 : IntKind.i64.wrap (f * a) = f * a := IntWalk.i64_in _ (by omega)
  have w2 : IntKind.i64.wrap (s * b) = s * b := IntWalk.i64_in _ (by omega)
  have w3 : IntKind.i64.wrap (f * a + s * b) = f * a + s * b := IntWalk.i64_in _ (by omega)
  have CD := Lib.hid (fun w => floor_any (f * a + s * b) d (by omega) (by omega) w)
  clear h ha hb
  rcases (by omega : k = 0 ∨ k = 1 ∨ 2 ≤ k) with rfl | hk1' | hk2
  · have e1 := HA.out
    have e2 := HB.out
    simp at e1 e2
    have CD0 := Lib.hid (fun w => floor_any 0 d (by omega) (by omega) w)
    have HE0 : Hid (echoF f s d a b = 0 / d) := by show _ = _; rw [HE.out, e1, e2]; simp
    subst e1 e2
    clear HA HB CD HE w1 w2 w3
    go_enter Try.func85, Try.ntmps85
    go_wp2_with (go_at_call 41; refine (CD0.out _).mono ?_; rintro e w' ⟨rfl, rfl⟩)
    go_ret
    exact ⟨by rw [HE0.out, Int.zero_ediv]; rfl, by (repeat (first | exact Below.refl _ _ | refine Below.drew ?_ | refine belowDrewN ?_ _ | refine Below.alloc ?_ (by first | (simp; done) | (simp; omega)) _))⟩
  · have e1 := HA.out
    have e2 := HB.out
    rw [if_pos (by omega)] at e1
    rw [if_neg (by omega)] at e2
    obtain ⟨ad, rfl, hlt, hc⟩ := HR.out.2 (by omega)
    have c1 := hc (k - 1) (by omega)
    rw [← e1] at c1
    have c1' := cellA (.cells #[.int .i64 f, .int .i64 s, .int .i64 d] 68) c1
    obtain ⟨k1, hk1⟩ : ∃ k1, k - 1 = k1 := ⟨_, rfl⟩
    rw [hk1] at c1 c1'
    have v1 : IntKind.i64.wrap ((k : Int) - 1) = (k1 : Int) := by rw [show (k : Int) - 1 = (k1 : Int) by omega]; exact IntWalk.i64_in _ (by omega)
    have v1' : (k : Int) - 1 = (k1 : Int) := by omega
    have i1 : (0 : Int) < (k : Int) := by omega
    have i1n : 0 < k := by omega
    have i2 : ¬ (1 : Int) < (k : Int) := by omega
    have i2n : ¬ 1 < k := by omega
    have i3 : (k1 : Int) < (m : Int) := by omega
    have i5 : k1 < m := by omega
    subst e2
    simp only [Int.mul_zero, Int.add_zero] at w3 CD
    have HE1 : Hid (echoF f s d a 0 = f * a / d) := by show _ = _; rw [HE.out]; simp
    clear HA HB e1 hc hk1 hk1' HE
    go_enter Try.func85, Try.ntmps85
    go_wp2_with (go_at_call 41; refine (CD.out _).mono ?_; rintro e w' ⟨rfl, rfl⟩)
    go_ret
    exact ⟨by rw [HE1.out]; rfl, by (repeat (first | exact Below.refl _ _ | refine Below.drew ?_ | refine belowDrewN ?_ _ | refine Below.alloc ?_ (by first | (simp; done) | (simp; omega)) _))⟩
  · have e1 := HA.out
    have e2 := HB.out
    rw [if_pos (by omega)] at e1 e2
    obtain ⟨ad, rfl, hlt, hc⟩ := HR.out.2 (by omega)
    have c1 := hc (k - 1) (by omega)
    have c2 := hc (k - 2) (by omega)
    rw [← e1] at c1
    rw [← e2] at c2
    have c1' := cellA (.cells #[.int .i64 f, .int .i64 s, .int .i64 d] 68) c1
    have c2' := cellA (.cells #[.int .i64 f, .int .i64 s, .int .i64 d] 68) c2
    obtain ⟨k1, hk1⟩ : ∃ k1, k - 1 = k1 := ⟨_, rfl⟩
    obtain ⟨k2, hk2'⟩ : ∃ k2, k - 2 = k2 := ⟨_, rfl⟩
    rw [hk1] at c1 c1'
    rw [hk2'] at c2 c2'
    have v1 : IntKind.i64.wrap ((k : Int) - 1) = (k1 : Int) := by rw [show (k : Int) - 1 = (k1 : Int) by omega]; exact IntWalk.i64_in _ (by omega)
    have v2 : IntKind.i64.wrap ((k : Int) - 2) = (k2 : Int) := by rw [show (k : Int) - 2 = (k2 : Int) by omega]; exact IntWalk.i64_in _ (by omega)
    have v1' : (k : Int) - 1 = (k1 : Int) := by omega
    have v2' : (k : Int) - 2 = (k2 : Int) := by omega
    have i1 : (0 : Int) < (k : Int) := by omega
    have i1n : 0 < k := by omega
    have i2 : (1 : Int) < (k : Int) := by omega
    have i3 : (k1 : Int) < (m : Int) := by omega
    have i4 : (k2 : Int) < (m : Int) := by omega
    have i5 : k1 < m := by omega
    have i6 : k2 < m := by omega
    clear HA HB e1 e2 hc hk1 hk2'
    go_enter Try.func85, Try.ntmps85
    go_wp2_with (go_at_call 41; refine (CD.out _).mono ?_; rintro e w' ⟨rfl, rfl⟩)
    go_ret
    exact ⟨by rw [HE.out]; rfl, by (repeat (first | exact Below.refl _ _ | refine Below.drew ?_ | refine belowDrewN ?_ _ | refine Below.alloc ?_ (by first | (simp; done) | (simp; omega)) _))⟩
theorem outE_eq (xs : List Int) : outE xs = if 400 < xs.length then 8 else rngE (-1000000000000000) 1000000000000000 xs := rfl
set_option maxRecDepth 100000 in
set_option maxHeartbeats 1000000 in
theorem refOutputErr_any (A : Option Addr) (n c : Nat) (xs : List Int) (w : World) (hr : RdI w A n xs) (hn : n ≤ 9223372036854775806) :
    Calls Try.prog 50 #[.slice A n c] w fun e w' => e = .returned (.int .i64 (outE xs)) ∧ w = w' := by
  have HR := Lib.hid hr
  have HE : Hid (outE xs = if 400 < n then 8 else rngE (-1000000000000000) 1000000000000000 xs) := by show _ = _; rw [outE_eq, hr.1]
  clear hr
  obtain ⟨E, hE⟩ : ∃ E, outE xs = E := ⟨_, rfl⟩
  rw [hE] at HE ⊢
  clear hE
  by_cases h4 : 400 < n
  · have h4I : (400 : Int) < (n : Int) := by omega
    have HF := HE.out
    rw [if_pos h4] at HF
    subst HF
    clear HE
    go_enter Try.func50, Try.ntmps50
    go_wp2
    go_ret
    exact ⟨rfl, rfl⟩
  · have h4I : ¬ (400 : Int) < (n : Int) := by omega
    have HF := Lib.hid HE.out
    clear HE
    have HE : Hid (E = rngE (-1000000000000000) 1000000000000000 xs) := by show _ = _; rw [HF.out, if_neg h4]
    clear HF
    go_enter Try.func50, Try.ntmps50
    go_wp2
    go_loop [3] (fun i => ∃ k : Nat, k ≤ n ∧ i = .int .i64 k ∧ Hid (rngE (-1000000000000000) 1000000000000000 xs = rngE (-1000000000000000) 1000000000000000 (xs.drop k))) (fun i => n - (intOf i).toNat)
    case atStart => exact ⟨0, Nat.zero_le _, rfl, rfl⟩
    case round =>
      obtain ⟨k, hk, rfl, HF⟩ := hrel
      by_cases hlt : k < n
      · obtain ⟨ad, ha, _, hc⟩ := HR.out.2 (by omega)
        have hck := hc k hlt
        clear hc
        subst ha
        obtain ⟨x, hx⟩ : ∃ x, xs.getD k 0 = x := ⟨_, rfl⟩
        have hs := rngE_step (-1000000000000000) 1000000000000000 xs k (by have := HR.out.1; omega)
        rw [hx] at hck hs
        have CX := Lib.hid (fun w => isNumber_any x w)
        have hrx : rngE (-1000000000000000) 1000000000000000 [x] = if fromB (-1000000000000000) 1000000000000000 [x] = true then 0 else 2 := rfl
        rw [hrx] at hs
        obtain ⟨y, hy⟩ : ∃ y, fromB (-1000000000000000) 1000000000000000 [x] = y := ⟨_, rfl⟩
        rw [hy] at hs CX
        have HS := Lib.hid hs; clear hs hx hy hrx
        have hkI : (k : Int) < (n : Int) := by omega
        cases y
        · go_wp2_with fail
          refine (CX.out _).mono ?_
          rintro e w' ⟨rfl, rfl⟩
          go_wp2
          go_ret
          exact ⟨by rw [HE.out, HF.out, HS.out]; rfl, rfl⟩
        · go_wp2_with fail
          refine (CX.out _).mono ?_
          rintro e w' ⟨rfl, rfl⟩
          go_wp2
          go_round
          case rel => exact ⟨k + 1, by omega, by go_num, by show _ = _; rw [HF.out, HS.out]; rfl⟩
          case measure => simp [intOf]; omega
      · obtain rfl : n = k := by omega
        go_wp2
        go_ret
        exact ⟨by rw [HE.out, HF.out, List.drop_eq_nil_of_le (by have := HR.out.1; omega)]; rfl, rfl⟩

end Go.Proofs.Ytghpofhpkbgckaa
