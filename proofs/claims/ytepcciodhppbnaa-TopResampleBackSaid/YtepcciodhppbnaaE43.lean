import Derived.Test.YtepcciodhppbnaaS6

namespace Go.Proofs.Ytepcciodhppbnaa
open Go.RowKit

theorem grownBy_setCellG (W : World) (a : Addr) (v : Value) : W.grownBy (W.setCell a v) (some a.block) :=
  ⟨rfl, rfl, rfl, (KeepsWalks.setCell W _ v).size, fun k _ hk => Below.heap_setCell _ _ _ k (fun e => hk (by rw [e]))⟩
theorem step_append_at {P : Program} (w : World) {ops : Array Oper} {o : Oper} {a : Act} {K : Act → World → Prop} {Q : Exit → Act → World → Prop} {E : Prop} (hgd : o.guard = none) (s x : Operand) (t : TypeId)
    (ho : o.op = .call { callee := .builtin .append, args := #[s, x], argTypes := #[t, t] })
    (base : Nat) (e : TypeId) (i : TypeInfo) (z : Value) (size bytes : Nat) (ht : P.underlying t = some (.slice e)) (hi : P.info? e = some i) (hz : i.zero = some z)
    (hsize : i.size = size) (hby : i.bytes = bytes) (hzs : z.cells.size = size) (hsz : 0 < size)
    (v : Value) (n : Nat) (xs : List Value) (hs : a.eval s = v) (hown : w.ownsRow base e size v n xs)
    (ad : Addr) (m c : Nat) (news : List Value) (hx : a.eval x = .slice (some ad) m c) (hl : news.length = m * size) (hnews : ∀ j u, news[j]? = some u → w.cell? (ad.add j) = some u) (h1 : ∀ u ∈ news, u.oneCell' = true)
    (h63 : n + m ≤ maxLen) (hbytes : (n + m) * bytes ≤ 140737488355328) (hbase : base ≤ w.heap.size)
    (h : ∀ v' w', w'.ownsRow base e size v' (n + m) (xs ++ news) → w.grownBy w' v.ownBlock → (v' = .slice none 0 0 ↔ v = .slice none 0 0 ∧ m = 0) → (v'.ownBlock = v.ownBlock ∨ v'.ownBlock = some w.heap.size) → K (a.put o.dst v') w') :
    if Region.wanted o (yielded ops a.tmps) = true then Oper.wp P o a w K Q else E := by
  have hw : Region.wanted o (yielded ops a.tmps) = true := by simp [Region.wanted, hgd]
  rw [if_pos hw]
  obtain ⟨v', w', hr, h2, h3, h4, h5⟩ := run_append_own_at (P := P) w base t o.type e i z size bytes ht hi hz hsize hby hzs hsz v n xs hown ad m c news hl hnews h1 h63 hbytes hbase
  unfold Oper.wp execOp
  simp only [ho, resolve, invoke, builtin, Sem.run_bind, Sem.run_pure, Result.andThen_ok, List.map_toArray, List.map_cons, List.map_nil, hs, hx, hr]
  exact h v' w' h2 h3 h4 h5


theorem ownFar {w : World} {base t size k : Nat} {x : Value} {xs : List Value} (ho : w.ownsRow base t size x k xs) (a : Addr) (u : Value) (ha : a.block < base) : (w.setCell a u).ownsRow base t size x k xs :=
  ho.kept (grownBy_setCellG w a u) (by
    cases hb : x.ownBlock with
    | none => exact .inl rfl
    | some g => exact .inr (by intro e; injection e with e; have := (ho.lt g hb).1; omega))
/-- The last output but i. -/
def backF (ys : List Int) (k i : Nat) : Int := if i ≤ k then ys.getD (k - i) 0 else 0
theorem backF_bd {ys : List Int} {A : Int} (hA : 0 ≤ A) (h : ∀ y ∈ ys, -A ≤ y ∧ y ≤ A) (k i : Nat) : -A ≤ backF ys k i ∧ backF ys k i ≤ A := by
  unfold backF
  split
  · exact getD_bd hA h _
  · omega
theorem outE_eq (xs : List Int) : outE xs = if 400 < xs.length then 8 else rngE (-1000000000000000) 1000000000000000 xs := rfl
end Go.Proofs.Ytepcciodhppbnaa
