import Derived.Test.YtnmfeonagigkeaaR3
import Derived.Test.YtnmfeonagigkeaaR4
import Derived.Test.YtnmfeonagigkeaaH5
import Derived.RangeFuncBox
import Derived.Maps.AppendAt
namespace Go.Proofs.Ytnmfeonagigkeaa
open Go.RowKit Go.Shelf
attribute [local go_sem] Oper.semAt_some

theorem SeqRuns.sub {α : Type} {F : Fence} {n : Nat} {P : Program} {g : Nat} {lb : Array Value} {encs : α → Array Value} {full : List α} {T0 : Nat → Prop} {w : World}
    (h : SeqRuns F n P g lb encs (fun ys => ys = full) (fun l => l <+: full) T0 w) :
    SeqRuns F n P g lb (fun x : { x : α // x ∈ full } => encs x.1) (fun ys => ys.map (·.1) = full) (fun l => l.map (·.1) <+: full) T0 w := by
  intro l J W hW hsz hnew hput hdrew hY h0
  refine (h l (fun T pre A => ∃ q : List { x : α // x ∈ full }, q.map (·.1) = pre ∧ J T q A) W hW ?_ ?_ ?_ ?_ ?_ ⟨[], rfl, h0⟩).mono ?_
  · rintro T s A ⟨q, _, hq⟩; exact hsz _ _ _ hq
  · rintro T s A o ⟨q, e, hq⟩; exact ⟨q, e, hnew _ _ _ _ hq⟩
  · rintro T s A a v ⟨q, e, hq⟩ ht; exact ⟨q, e, hput _ _ _ _ _ hq ht⟩
  · rintro T s A ⟨q, e, hq⟩; exact ⟨q, e, hdrew _ _ _ hq⟩
  · rintro T pre x A ⟨q, rfl, hq⟩ hp
    have hx : x ∈ full := hp.subset (show x ∈ q.map (·.1) ++ [x] by simp)
    refine (hY T q ⟨x, hx⟩ A hq (by simpa using hp)).mono ?_
    rintro e A' ⟨he, hj, ht⟩
    exact ⟨he, ⟨_, by simp, hj⟩, ht⟩
  · rintro e W' ⟨hv, T, xs, hx, q, hq, hj⟩
    exact ⟨hv, T, q, hq.trans hx, hj⟩

theorem grownBy_setCellG (W : World) (a : Addr) (v : Value) : W.grownBy (W.setCell a v) (some a.block) :=
  ⟨rfl, rfl, rfl, (KeepsWalks.setCell W _ v).size, fun k _ hk => Below.heap_setCell _ _ _ k (fun e => hk (by rw [e]))⟩

/-- The value of a pixel. -/
def pix (rows : List (List Int)) (p : Int × Int) : Int := (rows.getD p.2.toNat []).getD p.1.toNat 0

theorem intInfo : (Try.prog.info? 3).map (fun i => (i.zero, i.size, i.bytes)) = some (some (.int .i64 0), 1, 8) := by kernel_rfl

theorem step_append_at {P : Program} (w : World) {ops : Array Oper} {o : Oper} {a : Act} {K : Act → World → Prop} {Q : Exit → Act → World → Prop} {E : Prop} (hgd : o.guard = none) (s x : Operand) (t : TypeId)
    (ho : o.op = .call { callee := .builtin .append, args := #[s, x], argTypes := #[t, t] })
    (base : Nat) (e : TypeId) (i : TypeInfo) (z : Value) (size bytes : Nat) (ht : P.underlying t = some (.slice e)) (hi : P.info? e = some i) (hz : i.zero = some z)
    (hsize : i.size = size) (hby : i.bytes = bytes) (hzs : z.cells.size = size) (hsz : 0 < size)
    (v : Value) (n : Nat) (xs : List Value) (hs : a.eval s = v) (hown : w.ownsRow base e size v n xs)
    (ad : Addr) (m c : Nat) (news : List Value) (hx : a.eval x = .slice (some ad) m c) (hl : news.length = m * size) (hnews : ∀ j u, news[j]? = some u → w.cell? (ad.add j) = some u) (h1 : ∀ u ∈ news, u.oneCell' = true)
    (h63 : n + m ≤ maxLen) (hbytes : (n + m) * bytes ≤ 140737488355328) (hbase : base ≤ w.heap.size)
    (h : ∀ v' w', w'.ownsRow base e size v' (n + m) (xs ++ news) → w.grownBy w' v.ownBlock → (v' = .slice none 0 0 ↔ v = .slice none 0 0 ∧ m = 0) → (v'.ownBlock = v.ownBlock ∨ v'.ownBlock = some w.heap.size) → K (a.put o.dst v') w') :
    if Region.wanted o (yielded ops a.tmps) = true then Oper.wp P o a w K Q else E := by
  have hw : Region.wanted o (yielded ops a.tmps) = true := by simp [Region.wanted, hgd]
  rw [if_pos hw]
  obtain ⟨v', w', hr, h2, h3, h4, h5⟩ := run_append_own_at (P := P) w base t o.type e i z size bytes ht hi hz hsize hby hzs hsz v n xs hown ad m c news hl hnews h1 h63 hbytes hbase
  unfold Oper.wp execOp
  simp only [ho, resolve, invoke, builtin, Sem.run_bind, Sem.run_pure, Result.andThen_ok, List.map_toArray, List.map_cons, List.map_nil, hs, hx, hr]
  exact h v' w' h2 h3 h4 h5

theorem cellG {W W' : World} {a : Addr} {v : Value} {row : Option Nat} (h : W.cell? a = some v) (hg : W.grownBy W' row) (hne : row ≠ some a.block) : W'.cell? a = some v :=
  (World.cell?_of_block (hg.block a.block (World.block_lt_of_cell? _ a h) (fun e => hne e.symm))).trans h

abbrev RPt (cx cy : Int) (r : Nat) := { p : Int × Int // p ∈ ringTo cx cy r 5 }
def RowT (T : Nat → Prop) (v : Value) : Prop := ∀ r, T r → v.ownBlock ≠ some r
end Go.Proofs.Ytnmfeonagigkeaa
