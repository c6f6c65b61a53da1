import Derived.Test.YtkemoffagdilgaaGreatDoorW70
import Derived.Test.YtkemoffagdilgaaGreatDoorW54
import Derived.Deep.MidRow
import Derived.DeepKeys
namespace Go.Proofs.YtkemoffagdilgaaGreatDoor
open Go.RowKit

def bkA (c h x0 x1 x2 x3 x4 x5 x6 x7 s : Int) : Array Value := #[.int .i64 c, .int .i64 h, .int .i64 x0, .int .i64 x1, .int .i64 x2, .int .i64 x3, .int .i64 x4, .int .i64 x5, .int .i64 x6, .int .i64 x7, .int .i64 s]

def Wf (x : Int) : Prop := (Lit.int .i64 x).wf = true
theorem klInt (d : Nat) (x : Int) (hx : Wf x) : Tryz.prog.keyLits (d + 1) 3 [.int .i64 x] = some [.int .i64 x] := by
  unfold Program.keyLits
  rw [underInt']
  simp [show (Lit.int .i64 x).wf = true from hx]

theorem klArr (x0 x1 x2 x3 x4 x5 x6 x7 : Int) : Tryz.prog.keyLits 9 22 [.int .i64 x0, .int .i64 x1, .int .i64 x2, .int .i64 x3, .int .i64 x4, .int .i64 x5, .int .i64 x6, .int .i64 x7]
    = (([x0, x1, x2, x3, x4, x5, x6, x7].mapM fun x => Tryz.prog.keyLits 8 3 [.int .i64 x]).map List.flatten) := by kernel_rfl
theorem klBlk (c h x0 x1 x2 x3 x4 x5 x6 x7 s : Int) : Tryz.prog.keyLits 10 24 (Value.agg (bkA c h x0 x1 x2 x3 x4 x5 x6 x7 s)).cells.toList
    = (([(3, [.int .i64 c]), (3, [.int .i64 h]), (22, [.int .i64 x0, .int .i64 x1, .int .i64 x2, .int .i64 x3, .int .i64 x4, .int .i64 x5, .int .i64 x6, .int .i64 x7]), (3, [Value.int .i64 s])].mapM fun (p : TypeId × List Value) => Tryz.prog.keyLits 9 p.1 p.2).map List.flatten) := by kernel_rfl
theorem blkKey : Tryz.prog.keyTypeAt 10 24 = true := by kernel_rfl
theorem blkFormed (c h x0 x1 x2 x3 x4 x5 x6 x7 s : Int) : (Value.agg (bkA c h x0 x1 x2 x3 x4 x5 x6 x7 s)).formed Tryz.prog 24 = true := by kernel_rfl

theorem neqB_self (c h x0 x1 x2 x3 x4 x5 x6 x7 s : Int) (hc : Wf c) (hh : Wf h) (h0 : Wf x0) (h1 : Wf x1) (h2 : Wf x2) (h3 : Wf x3) (h4 : Wf x4) (h5 : Wf x5) (h6 : Wf x6) (h7 : Wf x7) (hs : Wf s) (W : World) :
    (binOp .neq 24 (.agg (bkA c h x0 x1 x2 x3 x4 x5 x6 x7 s)) (.agg (bkA c h x0 x1 x2 x3 x4 x5 x6 x7 s))).run Tryz.prog W = .ok (.bool false) W := by
  obtain ⟨la, hla⟩ : ∃ la, Tryz.prog.keyLits 10 24 (Value.agg (bkA c h x0 x1 x2 x3 x4 x5 x6 x7 s)).cells.toList = some la := by
    rw [klBlk]
    simp only [List.mapM_cons, List.mapM_nil, klInt 8 _ hc, klInt 8 _ hh, klInt 8 _ hs, klArr, klInt 7 _ h0, klInt 7 _ h1, klInt 7 _ h2, klInt 7 _ h3, klInt 7 _ h4, klInt 7 _ h5, klInt 7 _ h6, klInt 7 _ h7]
    exact ⟨_, rfl⟩
  have hf := blkFormed c h x0 x1 x2 x3 x4 x5 x6 x7 s
  obtain ⟨r, hr, hi⟩ := run_equalIn_deep 9990 10 24 blkKey W 10 10 _ _ _ _ hf hf hla hla
  rw [run_neq_struct, hr, hi.2 rfl]
  rfl

theorem wf_of (x : Int) (h : -1000000 ≤ x ∧ x ≤ 1000000) : Wf x := by
  unfold Wf
  have e1 : IntKind.i64.min = -9223372036854775808 := by decide
  have e2 : IntKind.i64.max = 9223372036854775807 := by decide
  simp [Lit.wf]
  omega


/-- A block's numbers: counter, channel, eight samples, sum. -/
structure Bl where
  c : Int
  h : Int
  xs : List Int
  s : Int
def Bl.arr (b : Bl) : Array Value := bkA b.c b.h (b.xs.getD 0 0) (b.xs.getD 1 0) (b.xs.getD 2 0) (b.xs.getD 3 0) (b.xs.getD 4 0) (b.xs.getD 5 0) (b.xs.getD 6 0) (b.xs.getD 7 0) b.s
structure Bl.Ok (b : Bl) : Prop where
  c : -1000000 ≤ b.c ∧ b.c ≤ 1000000
  h : -1000000 ≤ b.h ∧ b.h ≤ 1000000
  x : ∀ i, i < 8 → -1000000 ≤ b.xs.getD i 0 ∧ b.xs.getD i 0 ≤ 1000000
  s : -1000000 ≤ b.s ∧ b.s ≤ 1000000
def bl0 : Bl := ⟨0, 0, [], 0⟩
theorem Bl.neq_self {b : Bl} (h : b.Ok) (W : World) : (binOp .neq 24 (.agg b.arr) (.agg b.arr)).run Tryz.prog W = .ok (.bool false) W :=
  neqB_self _ _ _ _ _ _ _ _ _ _ _ (wf_of _ h.c) (wf_of _ h.h) (wf_of _ (h.x 0 (by omega))) (wf_of _ (h.x 1 (by omega))) (wf_of _ (h.x 2 (by omega))) (wf_of _ (h.x 3 (by omega))) (wf_of _ (h.x 4 (by omega))) (wf_of _ (h.x 5 (by omega))) (wf_of _ (h.x 6 (by omega))) (wf_of _ (h.x 7 (by omega))) (wf_of _ h.s) W

/-- A slice reads as a list of blocks. -/
def RdB (w : World) (A : Option Addr) (n : Nat) (bs : List Bl) : Prop :=
  bs.length = n ∧ (0 < n → ∃ g, A = some ⟨g, 0, none⟩ ∧ g < w.heap.size ∧ ∀ j, j < n → w.rangeAt g (j * 11) (bs.getD j bl0).arr.toList)
theorem RdB.below {w w' : World} {A : Option Addr} {n : Nat} {bs : List Bl} (h : RdB w A n bs) (hb : Below w.heap.size w w') : RdB w' A n bs := by
  refine ⟨h.1, fun h0 => ?_⟩
  obtain ⟨g, hA, hg, hc⟩ := h.2 h0
  exact ⟨g, hA, Nat.lt_of_lt_of_le hg hb.size, fun j hj i v hv => (hb.cell (p := ⟨g, j * 11 + i, none⟩) hg).trans (hc j hj i v hv)⟩
theorem underBlk : Tryz.prog.underlying 24 = some (.struct (Tryz.prog.fieldsOf 24)) := by kernel_rfl
theorem infoBlk (b : Bl) : (Tryz.prog.info? 24).map (·.size) = some b.arr.toList.length := by kernel_rfl

end Go.Proofs.YtkemoffagdilgaaGreatDoor
