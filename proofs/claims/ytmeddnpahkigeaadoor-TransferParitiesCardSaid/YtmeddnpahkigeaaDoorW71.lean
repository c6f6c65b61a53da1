import Derived.Test.YtmeddnpahkigeaaDoorW70
import Derived.Test.YtmeddnpahkigeaaDoorW54
import Derived.Deep.MidRow
import Derived.DeepKeys
namespace Go.Proofs.YtmeddnpahkigeaaDoor
open Go.RowKit

def bkA (c h x0 x1 x2 x3 x4 x5 x6 x7 s : Int) : Array Value := #[.int .i64 c, .int .i64 h, .int .i64 x0, .int .i64 x1, .int .i64 x2, .int .i64 x3, .int .i64 x4, .int .i64 x5, .int .i64 x6, .int .i64 x7, .int .i64 s]

def Wf (x : Int) : Prop := (Lit.int .i64 x).wf = true
theorem klInt (d : Nat) (x : Int) (hx : Wf x) : Tryd.prog.keyLits (d + 1) 3 [.int .i64 x] = some [.int .i64 x] := by
  unfold Program.keyLits
  rw [underInt']
  simp [show (Lit.int .i64 x).wf = true from hx]

theorem klArr (x0 x1 x2 x3 x4 x5 x6 x7 : Int) : Tryd.prog.keyLits 9 65 [.int .i64 x0, .int .i64 x1, .int .i64 x2, .int .i64 x3, .int .i64 x4, .int .i64 x5, .int .i64 x6, .int .i64 x7]
    = (([x0, x1, x2, x3, x4, x5, x6, x7].mapM fun x => Tryd.prog.keyLits 8 3 [.int .i64 x]).map List.flatten) := by kernel_rfl
theorem klBlk (c h x0 x1 x2 x3 x4 x5 x6 x7 s : Int) : Tryd.prog.keyLits 10 67 (Value.agg (bkA c h x0 x1 x2 x3 x4 x5 x6 x7 s)).cells.toList
    = (([(3, [.int .i64 c]), (3, [.int .i64 h]), (65, [.int .i64 x0, .int .i64 x1, .int .i64 x2, .int .i64 x3, .int .i64 x4, .int .i64 x5, .int .i64 x6, .int .i64 x7]), (3, [Value.int .i64 s])].mapM fun (p : TypeId × List Value) => Tryd.prog.keyLits 9 p.1 p.2).map List.flatten) := by kernel_rfl
theorem blkKey : Tryd.prog.keyTypeAt 10 67 = true := by kernel_rfl
theorem blkFormed (c h x0 x1 x2 x3 x4 x5 x6 x7 s : Int) : (Value.agg (bkA c h x0 x1 x2 x3 x4 x5 x6 x7 s)).formed Tryd.prog 67 = true := by kernel_rfl

theorem neqB_self (c h x0 x1 x2 x3 x4 x5 x6 x7 s : Int) (hc : Wf c) (hh : Wf h) (h0 : Wf x0) (h1 : Wf x1) (h2 : Wf x2) (h3 : Wf x3) (h4 : Wf x4) (h5 : Wf x5) (h6 : Wf x6) (h7 : Wf x7) (hs : Wf s) (W : World) :
    (binOp .neq 67 (.agg (bkA c h x0 x1 x2 x3 x4 x5 x6 x7 s)) (.agg (bkA c h x0 x1 x2 x3 x4 x5 x6 x7 s))).run Tryd.prog W = .ok (.bool false) W := by
  obtain ⟨la, hla⟩ : ∃ la, Tryd.prog.keyLits 10 67 (Value.agg (bkA c h x0 x1 x2 x3 x4 x5 x6 x7 s)).cells.toList = some la := by
    rw [klBlk]
    simp only [List.mapM_cons, List.mapM_nil, klInt 8 _ hc, klInt 8 _ hh, klInt 8 _ hs, klArr, klInt 7 _ h0, klInt 7 _ h1, klInt 7 _ h2, klInt 7 _ h3, klInt 7 _ h4, klInt 7 _ h5, klInt 7 _ h6, klInt 7 _ h7]
    exact ⟨_, rfl⟩
  have hf := blkFormed c h x0 x1 x2 x3 x4 x5 x6 x7 s
  obtain ⟨r, hr, hi⟩ := run_equalIn_deep 9990 10 67 blkKey W 10 10 _ _ _ _ hf hf hla hla
  rw [run_neq_struct, hr, hi.2 rfl]
  rfl

theorem wf_of (x : Int) (h : -1000000 ≤ x ∧ x ≤ 1000000) : Wf x := by
  unfold Wf
  have e1 : IntKind.i64.min = -9223372036854775808 := by decide
  have e2 : IntKind.i64.max = 9223372036854775807 := by decide
  simp [Lit.wf]
  omega


/-- A block's numbers: counter, channel, eight samples, sum. -/
structure Bl where
  c : Int
  h : Int
  xs : List Int
  s : Int
def Bl.arr (b : Bl) : Array Value := bkA b.c b.h (b.xs.getD 0 0) (b.xs.getD 1 0) (b.xs.getD 2 0) (b.xs.getD 3 0) (b.xs.getD 4 0) (b.xs.getD 5 0) (b.xs.getD 6 0) (b.xs.getD 7 0) b.s
structure Bl.Ok (b : Bl) : Prop where
  c : -1000000 ≤ b.c ∧ b.c ≤ 1000000
  h : -1000000 ≤ b.h ∧ b.h ≤ 1000000
  x : ∀ i, i < 8 → -1000000 ≤ b.xs.getD i 0 ∧ b.xs.getD i 0 ≤ 1000000
  s : -1000000 ≤ b.s ∧ b.s ≤ 1000000
def bl0 : Bl := ⟨0, 0, [], 0⟩
theorem Bl.neq_self {b : Bl} (h : b.Ok) (W : World) : (binOp .neq 67 (.agg b.arr) (.agg b.arr)).run Tryd.prog W = .ok (.bool false) W :=
  neqB_self _ _ _ _ _ _ _ _ _ _ _ (wf_of _ h.c) (wf_of _ h.h) (wf_of _ (h.x 0 (by omega))) (wf_of _ (h.x 1 (by omega))) (wf_of _ (h.x 2 (by omega))) (wf_of _ (h.x 3 (by omega))) (wf_of _ (h.x 4 (by omega))) (wf_of _ (h.x 5 (by omega))) (wf_of _ (h.x 6 (by omega))) (wf_of _ (h.x 7 (by omega))) (wf_of _ h.s) W

/-- A slice reads as a list of blocks. -/
def RdB (w : World) (A : Option Addr) (n : Nat) (bs : List Bl) : Prop :=
  bs.length = n ∧ (0 < n → ∃ g, A = some ⟨g, 0, none⟩ ∧ g < w.heap.size ∧ ∀ j, j < n → w.rangeAt g (j * 11) (bs.getD j bl0).arr.toList)
theorem RdB.below {w w' : World} {A : Option Addr} {n : Nat} {bs : List Bl} (h : RdB w A n bs) (hb : Below w.heap.size w w') : RdB w' A n bs := by
  refine ⟨h.1, fun h0 => ?_⟩
  obtain ⟨g, hA, hg, hc⟩ := h.2 h0
  exact ⟨g, hA, Nat.lt_of_lt_of_le hg hb.size, fun j hj i v hv => (hb.cell (p := ⟨g, j * 11 + i, none⟩) hg).trans (hc j hj i v hv)⟩
theorem underBlk : Tryd.prog.underlying 67 = some (.struct (Tryd.prog.fieldsOf 67)) := by kernel_rfl
theorem infoBlk (b : Bl) : (Tryd.prog.info? 67).map (·.size) = some b.arr.toList.length := by kernel_rfl

theorem sameBlocks_any (A B : Option Addr) (n ca cb : Nat) (bs : List Bl) (w : World) (ha : RdB w A n bs) (hb : RdB w B n bs) (hok : ∀ j, j < n → (bs.getD j bl0).Ok) (hn : n ≤ 1000000) :
    Calls Tryd.prog 11 #[.slice A n ca, .slice B n cb] w fun e w' => e = .returned (.bool true) ∧ ∃ j, w' = w.drewN j := by
  have HA := Lib.hid ha; clear ha
  have HB := Lib.hid hb; clear hb
  have HO := Lib.hid hok; clear hok
  go_enter Tryd.func11, Tryd.ntmps11
  go_wp2
  go_loopw [5] (fun i wr => ∃ k : Nat, k ≤ n ∧ i = .int .i64 k ∧ Hid (∃ j, wr = w.drewN j)) (fun i _ => n - (intOf i).toNat)
  case atStart => exact ⟨0, Nat.zero_le _, rfl, 0, rfl⟩
  case round =>
    obtain ⟨k, hk, rfl, HJ⟩ := hrel
    by_cases hlt : k < n
    · obtain ⟨ga, rfl, _, hca⟩ := HA.out.2 (by omega)
      obtain ⟨gb, rfl, _, hcb⟩ := HB.out.2 (by omega)
      have r1 : wr.rangeAt ga (k * 11) (bs.getD k bl0).arr.toList := by obtain ⟨j, hj⟩ := HJ.out; rw [hj]; exact hca k hlt
      have r2 : wr.rangeAt gb (k * 11) (bs.getD k bl0).arr.toList := by obtain ⟨j, hj⟩ := HJ.out; rw [hj]; exact hcb k hlt
      have hne := Lib.hid (Bl.neq_self (HO.out k hlt))
      obtain ⟨b, hbk⟩ : ∃ b, bs.getD k bl0 = b := ⟨_, rfl⟩
      rw [hbk] at r1 r2 hne
      have p0 : wr.cell? ⟨ga, k * 11, none⟩ = some (.int .i64 b.c) := r1 0 _ rfl
      have p1 : wr.cell? ⟨ga, k * 11 + 1, none⟩ = some (.int .i64 b.h) := r1 1 _ rfl
      have p2 : wr.cell? ⟨ga, k * 11 + 2, none⟩ = some (.int .i64 (b.xs.getD 0 0)) := r1 2 _ rfl
      have p3 : wr.cell? ⟨ga, k * 11 + 3, none⟩ = some (.int .i64 (b.xs.getD 1 0)) := r1 3 _ rfl
      have p4 : wr.cell? ⟨ga, k * 11 + 4, none⟩ = some (.int .i64 (b.xs.getD 2 0)) := r1 4 _ rfl
      have p5 : wr.cell? ⟨ga, k * 11 + 5, none⟩ = some (.int .i64 (b.xs.getD 3 0)) := r1 5 _ rfl
      have p6 : wr.cell? ⟨ga, k * 11 + 6, none⟩ = some (.int .i64 (b.xs.getD 4 0)) := r1 6 _ rfl
      have p7 : wr.cell? ⟨ga, k * 11 + 7, none⟩ = some (.int .i64 (b.xs.getD 5 0)) := r1 7 _ rfl
      have p8 : wr.cell? ⟨ga, k * 11 + 8, none⟩ = some (.int .i64 (b.xs.getD 6 0)) := r1 8 _ rfl
      have p9 : wr.cell? ⟨ga, k * 11 + 9, none⟩ = some (.int .i64 (b.xs.getD 7 0)) := r1 9 _ rfl
      have p10 : wr.cell? ⟨ga, k * 11 + 10, none⟩ = some (.int .i64 b.s) := r1 10 _ rfl
      have q0 : wr.cell? ⟨gb, k * 11, none⟩ = some (.int .i64 b.c) := r2 0 _ rfl
      have q1 : wr.cell? ⟨gb, k * 11 + 1, none⟩ = some (.int .i64 b.h) := r2 1 _ rfl
      have q2 : wr.cell? ⟨gb, k * 11 + 2, none⟩ = some (.int .i64 (b.xs.getD 0 0)) := r2 2 _ rfl
      have q3 : wr.cell? ⟨gb, k * 11 + 3, none⟩ = some (.int .i64 (b.xs.getD 1 0)) := r2 3 _ rfl
      have q4 : wr.cell? ⟨gb, k * 11 + 4, none⟩ = some (.int .i64 (b.xs.getD 2 0)) := r2 4 _ rfl
      have q5 : wr.cell? ⟨gb, k * 11 + 5, none⟩ = some (.int .i64 (b.xs.getD 3 0)) := r2 5 _ rfl
      have q6 : wr.cell? ⟨gb, k * 11 + 6, none⟩ = some (.int .i64 (b.xs.getD 4 0)) := r2 6 _ rfl
      have q7 : wr.cell? ⟨gb, k * 11 + 7, none⟩ = some (.int .i64 (b.xs.getD 5 0)) := r2 7 _ rfl
      have q8 : wr.cell? ⟨gb, k * 11 + 8, none⟩ = some (.int .i64 (b.xs.getD 6 0)) := r2 8 _ rfl
      have q9 : wr.cell? ⟨gb, k * 11 + 9, none⟩ = some (.int .i64 (b.xs.getD 7 0)) := r2 9 _ rfl
      have q10 : wr.cell? ⟨gb, k * 11 + 10, none⟩ = some (.int .i64 b.s) := r2 10 _ rfl
      have hne2 : Hid (∀ W, (binOp .neq 67 (.agg #[.int .i64 b.c, .int .i64 b.h, .int .i64 (b.xs.getD 0 0), .int .i64 (b.xs.getD 1 0), .int .i64 (b.xs.getD 2 0), .int .i64 (b.xs.getD 3 0), .int .i64 (b.xs.getD 4 0), .int .i64 (b.xs.getD 5 0), .int .i64 (b.xs.getD 6 0), .int .i64 (b.xs.getD 7 0), .int .i64 b.s]) (.agg #[.int .i64 b.c, .int .i64 b.h, .int .i64 (b.xs.getD 0 0), .int .i64 (b.xs.getD 1 0), .int .i64 (b.xs.getD 2 0), .int .i64 (b.xs.getD 3 0), .int .i64 (b.xs.getD 4 0), .int .i64 (b.xs.getD 5 0), .int .i64 (b.xs.getD 6 0), .int .i64 (b.xs.getD 7 0), .int .i64 b.s])).run Tryd.prog W = .ok (.bool false) W) := hne
      clear hne r1 r2 hbk hca hcb
      obtain ⟨c, h, xs, s⟩ := b
      dsimp only at *
      generalize xs.getD 0 0 = x0 at *
      generalize xs.getD 1 0 = x1 at *
      generalize xs.getD 2 0 = x2 at *
      generalize xs.getD 3 0 = x3 at *
      generalize xs.getD 4 0 = x4 at *
      generalize xs.getD 5 0 = x5 at *
      generalize xs.getD 6 0 = x6 at *
      generalize xs.getD 7 0 = x7 at *
      have hne3 := hne2.out
      have hkI : (k : Int) < (n : Int) := by omega
      clear hne2
      go_wp2
      go_quiet (fail)
      go_wp2
      go_roundw
      case rel =>
        obtain ⟨j, hj⟩ := HJ.out
        exact ⟨k + 1, by omega, by go_num, by rw [hj]; exact ⟨_, World.drewN_drewN _ _ _⟩⟩
      case measure => simp [intOf]; omega
    · obtain rfl : n = k := by omega
      go_wp2
      go_ret
      exact ⟨rfl, HJ.out⟩

end Go.Proofs.YtmeddnpahkigeaaDoor
