import Derived.Test.YtpkjkegcdddimaaDoorGM
namespace Go.Proofs.YtpkjkegcdddimaaDoor
open Go.RowKit

theorem RowsZ.one {W : World} {base : Nat} {v u : Value} {xs ys : List Int} (h : RowsZ W base [(v, xs), (u, ys)]) : W.ownsRow base 3 1 v xs.length (xs.map (Value.int .i64)) := h.1 (v, xs) (by simp)
theorem RowsZ.two {W : World} {base : Nat} {v u : Value} {xs ys : List Int} (h : RowsZ W base [(v, xs), (u, ys)]) : W.ownsRow base 3 1 u ys.length (ys.map (Value.int .i64)) := h.1 (u, ys) (by simp)
theorem own_formZ {w : World} {base size n : Nat} {t : TypeId} {v : Value} {xs : List Value} (h : w.ownsRow base t size v n xs) : ∃ A cap, v = .slice A n cap ∧ (0 < n → ∃ g, A = some ⟨g, 0, none⟩) := by
  rcases h.2 with ⟨rfl, rfl⟩ | ⟨g, cap, cur, rfl, _⟩
  · exact ⟨none, 0, rfl, fun h => absurd h (by omega)⟩
  · exact ⟨_, cap, rfl, fun _ => ⟨g, rfl⟩⟩
theorem step_store_row {P : Program} (w : World) {ops : Array Oper} {o : Oper} {a : Act} {K : Act → World → Prop} {Q : Exit → Act → World → Prop} {E : Prop} (hgd : o.guard = none) (ty : TypeId) (x y : Operand) (ho : o.op = .store ty x y)
    (g : Nat) (cells : Array Value) (hx : a.eval x = .pointer (some ⟨g, 0, none⟩)) (hy : a.eval y = .agg cells)
    (t : TypeId) (old : Array Value) (hg : w.heap[g]? = some (.cells old t (0, 0))) (hi : (P.info? ty).map (·.size) = some cells.size)
    (hold : old.size = cells.size) (h1 : cells.all (·.oneCell') = true) (h : K (a.put o.dst undef) (w.setRow g cells)) :
    if Region.wanted o (yielded ops a.tmps) = true then Oper.wp P o a w K Q else E := by
  have hw : Region.wanted o (yielded ops a.tmps) = true := by simp [Region.wanted, hgd]
  rw [if_pos hw]
  exact wp_store_row ty x y ho g cells hx hy t old hg hi hold h1 h
def cenV (L : List (Int × Int)) : Array Value := if L.length = 0 then #[.int .i64 0, .int .i64 0, .int .i64 0, .int .i64 0, .int .i64 0, .int .i64 0] else #[.int .i64 (hdA L).1, .int .i64 (hdA L).2, .int .i64 (mnA Prod.fst L), .int .i64 (mxA Prod.fst L), .int .i64 (mnA Prod.snd L), .int .i64 (mxA Prod.snd L)]
def cenL (ps : List (Int × Int)) (rl rh xl xh yl yh : Int) : List (Int × Int) := allL (fitB ps rl rh) xl yl (yh - yl + 1).toNat (xh - xl + 1).toNat

set_option maxRecDepth 100000 in
set_option maxHeartbeats 4000000 in
theorem centers_bad (A : Option Addr) (n c : Nat) (rl rh xl xh yl yh : Int) (ps : List (Int × Int)) (w : World) (hr : RdP w A n ps) (hn : n ≤ 1000000) (E : Int) (hE : circE ps rl rh xl xh yl yh = E) (h0 : E ≠ 0) :
    Calls Tryd.prog 14 #[.agg #[.slice A n c, .int .i64 rl, .int .i64 rh, .int .i64 xl, .int .i64 xh, .int .i64 yl, .int .i64 yh]] w fun e w' => e = .returned (.tuple #[.agg (#[.int .i64 0, .int .i64 0, .int .i64 0, .int .i64 0, .int .i64 0, .int .i64 0]), .int .i64 (E)]) ∧ Below w.heap.size w w' := by
  obtain ⟨W1, hW1⟩ : ∃ W, (w.alloc (.cells #[.slice A n c, .int .i64 rl, .int .i64 rh, .int .i64 xl, .int .i64 xh, .int .i64 yl, .int .i64 yh] 39)).alloc (.cells #[.int .i64 0, .int .i64 0, .int .i64 0, .int .i64 0, .int .i64 0, .int .i64 0] 44) = W := ⟨_, rfl⟩
  have hb1 : Below w.heap.size w W1 := by rw [← hW1]; exact ((Below.refl _ _).alloc (Nat.le_refl _) _).alloc (by simp) _
  have k0 : Bk W1 w.heap.size 39 #[.slice A n c, .int .i64 rl, .int .i64 rh, .int .i64 xl, .int .i64 xh, .int .i64 yl, .int .i64 yh] := by rw [← hW1]; exact (Bk.new w 39 #[.slice A n c, .int .i64 rl, .int .i64 rh, .int .i64 xl, .int .i64 xh, .int .i64 yl, .int .i64 yh]).alloc _
  have k1 : Bk W1 (w.heap.size + 1) 44 #[.int .i64 0, .int .i64 0, .int .i64 0, .int .i64 0, .int .i64 0, .int .i64 0] := by
    rw [← hW1]
    have := Bk.new (w.alloc (.cells #[.slice A n c, .int .i64 rl, .int .i64 rh, .int .i64 xl, .int .i64 xh, .int .i64 yl, .int .i64 yh] 39)) 44 #[.int .i64 0, .int .i64 0, .int .i64 0, .int .i64 0, .int .i64 0, .int .i64 0]
    simpa using this
  have HK : Hid (∀ W, Below W1.heap.size W1 W → (W.cell? ⟨w.heap.size, 0, none⟩ = some (.slice A n c) ∧ W.cell? ⟨w.heap.size, 1, none⟩ = some (.int .i64 rl) ∧ W.cell? ⟨w.heap.size, 2, none⟩ = some (.int .i64 rh) ∧ W.cell? ⟨w.heap.size, 3, none⟩ = some (.int .i64 xl) ∧ W.cell? ⟨w.heap.size, 4, none⟩ = some (.int .i64 xh) ∧ W.cell? ⟨w.heap.size, 5, none⟩ = some (.int .i64 yl) ∧ W.cell? ⟨w.heap.size, 6, none⟩ = some (.int .i64 yh)) ∧ Bk W (w.heap.size + 1) 44 #[.int .i64 0, .int .i64 0, .int .i64 0, .int .i64 0, .int .i64 0, .int .i64 0]) := fun W hb => by
    have h0 := k0.later hb
    exact ⟨⟨by rw [h0.cell]; rfl, by rw [h0.cell]; rfl, by rw [h0.cell]; rfl, by rw [h0.cell]; rfl, by rw [h0.cell]; rfl, by rw [h0.cell]; rfl, by rw [h0.cell]; rfl⟩, k1.later hb⟩
  have HR1 := Lib.hid (hr.below hb1)
  have HB1 := Lib.hid hb1
  have hsz1 : w.heap.size + 2 = W1.heap.size := by rw [← hW1]; simp
  have HS1 := Lib.hid hsz1
  have CC := Lib.hid (fun W (h : RdP W A n ps) => checkCircle_any A n c rl rh xl xh yl yh ps W h hn)
  have h0b : (E != 0) = true := by simpa using h0
  rw [hE] at CC
  clear hr hb1 k0 k1 hsz1 hE h0
  go_enter Tryd.func14, Tryd.ntmps14
  go_upto_region 1 with (fail)
  try rw [hW1]
  clear hW1
  obtain ⟨⟨c0, c1, c2, c3, c4, c5, c6⟩, HZ⟩ := HK.out _ (Below.refl _ _)
  replace HZ := Lib.hid HZ
  go_wp2_with fail
  refine (CC.out _ HR1.out).mono ?_
  rintro e w2 ⟨rfl, hb2⟩
  have HB2 : Hid (Below W1.heap.size W1 w2) := Lib.hid hb2
  have HBW2 : Hid (Below w.heap.size w w2) := Lib.hid (HB1.out.trans (hb2.mono HB1.out.size))
  clear hb2 c0 c1 c2 c3 c4 c5 c6 HZ
  obtain ⟨⟨c0, c1, c2, c3, c4, c5, c6⟩, HZ⟩ := HK.out _ (HB2.out)
  replace HZ := Lib.hid HZ
  have hI : Hid ((Tryd.prog.info? 44).map (·.size) = some (#[.int .i64 0, .int .i64 0, .int .i64 0, .int .i64 0, .int .i64 0, .int .i64 0] : Array Value).size) := Lib.hid (by kernel_rfl)
  have hS : Hid ((#[.int .i64 0, .int .i64 0, .int .i64 0, .int .i64 0, .int .i64 0, .int .i64 0] : Array Value).size = (#[.int .i64 0, .int .i64 0, .int .i64 0, .int .i64 0, .int .i64 0, .int .i64 0] : Array Value).size ∧ True) := Lib.hid ⟨rfl, trivial⟩
  have hO : Hid ((#[.int .i64 0, .int .i64 0, .int .i64 0, .int .i64 0, .int .i64 0, .int .i64 0] : Array Value).all (·.oneCell') = true) := Lib.hid (by simp [Value.oneCell'])
  have H5 : Hid (Bk (w2.setRow (w.heap.size + 1) #[.int .i64 0, .int .i64 0, .int .i64 0, .int .i64 0, .int .i64 0, .int .i64 0]) (w.heap.size + 1) 44 #[.int .i64 0, .int .i64 0, .int .i64 0, .int .i64 0, .int .i64 0, .int .i64 0]) := setRow_heap w2 (w.heap.size + 1) _ #[.int .i64 0, .int .i64 0, .int .i64 0, .int .i64 0, .int .i64 0, .int .i64 0] _ _ HZ.out
  go_wp2_with (with_reducible refine wpList_store_row rfl 44 (.tmp 2) (.tmp 15) rfl (w.heap.size + 1) #[.int .i64 0, .int .i64 0, .int .i64 0, .int .i64 0, .int .i64 0, .int .i64 0] rfl rfl 44 #[.int .i64 0, .int .i64 0, .int .i64 0, .int .i64 0, .int .i64 0, .int .i64 0] HZ.out.heap hI.out rfl hO.out ?_)
  refine bodyPost_ret (v := .tuple #[.agg #[.int .i64 0, .int .i64 0, .int .i64 0, .int .i64 0, .int .i64 0, .int .i64 0], .int .i64 (E)]) ?_ rfl ⟨rfl, below_setRow HBW2.out (by omega) _⟩
  exact results_cell_tmp (fn := Tryd.f14) rfl _ _ (w.heap.size + 1) 44 #[.int .i64 0, .int .i64 0, .int .i64 0, .int .i64 0, .int .i64 0, .int .i64 0] (0, 0) _ rfl H5.out Tryd.underlying44 rfl (by kernel_rfl)

set_option maxRecDepth 100000 in
set_option maxHeartbeats 4000000 in
theorem centers_ok (A : Option Addr) (n c : Nat) (rl rh xl xh yl yh : Int) (ps : List (Int × Int)) (w : World) (hr : RdP w A n ps) (hn : n ≤ 1000000) (hE : circE ps rl rh xl xh yl yh = 0) :
    Calls Tryd.prog 14 #[.agg #[.slice A n c, .int .i64 rl, .int .i64 rh, .int .i64 xl, .int .i64 xh, .int .i64 yl, .int .i64 yh]] w fun e w' => e = .returned (.tuple #[.agg (cenV (cenL ps rl rh xl xh yl yh)), .int .i64 (if (cenL ps rl rh xl xh yl yh).length = 0 then 12 else 0)]) ∧ Below w.heap.size w w' := by
  obtain ⟨W1, hW1⟩ : ∃ W, (w.alloc (.cells #[.slice A n c, .int .i64 rl, .int .i64 rh, .int .i64 xl, .int .i64 xh, .int .i64 yl, .int .i64 yh] 39)).alloc (.cells #[.int .i64 0, .int .i64 0, .int .i64 0, .int .i64 0, .int .i64 0, .int .i64 0] 44) = W := ⟨_, rfl⟩
  have hb1 : Below w.heap.size w W1 := by rw [← hW1]; exact ((Below.refl _ _).alloc (Nat.le_refl _) _).alloc (by simp) _
  have k0 : Bk W1 w.heap.size 39 #[.slice A n c, .int .i64 rl, .int .i64 rh, .int .i64 xl, .int .i64 xh, .int .i64 yl, .int .i64 yh] := by rw [← hW1]; exact (Bk.new w 39 #[.slice A n c, .int .i64 rl, .int .i64 rh, .int .i64 xl, .int .i64 xh, .int .i64 yl, .int .i64 yh]).alloc _
  have k1 : Bk W1 (w.heap.size + 1) 44 #[.int .i64 0, .int .i64 0, .int .i64 0, .int .i64 0, .int .i64 0, .int .i64 0] := by
    rw [← hW1]
    have := Bk.new (w.alloc (.cells #[.slice A n c, .int .i64 rl, .int .i64 rh, .int .i64 xl, .int .i64 xh, .int .i64 yl, .int .i64 yh] 39)) 44 #[.int .i64 0, .int .i64 0, .int .i64 0, .int .i64 0, .int .i64 0, .int .i64 0]
    simpa using this
  have HK : Hid (∀ W, Below W1.heap.size W1 W → (W.cell? ⟨w.heap.size, 0, none⟩ = some (.slice A n c) ∧ W.cell? ⟨w.heap.size, 1, none⟩ = some (.int .i64 rl) ∧ W.cell? ⟨w.heap.size, 2, none⟩ = some (.int .i64 rh) ∧ W.cell? ⟨w.heap.size, 3, none⟩ = some (.int .i64 xl) ∧ W.cell? ⟨w.heap.size, 4, none⟩ = some (.int .i64 xh) ∧ W.cell? ⟨w.heap.size, 5, none⟩ = some (.int .i64 yl) ∧ W.cell? ⟨w.heap.size, 6, none⟩ = some (.int .i64 yh)) ∧ Bk W (w.heap.size + 1) 44 #[.int .i64 0, .int .i64 0, .int .i64 0, .int .i64 0, .int .i64 0, .int .i64 0]) := fun W hb => by
    have h0 := k0.later hb
    exact ⟨⟨by rw [h0.cell]; rfl, by rw [h0.cell]; rfl, by rw [h0.cell]; rfl, by rw [h0.cell]; rfl, by rw [h0.cell]; rfl, by rw [h0.cell]; rfl, by rw [h0.cell]; rfl⟩, k1.later hb⟩
  have HR1 := Lib.hid (hr.below hb1)
  have HB1 := Lib.hid hb1
  have hsz1 : w.heap.size + 2 = W1.heap.size := by rw [← hW1]; simp
  have HS1 := Lib.hid hsz1
  have CC := Lib.hid (fun W (h : RdP W A n ps) => checkCircle_any A n c rl rh xl xh yl yh ps W h hn)
  obtain ⟨hg0, hg1, hg2, hg3, hg4⟩ := circ_ok hE
  rw [hr.1] at hg0 hg1
  have CM : Hid (∀ x y : Int, (xl ≤ x ∧ x ≤ xh) → (yl ≤ y ∧ y ≤ yh) → ∀ W, RdP W A n ps → Calls Tryd.prog 41 #[.agg #[.slice A n c, .int .i64 rl, .int .i64 rh, .int .i64 xl, .int .i64 xh, .int .i64 yl, .int .i64 yh], .agg #[.int .i64 x, .int .i64 y]] W fun e w' => e = .returned (.tuple #[.int .i64 (misI rl rh ps (x, y)), .bool (decide (0 ≤ misI rl rh ps (x, y)))]) ∧ Below W.heap.size W w') := Lib.hid (fun x y hx hy W h => misfit_any A n c rl rh xl xh yl yh ps x y W h hn hg1 (by omega) (by omega))
  rw [hE] at CC
  obtain ⟨nx, hnx⟩ : ∃ k, (xh - xl + 1).toNat = k := ⟨_, rfl⟩
  obtain ⟨ny, hny⟩ : ∃ k, (yh - yl + 1).toNat = k := ⟨_, rfl⟩
  have hcl : cenL ps rl rh xl xh yl yh = allL (fitB ps rl rh) xl yl ny nx := by unfold cenL; rw [hnx, hny]
  obtain ⟨LL, hLL⟩ : ∃ L, cenL ps rl rh xl xh yl yh = L := ⟨_, rfl⟩
  rw [hLL] at hcl ⊢
  obtain ⟨CV0, hCV⟩ : ∃ z, cenV LL = z := ⟨_, rfl⟩
  obtain ⟨EV, hEV⟩ : ∃ z : Int, (if LL.length = 0 then 12 else 0) = z := ⟨_, rfl⟩
  rw [hCV, hEV]
  have HCV := Lib.hid hCV
  have HEV := Lib.hid hEV
  clear hCV hEV
  have HCL := Lib.hid hcl
  have hb1' : xl + (nx : Int) = xh + 1 ∧ yl + (ny : Int) = yh + 1 := by omega
  have hb2 : nx ≤ 30 ∧ ny ≤ 30 := by omega
  obtain ⟨i0, hi0, hz0, hz1, hz2⟩ := info_parts intInfo'
  clear hr hb1 k0 k1 hsz1 hE hLL hcl hg1 hnx hny
  go_enter Tryd.func14, Tryd.ntmps14
  go_upto_region 1 with (fail)
  try rw [hW1]
  clear hW1
  obtain ⟨⟨c0, c1, c2, c3, c4, c5, c6⟩, HZ⟩ := HK.out _ (Below.refl _ _)
  replace HZ := Lib.hid HZ
  go_wp2_with fail
  refine (CC.out _ HR1.out).mono ?_
  rintro e w2 ⟨rfl, hbq⟩
  have HB2 : Hid (Below W1.heap.size W1 w2) := Lib.hid hbq
  have HBW2 : Hid (Below w.heap.size w w2) := Lib.hid (HB1.out.trans (hbq.mono HB1.out.size))
  clear hbq c0 c1 c2 c3 c4 c5 c6 HZ
  obtain ⟨⟨c0, c1, c2, c3, c4, c5, c6⟩, HZ⟩ := HK.out _ (HB2.out)
  replace HZ := Lib.hid HZ
  have hn0 : 0 < n := hg0.1
  go_upto_region 5 with (fail)
  obtain ⟨gB, hgB⟩ : ∃ g, w2.heap.size = g := ⟨_, rfl⟩
  have HK2 : Hid (∀ W, Below gB w2 W → ((W.cell? ⟨w.heap.size, 0, none⟩ = some (.slice A n c) ∧ W.cell? ⟨w.heap.size, 1, none⟩ = some (.int .i64 rl) ∧ W.cell? ⟨w.heap.size, 2, none⟩ = some (.int .i64 rh) ∧ W.cell? ⟨w.heap.size, 3, none⟩ = some (.int .i64 xl) ∧ W.cell? ⟨w.heap.size, 4, none⟩ = some (.int .i64 xh) ∧ W.cell? ⟨w.heap.size, 5, none⟩ = some (.int .i64 yl) ∧ W.cell? ⟨w.heap.size, 6, none⟩ = some (.int .i64 yh)) ∧ Bk W (w.heap.size + 1) 44 #[.int .i64 0, .int .i64 0, .int .i64 0, .int .i64 0, .int .i64 0, .int .i64 0]) ∧ Below w.heap.size w W ∧ RdP W A n ps) := Lib.hid (fun W hb => by
    rw [← hgB] at hb
    have h1 := HB2.out.trans (hb.mono HB2.out.size)
    exact ⟨HK.out W h1, HB1.out.trans (h1.mono HB1.out.size), HR1.out.below h1⟩)
  have HGB : Hid (w.heap.size + 2 ≤ gB) := Lib.hid (by have := HB2.out.size; have := HS1.out; omega)
  have HGE : Hid (w2.heap.size = gB) := Lib.hid hgB
  clear hgB HK HR1 HB1 HS1 HB2 HBW2 CC
  go_wp2
  go_loopw [5, 6, 7] (fun xs ys xv wr => ∃ a : Nat, a ≤ nx ∧ xv = .int .i64 (xl + (a : Int)) ∧ Hid (RowsZ wr gB [(xs, (allL (fitB ps rl rh) xl yl ny a).map Prod.fst), (ys, (allL (fitB ps rl rh) xl yl ny a).map Prod.snd)]) ∧ Hid (Below gB w2 wr)) (fun _ _ xv _ => (xh + 1 - intOf xv).toNat)
  case atStart => exact ⟨0, Nat.zero_le _, by simp, ⟨fun p hp => by simp at hp; rcases hp with rfl | rfl <;> exact World.ownsRow_nil _ _ _ _, by simp [Value.ownBlock]⟩, by rw [HGE.out.symm]; exact Below.refl _ _⟩
  case round =>
    obtain ⟨a, ha, rfl, HRZ, HB⟩ := hrel
    obtain ⟨LA, hLA⟩ : ∃ L, allL (fitB ps rl rh) xl yl ny a = L := ⟨_, rfl⟩
    have hlA := allL_length (fitB ps rl rh) xl yl ny hb2.2 a
    rw [hLA] at HRZ hlA
    have HLA := Lib.hid hLA
    clear hLA
    obtain ⟨x, hx⟩ : ∃ x, xl + (a : Int) = x := ⟨_, rfl⟩
    rw [hx]
    obtain ⟨⟨c0, c1, c2, c3, c4, c5, c6⟩, HZ⟩ := ((HK2.out _ HB.out).1)
    replace HZ := Lib.hid HZ
    by_cases hlt : a < nx
    · have hxI : x ≤ xh := by omega
      have hxw : IntKind.i64.wrap (x + 1) = x + 1 := IntWalk.i64_in _ (by omega)
      go_wp2
      go_loopw [5, 6, 8] (fun xs' ys' yv wq => ∃ k : Nat, k ≤ ny ∧ yv = .int .i64 (yl + (k : Int)) ∧ Hid (RowsZ wq gB [(xs', (LA ++ colL (fitB ps rl rh) x yl k).map Prod.fst), (ys', (LA ++ colL (fitB ps rl rh) x yl k).map Prod.snd)]) ∧ Hid (Below gB w2 wq)) (fun _ _ yv _ => (yh + 1 - intOf yv).toNat)
      case atStart => exact ⟨0, Nat.zero_le _, by simp, by show RowsZ _ _ _; simp only [colL, List.append_nil]; exact HRZ.out, HB.out⟩
      case round =>
        clear HRZ HB c0 c1 c2 c3 c4 c5 c6 HZ
        obtain ⟨k, hk, rfl, HRZ, HB⟩ := hrel
        obtain ⟨y, hy⟩ : ∃ y, yl + (k : Int) = y := ⟨_, rfl⟩
        rw [hy]
        obtain ⟨⟨c0, c1, c2, c3, c4, c5, c6⟩, HZ⟩ := ((HK2.out _ HB.out).1)
        replace HZ := Lib.hid HZ
        have hll : (LA ++ colL (fitB ps rl rh) x yl k).length ≤ 930 := by have := colL_length (fitB ps rl rh) x yl k; rw [List.length_append]; omega
        by_cases hltk : k < ny
        · have hyI : y ≤ yh := by omega
          have hyw : IntKind.i64.wrap (y + 1) = y + 1 := IntWalk.i64_in _ (by omega)
          have hcol : colL (fitB ps rl rh) x yl (k + 1) = if fitB ps rl rh (x, y) = true then colL (fitB ps rl rh) x yl k ++ [(x, y)] else colL (fitB ps rl rh) x yl k := by rw [← hy]; rfl
          have CMx := Lib.hid (CM.out x y (by omega) (by omega) _ (HK2.out _ HB.out).2.2)
          have hfb : fitB ps rl rh (x, y) = decide (misI rl rh ps (x, y) = -1) := rfl
          have hmb := fstF_bd (offB rl rh ps (x, y)) ps.length
          rw [show fstF (offB rl rh ps (x, y)) ps.length = misI rl rh ps (x, y) from rfl] at hmb
          obtain ⟨I, hI⟩ : ∃ z, misI rl rh ps (x, y) = z := ⟨_, rfl⟩
          rw [hI] at CMx hfb hmb
          clear hI
          by_cases h0 : 0 ≤ I
          · have hd0 : decide (0 ≤ I) = true := decide_eq_true h0
            rw [hfb, decide_eq_false (by omega), if_neg (by decide)] at hcol
            rw [hd0] at CMx
            have HCOL := Lib.hid hcol
            clear hcol hfb hmb
            go_wp2_with fail
            refine CMx.out.mono ?_
            rintro e w3 ⟨rfl, hb3⟩
            have HRZ3 := Lib.hid (HRZ.out.later hb3)
            have HB3 := Lib.hid (HB.out.trans (hb3.mono (by have := HB.out.size; have := HGE.out; omega)))
            clear hb3 c0 c1 c2 c3 c4 c5 c6 HZ
            go_wp2
            go_roundw
            case rel => exact ⟨k + 1, by omega, by rw [show yl + ((k + 1 : Nat) : Int) = y + 1 by omega], by rw [HCOL.out]; exact HRZ3.out, HB3.out⟩
            case measure => simp [intOf]; omega
          · have hd0 : decide (0 ≤ I) = false := decide_eq_false h0
            rw [hfb, decide_eq_true (by omega), if_pos rfl] at hcol
            rw [hd0] at CMx
            have HCX : Hid ((LA ++ colL (fitB ps rl rh) x yl (k + 1)).map Prod.fst = (LA ++ colL (fitB ps rl rh) x yl k).map Prod.fst ++ [x]) := Lib.hid (by rw [hcol, ← List.append_assoc, List.map_append]; rfl)
            have HCY : Hid ((LA ++ colL (fitB ps rl rh) x yl (k + 1)).map Prod.snd = (LA ++ colL (fitB ps rl rh) x yl k).map Prod.snd ++ [y]) := Lib.hid (by rw [hcol, ← List.append_assoc, List.map_append]; rfl)
            obtain ⟨LX, hLX⟩ : ∃ L, (LA ++ colL (fitB ps rl rh) x yl k).map Prod.fst = L := ⟨_, rfl⟩
            obtain ⟨LY, hLY⟩ : ∃ L, (LA ++ colL (fitB ps rl rh) x yl k).map Prod.snd = L := ⟨_, rfl⟩
            have hlx : LX.length ≤ 930 := by rw [← hLX, List.length_map]; exact hll
            have hly : LY.length ≤ 930 := by rw [← hLY, List.length_map]; exact hll
            rw [hLX] at HCX HRZ
            rw [hLY] at HCY HRZ
            clear hcol hfb hmb hLX hLY hll
            go_wp2_with fail
            refine CMx.out.mono ?_
            rintro e w3 ⟨rfl, hb3⟩
            have HRZ3 := Lib.hid (HRZ.out.later hb3)
            have HB3 := Lib.hid (HB.out.trans (hb3.mono (by have := HB.out.size; have := HGE.out; omega)))
            have hg3 : gB ≤ w3.heap.size := by have := HB3.out.size; have := HGE.out; omega
            clear hb3 c0 c1 c2 c3 c4 c5 c6 HZ HRZ
            go_wp2_with (at_builtin; refine wpList_append_own_at _ rfl (.tmp 47) (.tmp 49) 28 rfl gB 3 i0 _ 1 8 Tryd.underlying28 hi0 hz0 hz1 hz2 rfl (by decide) _ _ _ rfl (HRZ3.out.one.alloc _) ⟨w3.heap.size, 0, none⟩ 1 1 [.int .i64 x] rfl rfl (cell_one_new _ _ _) (by simp [Value.oneCell']) (by unfold maxLen; omega) (by omega) (by simp; omega) ?_)
            intro v6 w6 hown6 hgrow6 _ hat6
            have HRZ6 : Hid (RowsZ w6 gB [(v6, LX ++ [x]), (u6, LY)]) := Lib.hid (RowsZ.step (pre := []) (post := [(u6, LY)]) (HRZ3.out.alloc _) hown6 hgrow6 (by simpa using hat6))
            have HB6 : Hid (Below gB w2 w6) := Lib.hid ((HB3.out.alloc hg3 _).grown hgrow6 (by simp; omega) (fun z e => (HRZ3.out.one.lt z e).1))
            have hg6 : gB ≤ w6.heap.size := by have := HB6.out.size; have := HGE.out; omega
            clear hown6 hgrow6 hat6 HRZ3 HB3
            go_wp2_with (at_builtin; refine wpList_append_own_at _ rfl (.tmp 51) (.tmp 53) 28 rfl gB 3 i0 _ 1 8 Tryd.underlying28 hi0 hz0 hz1 hz2 rfl (by decide) _ _ _ rfl (HRZ6.out.two.alloc _) ⟨w6.heap.size, 0, none⟩ 1 1 [.int .i64 y] rfl rfl (cell_one_new _ _ _) (by simp [Value.oneCell']) (by unfold maxLen; omega) (by omega) (by simp; omega) ?_)
            intro v7 w7 hown7 hgrow7 _ hat7
            have HRZ7 : Hid (RowsZ w7 gB [(v6, LX ++ [x]), (v7, LY ++ [y])]) := Lib.hid (RowsZ.step (pre := [(v6, LX ++ [x])]) (post := []) (HRZ6.out.alloc _) hown7 hgrow7 (by simpa using hat7))
            have HB7 : Hid (Below gB w2 w7) := Lib.hid ((HB6.out.alloc hg6 _).grown hgrow7 (by simp; omega) (fun z e => (HRZ6.out.two.lt z e).1))
            clear hown7 hgrow7 hat7 HRZ6 HB6
            go_wp2
            go_roundw
            case rel => exact ⟨k + 1, by omega, by rw [show yl + ((k + 1 : Nat) : Int) = y + 1 by omega], by rw [HCX.out, HCY.out]; exact HRZ7.out, HB7.out⟩
            case measure => simp [intOf]; omega
        · obtain rfl : ny = k := by omega
          have hyI : ¬ y ≤ yh := by omega
          have HAL : Hid (allL (fitB ps rl rh) xl yl ny (a + 1) = LA ++ colL (fitB ps rl rh) x yl ny) := Lib.hid (by rw [← HLA.out, ← hx]; rfl)
          go_wp2
          go_roundw
          case rel => exact ⟨a + 1, by omega, by rw [show xl + ((a + 1 : Nat) : Int) = x + 1 by omega], by rw [HAL.out]; exact HRZ.out, HB.out⟩
          case measure => simp [intOf]; omega
    · obtain rfl : nx = a := by omega
      have hxI : ¬ x ≤ xh := by omega
      have HLL : Hid (LL = LA) := Lib.hid (by rw [HCL.out, HLA.out])
      have h1 := HRZ.out.one
      have h2 := HRZ.out.two
      obtain ⟨m, hm⟩ : ∃ m, LA.length = m := ⟨_, rfl⟩
      rw [List.length_map, hm] at h1 h2
      have hlo : ∀ k, u5.ownBlock = some k → gB ≤ k := fun k e => (h1.lt k e).1
      have hlo2 : ∀ k, u6.ownBlock = some k → gB ≤ k := fun k e => (h2.lt k e).1
      obtain ⟨Ax, cx, ex, _, rx, _⟩ := rd_ownN h1
      obtain ⟨Ay, cy, ey, _, ry, _⟩ := rd_ownN h2
      have fx := own_formZ h1
      have fy := own_formZ h2
      subst ex ey
      have hbw := (HK2.out _ HB.out).2.1
      have HBW := Lib.hid hbw
      by_cases h0 : m = 0
      · subst h0
        have HV : Hid (CV0 = #[.int .i64 0, .int .i64 0, .int .i64 0, .int .i64 0, .int .i64 0, .int .i64 0] ∧ EV = 12) := Lib.hid ⟨by rw [← HCV.out, HLL.out]; unfold cenV; rw [if_pos hm], by rw [← HEV.out, HLL.out, if_pos hm]⟩
        clear h1 h2 hlo hlo2 rx ry fx fy hm hbw HRZ
        have hI : Hid ((Tryd.prog.info? 44).map (·.size) = some (#[.int .i64 0, .int .i64 0, .int .i64 0, .int .i64 0, .int .i64 0, .int .i64 0] : Array Value).size) := Lib.hid (by kernel_rfl)
        have hS : Hid ((#[.int .i64 0, .int .i64 0, .int .i64 0, .int .i64 0, .int .i64 0, .int .i64 0] : Array Value).size = (#[.int .i64 0, .int .i64 0, .int .i64 0, .int .i64 0, .int .i64 0, .int .i64 0] : Array Value).size ∧ True) := Lib.hid ⟨rfl, trivial⟩
        have hO : Hid ((#[.int .i64 0, .int .i64 0, .int .i64 0, .int .i64 0, .int .i64 0, .int .i64 0] : Array Value).all (·.oneCell') = true) := Lib.hid (by simp [Value.oneCell'])
        have H5 : Hid (Bk (wr.setRow (w.heap.size + 1) #[.int .i64 0, .int .i64 0, .int .i64 0, .int .i64 0, .int .i64 0, .int .i64 0]) (w.heap.size + 1) 44 #[.int .i64 0, .int .i64 0, .int .i64 0, .int .i64 0, .int .i64 0, .int .i64 0]) := setRow_heap wr (w.heap.size + 1) _ #[.int .i64 0, .int .i64 0, .int .i64 0, .int .i64 0, .int .i64 0, .int .i64 0] _ _ HZ.out
        have HBf : Hid (Below w.heap.size w (wr.setRow (w.heap.size + 1) #[.int .i64 0, .int .i64 0, .int .i64 0, .int .i64 0, .int .i64 0, .int .i64 0])) := Lib.hid (below_setRow HBW.out (by omega) _)
        go_wp2_with (with_reducible refine wpList_store_row rfl 44 (.tmp 2) (.tmp 58) rfl (w.heap.size + 1) #[.int .i64 0, .int .i64 0, .int .i64 0, .int .i64 0, .int .i64 0, .int .i64 0] rfl rfl 44 #[.int .i64 0, .int .i64 0, .int .i64 0, .int .i64 0, .int .i64 0, .int .i64 0] HZ.out.heap hI.out rfl hO.out ?_)
        refine bodyPost_ret (v := .tuple #[.agg #[.int .i64 0, .int .i64 0, .int .i64 0, .int .i64 0, .int .i64 0, .int .i64 0], .int .i64 12]) ?_ rfl ⟨by rw [HV.out.1, HV.out.2], HBf.out⟩
        exact results_cell_tmp (fn := Tryd.f14) rfl _ _ (w.heap.size + 1) 44 #[.int .i64 0, .int .i64 0, .int .i64 0, .int .i64 0, .int .i64 0, .int .i64 0] (0, 0) _ rfl H5.out Tryd.underlying44 rfl (by kernel_rfl)
      · obtain ⟨Ax', cx', ex, gx⟩ := fx
        obtain ⟨Ay', cy', ey, gy⟩ := fy
        injection ex with ex1 _ ex3
        injection ey with ey1 _ ey3
        subst ex1 ex3 ey1 ey3
        obtain ⟨bx, hbx⟩ := gx (by omega)
        obtain ⟨by', hby⟩ := gy (by omega)
        subst hbx hby
        have hgx := hlo bx rfl
        have hgy := hlo2 by' rfl
        obtain ⟨ax, eax, hax, hcx⟩ := rx.2 (by omega)
        obtain ⟨ay, eay, hay, hcy⟩ := ry.2 (by omega)
        injection eax with eax
        injection eay with eay
        subst eax eay
        have hx0 := hcx 0 (by omega)
        have hy0 := hcy 0 (by omega)
        rw [addZ] at hx0 hy0
        have e1 : (LA.map Prod.fst).getD 0 0 = (hdA LA).1 := by
          unfold hdA
          rw [List.getD_eq_getElem?_getD, List.getD_eq_getElem?_getD, List.getElem?_map, List.getElem?_eq_getElem (by omega)]; rfl
        have e2 : (LA.map Prod.snd).getD 0 0 = (hdA LA).2 := by
          unfold hdA
          rw [List.getD_eq_getElem?_getD, List.getD_eq_getElem?_getD, List.getElem?_map, List.getElem?_eq_getElem (by omega)]; rfl
        rw [e1] at hx0
        rw [e2] at hy0
        obtain ⟨x0, hx0e⟩ : ∃ z, (hdA LA).1 = z := ⟨_, rfl⟩
        obtain ⟨y0, hy0e⟩ : ∃ z, (hdA LA).2 = z := ⟨_, rfl⟩
        rw [hx0e] at hx0
        rw [hy0e] at hy0
        have CRx := Lib.hid (fun W (hb : Below wr.heap.size wr W) => rangeOf_any (some ⟨bx, 0, none⟩) m cx _ W (rx.below hb) ⟨by omega, by omega⟩)
        have CRy := Lib.hid (fun W (hb : Below wr.heap.size wr W) => rangeOf_any (some ⟨by', 0, none⟩) m cy _ W (ry.below hb) ⟨by omega, by omega⟩)
        have q1 : minZ (LA.map Prod.fst) m = mnA Prod.fst LA := by unfold mnA; rw [hm]
        have q2 : maxZ (LA.map Prod.fst) m = mxA Prod.fst LA := by unfold mxA; rw [hm]
        have q3 : minZ (LA.map Prod.snd) m = mnA Prod.snd LA := by unfold mnA; rw [hm]
        have q4 : maxZ (LA.map Prod.snd) m = mxA Prod.snd LA := by unfold mxA; rw [hm]
        rw [q1, q2] at CRx
        rw [q3, q4] at CRy
        obtain ⟨m1, hm1⟩ : ∃ z, mnA Prod.fst LA = z := ⟨_, rfl⟩
        obtain ⟨m2, hm2⟩ : ∃ z, mxA Prod.fst LA = z := ⟨_, rfl⟩
        obtain ⟨m3, hm3⟩ : ∃ z, mnA Prod.snd LA = z := ⟨_, rfl⟩
        obtain ⟨m4, hm4⟩ : ∃ z, mxA Prod.snd LA = z := ⟨_, rfl⟩
        rw [hm1, hm2] at CRx
        rw [hm3, hm4] at CRy
        have HV : Hid (CV0 = #[.int .i64 x0, .int .i64 y0, .int .i64 m1, .int .i64 m2, .int .i64 m3, .int .i64 m4] ∧ EV = 0) := Lib.hid ⟨by rw [← HCV.out, HLL.out]; unfold cenV; rw [if_neg (by omega), hx0e, hy0e, hm1, hm2, hm3, hm4], by rw [← HEV.out, HLL.out, if_neg (by omega)]⟩
        have HSQ : Hid (∀ W, Below wr.heap.size wr W → W.cell? ⟨bx, 0, none⟩ = some (.int .i64 x0) ∧ W.cell? ⟨by', 0, none⟩ = some (.int .i64 y0)) := Lib.hid (fun W hb => ⟨(hb.cell (p := ⟨bx, 0, none⟩) hax).trans hx0, (hb.cell (p := ⟨by', 0, none⟩) hay).trans hy0⟩)
        have hmI : (0 : Int) < (m : Int) := by omega
        have hmN : 0 < m := by omega
        have hmE : ((m : Int) == 0) = false := by simp; omega
        have hnbx : bx ≠ w.heap.size + 1 := by have := HGB.out; omega
        have hnby : by' ≠ w.heap.size + 1 := by have := HGB.out; omega
        have hbz1 : w.heap.size + 1 < wr.heap.size := HZ.out.lt
        have HBd := Lib.hid ((Below.refl wr.heap.size wr).drew)
        have addZx : (⟨bx, 0, none⟩ : Addr).add 0 = ⟨bx, 0, none⟩ := addZ _
        have addZy : (⟨by', 0, none⟩ : Addr).add 0 = ⟨by', 0, none⟩ := addZ _
        have hI : Hid ((Tryd.prog.info? 44).map (·.size) = some (#[.int .i64 x0, .int .i64 y0, .int .i64 m1, .int .i64 m2, .int .i64 m3, .int .i64 m4] : Array Value).size) := Lib.hid (by kernel_rfl)
        have hO : Hid ((#[.int .i64 x0, .int .i64 y0, .int .i64 m1, .int .i64 m2, .int .i64 m3, .int .i64 m4] : Array Value).all (·.oneCell') = true) := Lib.hid (by simp [Value.oneCell'])
        clear h1 h2 hlo hlo2 rx ry gx gy hm hcx hcy hax hay hx0 hy0 hx0e hy0e e1 e2 q1 q2 q3 q4 hm1 hm2 hm3 hm4 hbw HRZ
        go_wp2_with fail
        refine wp_region_held_drew (S := (fun w' : World => w'.cell? ⟨bx, 0, none⟩ = some (.int .i64 x0) ∧ w'.cell? ⟨by', 0, none⟩ = some (.int .i64 y0))) (by kernel_rfl) ?_ ?_
        · exact HSQ.out _ HBd.out
        intro hHeld
        refine wpAnyH_take (i := 0) (v := ?_) rfl (by kernel_rfl) (by kernel_rfl) (by kernel_rfl) (fun _ _ _ h => h) (Or.inl ⟨by rfl, ?_⟩) (by assumption) ?_
        rotate_left
        · intro w hSw; (try dsimp only at hSw); go_simp; (try (with_reducible rfl))
        try simp only [List.getElem_toArray, List.getElem_cons_succ, List.getElem_cons_zero, Act.put, List.setIfInBounds_toArray, List.set_cons_zero, List.set_cons_succ]
        refine wpAnyH_take (i := 1) (v := ?_) rfl (by kernel_rfl) (by kernel_rfl) (by kernel_rfl) (fun _ _ _ h => h) (Or.inl ⟨by rfl, ?_⟩) (by assumption) ?_
        rotate_left
        · intro w hSw; (try dsimp only at hSw); go_simp; (try (with_reducible rfl))
        try simp only [List.getElem_toArray, List.getElem_cons_succ, List.getElem_cons_zero, Act.put, List.setIfInBounds_toArray, List.set_cons_zero, List.set_cons_succ]
        refine wpAnyH_take (i := 2) (v := ?_) rfl (by kernel_rfl) (by kernel_rfl) (by kernel_rfl) (fun _ _ _ h => h) (Or.inl ⟨by rfl, ?_⟩) (by assumption) ?_
        rotate_left
        · intro w hSw; (try dsimp only at hSw); go_simp; (try (with_reducible rfl))
        try simp only [List.getElem_toArray, List.getElem_cons_succ, List.getElem_cons_zero, Act.put, List.setIfInBounds_toArray, List.set_cons_zero, List.set_cons_succ]
        refine wpAnyH_take (i := 3) (v := ?_) rfl (by kernel_rfl) (by kernel_rfl) (by kernel_rfl) (fun _ _ _ h => h) (Or.inl ⟨by rfl, ?_⟩) (by assumption) ?_
        rotate_left
        · intro w hSw; (try dsimp only at hSw); go_simp; (try (with_reducible rfl))
        try simp only [List.getElem_toArray, List.getElem_cons_succ, List.getElem_cons_zero, Act.put, List.setIfInBounds_toArray, List.set_cons_zero, List.set_cons_succ]
        refine wpAnyH_take (i := 4) (v := ?_) rfl (by kernel_rfl) (by kernel_rfl) (by kernel_rfl) (fun _ _ _ h => h) (Or.inl ⟨by rfl, ?_⟩) (by assumption) ?_
        rotate_left
        · intro w hSw; (try dsimp only at hSw); go_simp; (try (with_reducible rfl))
        try simp only [List.getElem_toArray, List.getElem_cons_succ, List.getElem_cons_zero, Act.put, List.setIfInBounds_toArray, List.set_cons_zero, List.set_cons_succ]
        refine wpAnyH_take (i := 5) (v := ?_) rfl (by kernel_rfl) (by kernel_rfl) (by kernel_rfl) (fun _ _ _ h => h) (Or.inl ⟨by rfl, ?_⟩) (by assumption) ?_
        rotate_left
        · intro w hSw; (try dsimp only at hSw); go_simp; (try (with_reducible rfl))
        try simp only [List.getElem_toArray, List.getElem_cons_succ, List.getElem_cons_zero, Act.put, List.setIfInBounds_toArray, List.set_cons_zero, List.set_cons_succ]
        refine wpAnyH_take (i := 6) (v := ?_) rfl (by kernel_rfl) (by kernel_rfl) (by kernel_rfl) (fun _ _ _ h => h) (Or.inl ⟨by rfl, ?_⟩) (by assumption) ?_
        rotate_left
        · intro w hSw; (try dsimp only at hSw); go_simp; (try (with_reducible rfl))
        try simp only [List.getElem_toArray, List.getElem_cons_succ, List.getElem_cons_zero, Act.put, List.setIfInBounds_toArray, List.set_cons_zero, List.set_cons_succ]
        refine wpAnyH_take (i := 7) (v := ?_) rfl (by kernel_rfl) (by kernel_rfl) (by kernel_rfl) (fun _ _ _ h => h) (Or.inl ⟨by rfl, ?_⟩) (by assumption) ?_
        rotate_left
        · intro w hSw; (try dsimp only at hSw); go_simp; (try (with_reducible rfl))
        try simp only [List.getElem_toArray, List.getElem_cons_succ, List.getElem_cons_zero, Act.put, List.setIfInBounds_toArray, List.set_cons_zero, List.set_cons_succ]
        refine wpAnyH_take (i := 9) (v := ?_) rfl (by kernel_rfl) (by kernel_rfl) (by kernel_rfl) (fun _ _ _ h => h) (Or.inl ⟨by rfl, ?_⟩) (by assumption) ?_
        rotate_left
        · intro w hSw; (try dsimp only at hSw); go_simp; (try (with_reducible rfl))
        try simp only [List.getElem_toArray, List.getElem_cons_succ, List.getElem_cons_zero, Act.put, List.setIfInBounds_toArray, List.set_cons_zero, List.set_cons_succ]
        refine wpAnyH_ready (rs := [8]) (by kernel_rfl) (by simp) ?_
        refine AllReadyH.cons rfl (fun K hK => ?_) AllReadyH.nil
        go_simp
        go_at_call 42; refine (CRx.out _ HBd.out).mono ?_; rintro e wy ⟨rfl, hb⟩; have HBy := Lib.hid (HBd.out.trans (hb.mono HBd.out.size)); clear hb
        go_wp2_with fail
        refine hK.out _ _ ?_ (fun hHeld => ?_)
        · clear hK K; exact HSQ.out _ HBy.out
        clear hK K
        try simp only [List.getElem_toArray, List.getElem_cons_succ, List.getElem_cons_zero, Act.put, List.setIfInBounds_toArray, List.set_cons_zero, List.set_cons_succ]
        refine wpAnyH_ready (rs := [10]) (by kernel_rfl) (by simp) ?_
        refine AllReadyH.cons rfl (fun K hK => ?_) AllReadyH.nil
        go_simp
        go_at_call 42; refine (CRy.out _ HBy.out).mono ?_; rintro e wz ⟨rfl, hb⟩; have HBz := Lib.hid (HBy.out.trans (hb.mono HBy.out.size)); clear hb
        go_wp2_with fail
        refine hK.out _ _ ?_ (fun hHeld => ?_)
        · clear hK K; exact HSQ.out _ HBz.out
        clear hK K
        try simp only [List.getElem_toArray, List.getElem_cons_succ, List.getElem_cons_zero, Act.put, List.setIfInBounds_toArray, List.set_cons_zero, List.set_cons_succ]
        refine wpAnyH_take (i := 11) (v := ?_) rfl (by kernel_rfl) (by kernel_rfl) (by kernel_rfl) (fun _ _ _ h => h) (Or.inl ⟨by rfl, ?_⟩) (by assumption) ?_
        rotate_left
        · intro w hSw; (try dsimp only at hSw); go_simp; (try (with_reducible rfl))
        try simp only [List.getElem_toArray, List.getElem_cons_succ, List.getElem_cons_zero, Act.put, List.setIfInBounds_toArray, List.set_cons_zero, List.set_cons_succ]
        have HZz := Lib.hid (HZ.out.later HBz.out)
        refine wpAnyH_ready (rs := [12]) (by kernel_rfl) (by simp) ?_
        refine AllReadyH.cons rfl (fun K hK => ?_) AllReadyH.nil
        refine step_store_row _ rfl 44 (.tmp 2) (.tmp 70) rfl (w.heap.size + 1) #[.int .i64 x0, .int .i64 y0, .int .i64 m1, .int .i64 m2, .int .i64 m3, .int .i64 m4] rfl rfl 44 #[.int .i64 0, .int .i64 0, .int .i64 0, .int .i64 0, .int .i64 0, .int .i64 0] HZz.out.heap hI.out rfl hO.out ?_
        refine hK.out _ _ ?_ (fun hHeld => ?_)
        · clear hK K; exact ⟨(cell_setRow_other _ _ _ ⟨bx, 0, none⟩ hnbx).trans (HSQ.out _ HBz.out).1, (cell_setRow_other _ _ _ ⟨by', 0, none⟩ hnby).trans (HSQ.out _ HBz.out).2⟩
        clear hK K
        try simp only [List.getElem_toArray, List.getElem_cons_succ, List.getElem_cons_zero, Act.put, List.setIfInBounds_toArray, List.set_cons_zero, List.set_cons_succ]
        refine wpAnyH_take (i := 13) (v := ?_) rfl (by kernel_rfl) (by kernel_rfl) (by kernel_rfl) (fun _ _ _ h => h) (Or.inl ⟨by rfl, ?_⟩) (by assumption) ?_
        rotate_left
        · intro w hSw; (try dsimp only at hSw); go_simp; (try (with_reducible rfl))
        try simp only [List.getElem_toArray, List.getElem_cons_succ, List.getElem_cons_zero, Act.put, List.setIfInBounds_toArray, List.set_cons_zero, List.set_cons_succ]
        refine wpAnyH_done (by kernel_rfl) ?_ _
        have H5 : Hid (Bk (wz.setRow (w.heap.size + 1) #[.int .i64 x0, .int .i64 y0, .int .i64 m1, .int .i64 m2, .int .i64 m3, .int .i64 m4]) (w.heap.size + 1) 44 #[.int .i64 x0, .int .i64 y0, .int .i64 m1, .int .i64 m2, .int .i64 m3, .int .i64 m4]) := setRow_heap wz (w.heap.size + 1) _ #[.int .i64 x0, .int .i64 y0, .int .i64 m1, .int .i64 m2, .int .i64 m3, .int .i64 m4] _ _ HZz.out
        have HBf : Hid (Below w.heap.size w (wz.setRow (w.heap.size + 1) #[.int .i64 x0, .int .i64 y0, .int .i64 m1, .int .i64 m2, .int .i64 m3, .int .i64 m4])) := Lib.hid (below_setRow (HBW.out.trans (HBz.out.mono HBW.out.size)) (by omega) _)
        clear hHeld HBd HBy HBz HSQ
        go_wp2
        refine bodyPost_ret (v := .tuple #[.agg #[.int .i64 x0, .int .i64 y0, .int .i64 m1, .int .i64 m2, .int .i64 m3, .int .i64 m4], .int .i64 0]) ?_ rfl ⟨by rw [HV.out.1, HV.out.2], HBf.out⟩
        exact results_cell_tmp (fn := Tryd.f14) rfl _ _ (w.heap.size + 1) 44 #[.int .i64 x0, .int .i64 y0, .int .i64 m1, .int .i64 m2, .int .i64 m3, .int .i64 m4] (0, 0) _ rfl H5.out Tryd.underlying44 rfl (by kernel_rfl)

end Go.Proofs.YtpkjkegcdddimaaDoor

namespace Go.Proofs.YtpkjkegcdddimaaDoor
open Go.RowKit

set_option maxRecDepth 100000 in
set_option maxHeartbeats 4000000 in
theorem refCenter_x (A : Option Addr) (n c : Nat) (rl rh xl xh yl yh : Int) (ps : List (Int × Int)) (cx cy : Int) (w : World) (hr : RdP w A n ps) (hn : n ≤ 1000000) (hx : fromB xl xh [cx] = false) :
    Calls Tryd.prog 16 #[.agg #[.slice A n c, .int .i64 rl, .int .i64 rh, .int .i64 xl, .int .i64 xh, .int .i64 yl, .int .i64 yh], .agg #[.int .i64 cx, .int .i64 cy]] w fun e w' => e = .returned (.tuple #[.int .i64 (0), .int .i64 (2)]) ∧ Below w.heap.size w w' := by
  obtain ⟨W1, hW1⟩ : ∃ W, (w.alloc (.cells #[.slice A n c, .int .i64 rl, .int .i64 rh, .int .i64 xl, .int .i64 xh, .int .i64 yl, .int .i64 yh] 39)).alloc (.cells #[.int .i64 cx, .int .i64 cy] 30) = W := ⟨_, rfl⟩
  have hb1 : Below w.heap.size w W1 := by rw [← hW1]; exact ((Below.refl _ _).alloc (Nat.le_refl _) _).alloc (by simp) _
  have k0 : Bk W1 w.heap.size 39 #[.slice A n c, .int .i64 rl, .int .i64 rh, .int .i64 xl, .int .i64 xh, .int .i64 yl, .int .i64 yh] := by rw [← hW1]; exact (Bk.new w 39 #[.slice A n c, .int .i64 rl, .int .i64 rh, .int .i64 xl, .int .i64 xh, .int .i64 yl, .int .i64 yh]).alloc _
  have k1 : Bk W1 (w.heap.size + 1) 30 #[.int .i64 cx, .int .i64 cy] := by
    rw [← hW1]
    have := Bk.new (w.alloc (.cells #[.slice A n c, .int .i64 rl, .int .i64 rh, .int .i64 xl, .int .i64 xh, .int .i64 yl, .int .i64 yh] 39)) 30 #[.int .i64 cx, .int .i64 cy]
    simpa using this
  have HK : Hid (∀ W, Below W1.heap.size W1 W → (W.cell? ⟨w.heap.size, 0, none⟩ = some (.slice A n c) ∧ W.cell? ⟨w.heap.size, 1, none⟩ = some (.int .i64 rl) ∧ W.cell? ⟨w.heap.size, 2, none⟩ = some (.int .i64 rh) ∧ W.cell? ⟨w.heap.size, 3, none⟩ = some (.int .i64 xl) ∧ W.cell? ⟨w.heap.size, 4, none⟩ = some (.int .i64 xh) ∧ W.cell? ⟨w.heap.size, 5, none⟩ = some (.int .i64 yl) ∧ W.cell? ⟨w.heap.size, 6, none⟩ = some (.int .i64 yh)) ∧ W.cell? ⟨w.heap.size + 1, 0, none⟩ = some (.int .i64 cx) ∧ W.cell? ⟨w.heap.size + 1, 1, none⟩ = some (.int .i64 cy)) := fun W hb => by
    have h0 := k0.later hb
    have h1 := k1.later hb
    exact ⟨⟨by rw [h0.cell]; rfl, by rw [h0.cell]; rfl, by rw [h0.cell]; rfl, by rw [h0.cell]; rfl, by rw [h0.cell]; rfl, by rw [h0.cell]; rfl, by rw [h0.cell]; rfl⟩, by rw [h1.cell]; rfl, by rw [h1.cell]; rfl⟩
  have HR1 := Lib.hid (hr.below hb1)
  have HB1 := Lib.hid hb1
  have CX := Lib.hid (fun W => within_any cx xl xh W)
  have CY := Lib.hid (fun W => within_any cy yl yh W)
  rw [hx] at CX
  clear hx
  clear hr hb1 k0 k1
  go_enter Tryd.func16, Tryd.ntmps16
  go_upto_region 1 with (fail)
  try rw [hW1]
  clear hW1
  obtain ⟨⟨c0, c1, c2, c3, c4, c5, c6⟩, d0, d1⟩ := HK.out _ (Below.refl _ _)
  go_wp2_with fail
  refine (CX.out _).mono ?_
  rintro e w' ⟨rfl, rfl⟩
  go_wp2
  go_ret2
  exact ⟨rfl, HB1.out⟩

set_option maxRecDepth 100000 in
set_option maxHeartbeats 4000000 in
theorem refCenter_y (A : Option Addr) (n c : Nat) (rl rh xl xh yl yh : Int) (ps : List (Int × Int)) (cx cy : Int) (w : World) (hr : RdP w A n ps) (hn : n ≤ 1000000) (hx : fromB xl xh [cx] = true) (hy : fromB yl yh [cy] = false) :
    Calls Tryd.prog 16 #[.agg #[.slice A n c, .int .i64 rl, .int .i64 rh, .int .i64 xl, .int .i64 xh, .int .i64 yl, .int .i64 yh], .agg #[.int .i64 cx, .int .i64 cy]] w fun e w' => e = .returned (.tuple #[.int .i64 (0), .int .i64 (2)]) ∧ Below w.heap.size w w' := by
  obtain ⟨W1, hW1⟩ : ∃ W, (w.alloc (.cells #[.slice A n c, .int .i64 rl, .int .i64 rh, .int .i64 xl, .int .i64 xh, .int .i64 yl, .int .i64 yh] 39)).alloc (.cells #[.int .i64 cx, .int .i64 cy] 30) = W := ⟨_, rfl⟩
  have hb1 : Below w.heap.size w W1 := by rw [← hW1]; exact ((Below.refl _ _).alloc (Nat.le_refl _) _).alloc (by simp) _
  have k0 : Bk W1 w.heap.size 39 #[.slice A n c, .int .i64 rl, .int .i64 rh, .int .i64 xl, .int .i64 xh, .int .i64 yl, .int .i64 yh] := by rw [← hW1]; exact (Bk.new w 39 #[.slice A n c, .int .i64 rl, .int .i64 rh, .int .i64 xl, .int .i64 xh, .int .i64 yl, .int .i64 yh]).alloc _
  have k1 : Bk W1 (w.heap.size + 1) 30 #[.int .i64 cx, .int .i64 cy] := by
    rw [← hW1]
    have := Bk.new (w.alloc (.cells #[.slice A n c, .int .i64 rl, .int .i64 rh, .int .i64 xl, .int .i64 xh, .int .i64 yl, .int .i64 yh] 39)) 30 #[.int .i64 cx, .int .i64 cy]
    simpa using this
  have HK : Hid (∀ W, Below W1.heap.size W1 W → (W.cell? ⟨w.heap.size, 0, none⟩ = some (.slice A n c) ∧ W.cell? ⟨w.heap.size, 1, none⟩ = some (.int .i64 rl) ∧ W.cell? ⟨w.heap.size, 2, none⟩ = some (.int .i64 rh) ∧ W.cell? ⟨w.heap.size, 3, none⟩ = some (.int .i64 xl) ∧ W.cell? ⟨w.heap.size, 4, none⟩ = some (.int .i64 xh) ∧ W.cell? ⟨w.heap.size, 5, none⟩ = some (.int .i64 yl) ∧ W.cell? ⟨w.heap.size, 6, none⟩ = some (.int .i64 yh)) ∧ W.cell? ⟨w.heap.size + 1, 0, none⟩ = some (.int .i64 cx) ∧ W.cell? ⟨w.heap.size + 1, 1, none⟩ = some (.int .i64 cy)) := fun W hb => by
    have h0 := k0.later hb
    have h1 := k1.later hb
    exact ⟨⟨by rw [h0.cell]; rfl, by rw [h0.cell]; rfl, by rw [h0.cell]; rfl, by rw [h0.cell]; rfl, by rw [h0.cell]; rfl, by rw [h0.cell]; rfl, by rw [h0.cell]; rfl⟩, by rw [h1.cell]; rfl, by rw [h1.cell]; rfl⟩
  have HR1 := Lib.hid (hr.below hb1)
  have HB1 := Lib.hid hb1
  have CX := Lib.hid (fun W => within_any cx xl xh W)
  have CY := Lib.hid (fun W => within_any cy yl yh W)
  rw [hx] at CX
  rw [hy] at CY
  clear hx hy
  clear hr hb1 k0 k1
  go_enter Tryd.func16, Tryd.ntmps16
  go_upto_region 1 with (fail)
  try rw [hW1]
  clear hW1
  obtain ⟨⟨c0, c1, c2, c3, c4, c5, c6⟩, d0, d1⟩ := HK.out _ (Below.refl _ _)
  go_wp2_with fail
  refine (CX.out _).mono ?_
  rintro e w' ⟨rfl, rfl⟩
  go_wp2_with fail
  refine (CY.out _).mono ?_
  rintro e w' ⟨rfl, rfl⟩
  go_wp2
  go_ret2
  exact ⟨rfl, HB1.out⟩

set_option maxRecDepth 100000 in
set_option maxHeartbeats 4000000 in
theorem refCenter_in (A : Option Addr) (n c : Nat) (rl rh xl xh yl yh : Int) (ps : List (Int × Int)) (cx cy : Int) (w : World) (hr : RdP w A n ps) (hn : n ≤ 1000000) (hg : (0 < ps.length ∧ ps.length ≤ 20) ∧ (∀ i, i < ps.length → (-1000 ≤ (ps.getD i (0, 0)).1 ∧ (ps.getD i (0, 0)).1 ≤ 1000) ∧ -1000 ≤ (ps.getD i (0, 0)).2 ∧ (ps.getD i (0, 0)).2 ≤ 1000) ∧ (0 ≤ rl ∧ rl ≤ rh ∧ rh ≤ 1000) ∧ (-1000 ≤ xl ∧ xl ≤ xh ∧ xh ≤ 1000 ∧ xh - xl + 1 ≤ 30) ∧ -1000 ≤ yl ∧ yl ≤ yh ∧ yh ≤ 1000 ∧ yh - yl + 1 ≤ 30) (hx : fromB xl xh [cx] = true) (hy : fromB yl yh [cy] = true) :
    Calls Tryd.prog 16 #[.agg #[.slice A n c, .int .i64 rl, .int .i64 rh, .int .i64 xl, .int .i64 xh, .int .i64 yl, .int .i64 yh], .agg #[.int .i64 cx, .int .i64 cy]] w fun e w' => e = .returned (.tuple #[.int .i64 (if misI rl rh ps (cx, cy) = -1 then 0 else misI rl rh ps (cx, cy)), .int .i64 (if misI rl rh ps (cx, cy) = -1 then 0 else 19)]) ∧ Below w.heap.size w w' := by
  obtain ⟨W1, hW1⟩ : ∃ W, (w.alloc (.cells #[.slice A n c, .int .i64 rl, .int .i64 rh, .int .i64 xl, .int .i64 xh, .int .i64 yl, .int .i64 yh] 39)).alloc (.cells #[.int .i64 cx, .int .i64 cy] 30) = W := ⟨_, rfl⟩
  have hb1 : Below w.heap.size w W1 := by rw [← hW1]; exact ((Below.refl _ _).alloc (Nat.le_refl _) _).alloc (by simp) _
  have k0 : Bk W1 w.heap.size 39 #[.slice A n c, .int .i64 rl, .int .i64 rh, .int .i64 xl, .int .i64 xh, .int .i64 yl, .int .i64 yh] := by rw [← hW1]; exact (Bk.new w 39 #[.slice A n c, .int .i64 rl, .int .i64 rh, .int .i64 xl, .int .i64 xh, .int .i64 yl, .int .i64 yh]).alloc _
  have k1 : Bk W1 (w.heap.size + 1) 30 #[.int .i64 cx, .int .i64 cy] := by
    rw [← hW1]
    have := Bk.new (w.alloc (.cells #[.slice A n c, .int .i64 rl, .int .i64 rh, .int .i64 xl, .int .i64 xh, .int .i64 yl, .int .i64 yh] 39)) 30 #[.int .i64 cx, .int .i64 cy]
    simpa using this
  have HK : Hid (∀ W, Below W1.heap.size W1 W → (W.cell? ⟨w.heap.size, 0, none⟩ = some (.slice A n c) ∧ W.cell? ⟨w.heap.size, 1, none⟩ = some (.int .i64 rl) ∧ W.cell? ⟨w.heap.size, 2, none⟩ = some (.int .i64 rh) ∧ W.cell? ⟨w.heap.size, 3, none⟩ = some (.int .i64 xl) ∧ W.cell? ⟨w.heap.size, 4, none⟩ = some (.int .i64 xh) ∧ W.cell? ⟨w.heap.size, 5, none⟩ = some (.int .i64 yl) ∧ W.cell? ⟨w.heap.size, 6, none⟩ = some (.int .i64 yh)) ∧ W.cell? ⟨w.heap.size + 1, 0, none⟩ = some (.int .i64 cx) ∧ W.cell? ⟨w.heap.size + 1, 1, none⟩ = some (.int .i64 cy)) := fun W hb => by
    have h0 := k0.later hb
    have h1 := k1.later hb
    exact ⟨⟨by rw [h0.cell]; rfl, by rw [h0.cell]; rfl, by rw [h0.cell]; rfl, by rw [h0.cell]; rfl, by rw [h0.cell]; rfl, by rw [h0.cell]; rfl, by rw [h0.cell]; rfl⟩, by rw [h1.cell]; rfl, by rw [h1.cell]; rfl⟩
  have HR1 := Lib.hid (hr.below hb1)
  have HB1 := Lib.hid hb1
  have CX := Lib.hid (fun W => within_any cx xl xh W)
  have CY := Lib.hid (fun W => within_any cy yl yh W)
  obtain ⟨RI, hRI⟩ : ∃ z, (if misI rl rh ps (cx, cy) = -1 then 0 else misI rl rh ps (cx, cy)) = z := ⟨_, rfl⟩
  obtain ⟨RE, hRE⟩ : ∃ z : Int, (if misI rl rh ps (cx, cy) = -1 then 0 else 19) = z := ⟨_, rfl⟩
  rw [hRI, hRE]
  have HRI := Lib.hid hRI
  have HRE := Lib.hid hRE
  clear hRI hRE
  rw [hx] at CX
  rw [hy] at CY
  have hx' := fromB_one.1 hx
  have hy' := fromB_one.1 hy
  have hn0 : 0 < n := by rw [← hr.1]; exact hg.1.1
  have HP : Hid (∀ j, j < n → (-1000 ≤ (ps.getD j (0, 0)).1 ∧ (ps.getD j (0, 0)).1 ≤ 1000) ∧ -1000 ≤ (ps.getD j (0, 0)).2 ∧ (ps.getD j (0, 0)).2 ≤ 1000) := Lib.hid (fun j hj => hg.2.1 j (by rw [hr.1]; exact hj))
  have hmi : misI rl rh ps (cx, cy) = fstF (offB rl rh ps (cx, cy)) n := by unfold misI; rw [hr.1]
  have HMI := Lib.hid hmi
  have hrl := hg.2.2.1
  have hcb : (-1000 ≤ cx ∧ cx ≤ 1000) ∧ -1000 ≤ cy ∧ cy ≤ 1000 := by have := hg.2.2.2; omega
  have s3 := sq_bd (x := rl) (m := 1000) (by omega)
  have s4 := sq_bd (x := rh) (m := 1000) (by omega)
  obtain ⟨r1, hr1⟩ : ∃ z, rl * rl = z := ⟨_, rfl⟩
  obtain ⟨r2, hr2⟩ : ∃ z, rh * rh = z := ⟨_, rfl⟩
  rw [hr1] at s3
  rw [hr2] at s4
  have hw1 : IntKind.i64.wrap (rl * rl) = r1 := by rw [hr1]; exact IntWalk.i64_in _ (by omega)
  have hw2 : IntKind.i64.wrap (rh * rh) = r2 := by rw [hr2]; exact IntWalk.i64_in _ (by omega)
  have HOF : Hid (∀ k, fromB r1 r2 [sqF (cx, cy) (ps.getD k (0, 0))] = !offB rl rh ps (cx, cy) k) := Lib.hid (fun k => by rw [← hr1, ← hr2]; exact offB_eq rl rh ps cx cy k)
  clear hx hy hx' hy' hmi hg hr1 hr2 hrl s3 s4
  clear hr hb1 k0 k1
  go_enter Tryd.func16, Tryd.ntmps16
  go_upto_region 1 with (fail)
  try rw [hW1]
  clear hW1
  obtain ⟨⟨c0, c1, c2, c3, c4, c5, c6⟩, d0, d1⟩ := HK.out _ (Below.refl _ _)
  go_wp2_with fail
  refine (CX.out _).mono ?_
  rintro e w' ⟨rfl, rfl⟩
  go_wp2_with fail
  refine (CY.out _).mono ?_
  rintro e w' ⟨rfl, rfl⟩
  clear c0 c1 c2 c3 c4 c5 c6 d0 d1
  obtain ⟨ad, hA, hadb, hcp⟩ := HR1.out.2 hn0
  subst hA
  have HCP : Hid (∀ W, Below W1.heap.size W1 W → ∀ j, j < n → W.cell? (ad.add (j * 2)) = some (.int .i64 (ps.getD j (0, 0)).1) ∧ W.cell? ((ad.add (j * 2)).add 1) = some (.int .i64 (ps.getD j (0, 0)).2)) := Lib.hid (fun W hb j hj => ⟨(hb.cell (p := ad.add (j * 2)) (by rw [addBlock]; exact hadb)).trans (hcp j hj).1, (hb.cell (p := (ad.add (j * 2)).add 1) (by rw [addBlock, addBlock]; exact hadb)).trans (hcp j hj).2⟩)
  clear hcp hadb HR1
  go_wp2
  go_loopw [6] (fun i wr => ∃ k : Nat, k ≤ n ∧ i = .int .i64 (k : Int) ∧ Hid (fstF (offB rl rh ps (cx, cy)) k = -1) ∧ Hid (Below W1.heap.size W1 wr)) (fun i _ => n - (intOf i).toNat)
  case atStart => exact ⟨0, Nat.zero_le _, rfl, rfl, Below.refl _ _⟩
  case round =>
    obtain ⟨k, hk, rfl, HF, HB⟩ := hrel
    obtain ⟨⟨c0, c1, c2, c3, c4, c5, c6⟩, d0, d1⟩ := HK.out _ (HB.out)
    by_cases hlt : k < n
    · have hkI : (k : Int) < (n : Int) := by omega
      have hpk := HP.out k hlt
      have hof := HOF.out k
      have HSQ : Hid (∀ W, Below wr.heap.size wr W → (W.cell? ⟨w.heap.size, 0, none⟩ = some (.slice (some ad) n c) ∧ W.cell? ⟨w.heap.size, 1, none⟩ = some (.int .i64 rl) ∧ W.cell? ⟨w.heap.size, 2, none⟩ = some (.int .i64 rh)) ∧ (W.cell? ⟨w.heap.size + 1, 0, none⟩ = some (.int .i64 cx) ∧ W.cell? ⟨w.heap.size + 1, 1, none⟩ = some (.int .i64 cy)) ∧ W.cell? (ad.add (k * 2)) = some (.int .i64 (ps.getD k (0, 0)).1) ∧ W.cell? ((ad.add (k * 2)).add 1) = some (.int .i64 (ps.getD k (0, 0)).2)) := Lib.hid (fun W hb => by
        have hb1 := HB.out.trans (hb.mono HB.out.size)
        have h := HK.out W hb1
        exact ⟨⟨h.1.1, h.1.2.1, h.1.2.2.1⟩, h.2, HCP.out W hb1 k hlt⟩)
      obtain ⟨px, hpx⟩ : ∃ x, (ps.getD k (0, 0)).1 = x := ⟨_, rfl⟩
      obtain ⟨py, hpy⟩ : ∃ x, (ps.getD k (0, 0)).2 = x := ⟨_, rfl⟩
      have hpp : ps.getD k (0, 0) = (px, py) := by rw [← hpx, ← hpy]
      obtain ⟨ak, hak⟩ : ∃ x, ad.add (k * 2) = x := ⟨_, rfl⟩
      obtain ⟨ak1, hak1⟩ : ∃ x, ak.add 1 = x := ⟨_, rfl⟩
      have addZk : ak.add 0 = ak := addZ ak
      rw [hpx, hpy] at hpk HSQ
      rw [hak, hak1] at HSQ
      rw [hpp] at hof
      have CSq := Lib.hid (fun W => square_any cx cy px py W (by omega))
      obtain ⟨D, hD⟩ : ∃ z, sqF (cx, cy) (px, py) = z := ⟨_, rfl⟩
      rw [hD] at CSq hof
      have CWi := Lib.hid (fun W => within_any D r1 r2 W)
      rw [hof] at CWi
      have HBd := Lib.hid ((Below.refl wr.heap.size wr).drew)
      clear hpx hpy hpk hpp hof hD
      cases hob : offB rl rh ps (cx, cy) k with
      | false =>
        rw [hob] at CWi
        have HV := Lib.hid (fstF_no HF.out hob)
        clear hob
        go_wp2_with fail
        refine wp_region_held_drew (S := (fun w' : World => (w'.cell? ⟨w.heap.size, 0, none⟩ = some (.slice (some ad) n c) ∧ w'.cell? ⟨w.heap.size, 1, none⟩ = some (.int .i64 rl) ∧ w'.cell? ⟨w.heap.size, 2, none⟩ = some (.int .i64 rh)) ∧ (w'.cell? ⟨w.heap.size + 1, 0, none⟩ = some (.int .i64 cx) ∧ w'.cell? ⟨w.heap.size + 1, 1, none⟩ = some (.int .i64 cy)) ∧ w'.cell? ak = some (.int .i64 px) ∧ w'.cell? ak1 = some (.int .i64 py))) (by kernel_rfl) ?_ ?_
        · first | exact HSQ.out _ HBc.out | exact HSQ.out _ HBd.out
        intro hHeld
        refine wpAnyH_take (i := 0) (v := ?_) rfl (by kernel_rfl) (by kernel_rfl) (by kernel_rfl) (fun _ _ _ h => h) (Or.inl ⟨by rfl, ?_⟩) (by assumption) ?_
        rotate_left
        · intro w hSw; (try dsimp only at hSw); go_simp; (try (with_reducible rfl))
        try simp only [List.getElem_toArray, List.getElem_cons_succ, List.getElem_cons_zero, Act.put, List.setIfInBounds_toArray, List.set_cons_zero, List.set_cons_succ]
        refine wpAnyH_take (i := 1) (v := ?_) rfl (by kernel_rfl) (by kernel_rfl) (by kernel_rfl) (fun _ _ _ h => h) (Or.inl ⟨by rfl, ?_⟩) (by assumption) ?_
        rotate_left
        · intro w hSw; (try dsimp only at hSw); go_simp; (try (with_reducible rfl))
        try simp only [List.getElem_toArray, List.getElem_cons_succ, List.getElem_cons_zero, Act.put, List.setIfInBounds_toArray, List.set_cons_zero, List.set_cons_succ]
        refine wpAnyH_take (i := 2) (v := ?_) rfl (by kernel_rfl) (by kernel_rfl) (by kernel_rfl) (fun _ _ _ h => h) (Or.inl ⟨by rfl, ?_⟩) (by assumption) ?_
        rotate_left
        · intro w hSw; (try dsimp only at hSw); go_simp; (try (with_reducible rfl))
        try simp only [List.getElem_toArray, List.getElem_cons_succ, List.getElem_cons_zero, Act.put, List.setIfInBounds_toArray, List.set_cons_zero, List.set_cons_succ]
        refine wpAnyH_take (i := 3) (v := ?_) rfl (by kernel_rfl) (by kernel_rfl) (by kernel_rfl) (fun _ _ _ h => h) (Or.inl ⟨by rfl, ?_⟩) (by assumption) ?_
        rotate_left
        · intro w hSw; (try dsimp only at hSw); go_simp; (try (with_reducible rfl))
        try simp only [List.getElem_toArray, List.getElem_cons_succ, List.getElem_cons_zero, Act.put, List.setIfInBounds_toArray, List.set_cons_zero, List.set_cons_succ]
        refine wpAnyH_take (i := 4) (v := ?_) rfl (by kernel_rfl) (by kernel_rfl) (by kernel_rfl) (fun _ _ _ h => h) (Or.inl ⟨by rfl, ?_⟩) (by assumption) ?_
        rotate_left
        · intro w hSw; (try dsimp only at hSw); go_simp; (try (with_reducible rfl))
        try simp only [List.getElem_toArray, List.getElem_cons_succ, List.getElem_cons_zero, Act.put, List.setIfInBounds_toArray, List.set_cons_zero, List.set_cons_succ]
        refine wpAnyH_take (i := 5) (v := ?_) rfl (by kernel_rfl) (by kernel_rfl) (by kernel_rfl) (fun _ _ _ h => h) (Or.inl ⟨by rfl, ?_⟩) (by assumption) ?_
        rotate_left
        · intro w hSw; (try dsimp only at hSw); go_simp; (try (with_reducible rfl))
        try simp only [List.getElem_toArray, List.getElem_cons_succ, List.getElem_cons_zero, Act.put, List.setIfInBounds_toArray, List.set_cons_zero, List.set_cons_succ]
        refine wpAnyH_take (i := 7) (v := ?_) rfl (by kernel_rfl) (by kernel_rfl) (by kernel_rfl) (fun _ _ _ h => h) (Or.inl ⟨by rfl, ?_⟩) (by assumption) ?_
        rotate_left
        · intro w hSw; (try dsimp only at hSw); go_simp; (try (with_reducible rfl))
        try simp only [List.getElem_toArray, List.getElem_cons_succ, List.getElem_cons_zero, Act.put, List.setIfInBounds_toArray, List.set_cons_zero, List.set_cons_succ]
        refine wpAnyH_take (i := 8) (v := ?_) rfl (by kernel_rfl) (by kernel_rfl) (by kernel_rfl) (fun _ _ _ h => h) (Or.inl ⟨by rfl, ?_⟩) (by assumption) ?_
        rotate_left
        · intro w hSw; (try dsimp only at hSw); go_simp; (try (with_reducible rfl))
        try simp only [List.getElem_toArray, List.getElem_cons_succ, List.getElem_cons_zero, Act.put, List.setIfInBounds_toArray, List.set_cons_zero, List.set_cons_succ]
        refine wpAnyH_take (i := 9) (v := ?_) rfl (by kernel_rfl) (by kernel_rfl) (by kernel_rfl) (fun _ _ _ h => h) (Or.inl ⟨by rfl, ?_⟩) (by assumption) ?_
        rotate_left
        · intro w hSw; (try dsimp only at hSw); go_simp; (try (with_reducible rfl))
        try simp only [List.getElem_toArray, List.getElem_cons_succ, List.getElem_cons_zero, Act.put, List.setIfInBounds_toArray, List.set_cons_zero, List.set_cons_succ]
        refine wpAnyH_take (i := 10) (v := ?_) rfl (by kernel_rfl) (by kernel_rfl) (by kernel_rfl) (fun _ _ _ h => h) (Or.inl ⟨by rfl, ?_⟩) (by assumption) ?_
        rotate_left
        · intro w hSw; (try dsimp only at hSw); go_simp; (try (with_reducible rfl))
        try simp only [List.getElem_toArray, List.getElem_cons_succ, List.getElem_cons_zero, Act.put, List.setIfInBounds_toArray, List.set_cons_zero, List.set_cons_succ]
        refine wpAnyH_take (i := 11) (v := ?_) rfl (by kernel_rfl) (by kernel_rfl) (by kernel_rfl) (fun _ _ _ h => h) (Or.inl ⟨by rfl, ?_⟩) (by assumption) ?_
        rotate_left
        · intro w hSw; (try dsimp only at hSw); go_simp; (try (with_reducible rfl))
        try simp only [List.getElem_toArray, List.getElem_cons_succ, List.getElem_cons_zero, Act.put, List.setIfInBounds_toArray, List.set_cons_zero, List.set_cons_succ]
        refine wpAnyH_take (i := 12) (v := ?_) rfl (by kernel_rfl) (by kernel_rfl) (by kernel_rfl) (fun _ _ _ h => h) (Or.inl ⟨by rfl, ?_⟩) (by assumption) ?_
        rotate_left
        · intro w hSw; (try dsimp only at hSw); go_simp; (try (with_reducible rfl))
        try simp only [List.getElem_toArray, List.getElem_cons_succ, List.getElem_cons_zero, Act.put, List.setIfInBounds_toArray, List.set_cons_zero, List.set_cons_succ]
        refine wpAnyH_take (i := 13) (v := ?_) rfl (by kernel_rfl) (by kernel_rfl) (by kernel_rfl) (fun _ _ _ h => h) (Or.inl ⟨by rfl, ?_⟩) (by assumption) ?_
        rotate_left
        · intro w hSw; (try dsimp only at hSw); go_simp; (try (with_reducible rfl))
        try simp only [List.getElem_toArray, List.getElem_cons_succ, List.getElem_cons_zero, Act.put, List.setIfInBounds_toArray, List.set_cons_zero, List.set_cons_succ]
        refine wpAnyH_take (i := 14) (v := ?_) rfl (by kernel_rfl) (by kernel_rfl) (by kernel_rfl) (fun _ _ _ h => h) (Or.inl ⟨by rfl, ?_⟩) (by assumption) ?_
        rotate_left
        · intro w hSw; (try dsimp only at hSw); go_simp; (try (with_reducible rfl))
        try simp only [List.getElem_toArray, List.getElem_cons_succ, List.getElem_cons_zero, Act.put, List.setIfInBounds_toArray, List.set_cons_zero, List.set_cons_succ]
        refine wpAnyH_take (i := 15) (v := ?_) rfl (by kernel_rfl) (by kernel_rfl) (by kernel_rfl) (fun _ _ _ h => h) (Or.inl ⟨by rfl, ?_⟩) (by assumption) ?_
        rotate_left
        · intro w hSw; (try dsimp only at hSw); go_simp; (try (with_reducible rfl))
        try simp only [List.getElem_toArray, List.getElem_cons_succ, List.getElem_cons_zero, Act.put, List.setIfInBounds_toArray, List.set_cons_zero, List.set_cons_succ]
        refine wpAnyH_take (i := 16) (v := ?_) rfl (by kernel_rfl) (by kernel_rfl) (by kernel_rfl) (fun _ _ _ h => h) (Or.inl ⟨by rfl, ?_⟩) (by assumption) ?_
        rotate_left
        · intro w hSw; (try dsimp only at hSw); go_simp; (try (with_reducible rfl))
        try simp only [List.getElem_toArray, List.getElem_cons_succ, List.getElem_cons_zero, Act.put, List.setIfInBounds_toArray, List.set_cons_zero, List.set_cons_succ]
        refine wpAnyH_take (i := 17) (v := ?_) rfl (by kernel_rfl) (by kernel_rfl) (by kernel_rfl) (fun _ _ _ h => h) (Or.inl ⟨by rfl, ?_⟩) (by assumption) ?_
        rotate_left
        · intro w hSw; (try dsimp only at hSw); go_simp; (try (with_reducible rfl))
        try simp only [List.getElem_toArray, List.getElem_cons_succ, List.getElem_cons_zero, Act.put, List.setIfInBounds_toArray, List.set_cons_zero, List.set_cons_succ]
        refine wpAnyH_take (i := 18) (v := ?_) rfl (by kernel_rfl) (by kernel_rfl) (by kernel_rfl) (fun _ _ _ h => h) (Or.inl ⟨by rfl, ?_⟩) (by assumption) ?_
        rotate_left
        · intro w hSw; (try dsimp only at hSw); go_simp; (try (with_reducible rfl))
        try simp only [List.getElem_toArray, List.getElem_cons_succ, List.getElem_cons_zero, Act.put, List.setIfInBounds_toArray, List.set_cons_zero, List.set_cons_succ]
        refine wpAnyH_take (i := 19) (v := ?_) rfl (by kernel_rfl) (by kernel_rfl) (by kernel_rfl) (fun _ _ _ h => h) (Or.inl ⟨by rfl, ?_⟩) (by assumption) ?_
        rotate_left
        · intro w hSw; (try dsimp only at hSw); go_simp; (try (with_reducible rfl))
        try simp only [List.getElem_toArray, List.getElem_cons_succ, List.getElem_cons_zero, Act.put, List.setIfInBounds_toArray, List.set_cons_zero, List.set_cons_succ]
        refine wpAnyH_take (i := 20) (v := ?_) rfl (by kernel_rfl) (by kernel_rfl) (by kernel_rfl) (fun _ _ _ h => h) (Or.inl ⟨by rfl, ?_⟩) (by assumption) ?_
        rotate_left
        · intro w hSw; (try dsimp only at hSw); go_simp; (try (with_reducible rfl))
        try simp only [List.getElem_toArray, List.getElem_cons_succ, List.getElem_cons_zero, Act.put, List.setIfInBounds_toArray, List.set_cons_zero, List.set_cons_succ]
        refine wpAnyH_ready (rs := [6]) (by kernel_rfl) (by simp) ?_
        refine AllReadyH.cons rfl (fun K hK => ?_) AllReadyH.nil
        go_simp
        go_at_call 20; refine (CSq.out _).mono ?_; rintro e wz ⟨rfl, hbz⟩; have HBc := Lib.hid (HBd.out.trans (hbz.mono HBd.out.size)); clear hbz
        go_wp2_with fail
        refine hK.out _ _ ?_ (fun hHeld => ?_)
        · clear hK K; first | exact HSQ.out _ HBc.out | exact HSQ.out _ HBd.out
        clear hK K
        try simp only [List.getElem_toArray, List.getElem_cons_succ, List.getElem_cons_zero, Act.put, List.setIfInBounds_toArray, List.set_cons_zero, List.set_cons_succ]
        refine wpAnyH_ready (rs := [21]) (by kernel_rfl) (by simp) ?_
        refine AllReadyH.cons rfl (fun K hK => ?_) AllReadyH.nil
        go_simp
        go_at_call 18; refine (CWi.out _).mono ?_; rintro e w' ⟨rfl, rfl⟩
        go_wp2_with fail
        refine hK.out _ _ ?_ (fun hHeld => ?_)
        · clear hK K; first | exact HSQ.out _ HBc.out | exact HSQ.out _ HBd.out
        clear hK K
        try simp only [List.getElem_toArray, List.getElem_cons_succ, List.getElem_cons_zero, Act.put, List.setIfInBounds_toArray, List.set_cons_zero, List.set_cons_succ]
        refine wpAnyH_take (i := 22) (v := ?_) rfl (by kernel_rfl) (by kernel_rfl) (by kernel_rfl) (fun _ _ _ h => h) (Or.inl ⟨by rfl, ?_⟩) (by assumption) ?_
        rotate_left
        · intro w hSw; (try dsimp only at hSw); go_simp; (try (with_reducible rfl))
        try simp only [List.getElem_toArray, List.getElem_cons_succ, List.getElem_cons_zero, Act.put, List.setIfInBounds_toArray, List.set_cons_zero, List.set_cons_succ]
        refine wpAnyH_done (by kernel_rfl) ?_ _
        obtain ⟨wd, hwd⟩ : ∃ W, W = wz := ⟨_, rfl⟩
        subst hwd
        have HB2 := Lib.hid (HB.out.trans (HBc.out.mono HB.out.size))
        clear hHeld HBc HBd HSQ c0 c1 c2 c3 c4 c5 c6 d0 d1
        go_wp2
        go_roundw
        case rel => exact ⟨k + 1, by omega, by go_num, HV.out, HB2.out⟩
        case measure => simp [intOf]; omega
      | true =>
        rw [hob] at CWi
        have HV := Lib.hid (fstF_yes HF.out hob n hlt)
        clear hob
        go_wp2_with fail
        refine wp_region_held_drew (S := (fun w' : World => (w'.cell? ⟨w.heap.size, 0, none⟩ = some (.slice (some ad) n c) ∧ w'.cell? ⟨w.heap.size, 1, none⟩ = some (.int .i64 rl) ∧ w'.cell? ⟨w.heap.size, 2, none⟩ = some (.int .i64 rh)) ∧ (w'.cell? ⟨w.heap.size + 1, 0, none⟩ = some (.int .i64 cx) ∧ w'.cell? ⟨w.heap.size + 1, 1, none⟩ = some (.int .i64 cy)) ∧ w'.cell? ak = some (.int .i64 px) ∧ w'.cell? ak1 = some (.int .i64 py))) (by kernel_rfl) ?_ ?_
        · first | exact HSQ.out _ HBc.out | exact HSQ.out _ HBd.out
        intro hHeld
        refine wpAnyH_take (i := 0) (v := ?_) rfl (by kernel_rfl) (by kernel_rfl) (by kernel_rfl) (fun _ _ _ h => h) (Or.inl ⟨by rfl, ?_⟩) (by assumption) ?_
        rotate_left
        · intro w hSw; (try dsimp only at hSw); go_simp; (try (with_reducible rfl))
        try simp only [List.getElem_toArray, List.getElem_cons_succ, List.getElem_cons_zero, Act.put, List.setIfInBounds_toArray, List.set_cons_zero, List.set_cons_succ]
        refine wpAnyH_take (i := 1) (v := ?_) rfl (by kernel_rfl) (by kernel_rfl) (by kernel_rfl) (fun _ _ _ h => h) (Or.inl ⟨by rfl, ?_⟩) (by assumption) ?_
        rotate_left
        · intro w hSw; (try dsimp only at hSw); go_simp; (try (with_reducible rfl))
        try simp only [List.getElem_toArray, List.getElem_cons_succ, List.getElem_cons_zero, Act.put, List.setIfInBounds_toArray, List.set_cons_zero, List.set_cons_succ]
        refine wpAnyH_take (i := 2) (v := ?_) rfl (by kernel_rfl) (by kernel_rfl) (by kernel_rfl) (fun _ _ _ h => h) (Or.inl ⟨by rfl, ?_⟩) (by assumption) ?_
        rotate_left
        · intro w hSw; (try dsimp only at hSw); go_simp; (try (with_reducible rfl))
        try simp only [List.getElem_toArray, List.getElem_cons_succ, List.getElem_cons_zero, Act.put, List.setIfInBounds_toArray, List.set_cons_zero, List.set_cons_succ]
        refine wpAnyH_take (i := 3) (v := ?_) rfl (by kernel_rfl) (by kernel_rfl) (by kernel_rfl) (fun _ _ _ h => h) (Or.inl ⟨by rfl, ?_⟩) (by assumption) ?_
        rotate_left
        · intro w hSw; (try dsimp only at hSw); go_simp; (try (with_reducible rfl))
        try simp only [List.getElem_toArray, List.getElem_cons_succ, List.getElem_cons_zero, Act.put, List.setIfInBounds_toArray, List.set_cons_zero, List.set_cons_succ]
        refine wpAnyH_take (i := 4) (v := ?_) rfl (by kernel_rfl) (by kernel_rfl) (by kernel_rfl) (fun _ _ _ h => h) (Or.inl ⟨by rfl, ?_⟩) (by assumption) ?_
        rotate_left
        · intro w hSw; (try dsimp only at hSw); go_simp; (try (with_reducible rfl))
        try simp only [List.getElem_toArray, List.getElem_cons_succ, List.getElem_cons_zero, Act.put, List.setIfInBounds_toArray, List.set_cons_zero, List.set_cons_succ]
        refine wpAnyH_take (i := 5) (v := ?_) rfl (by kernel_rfl) (by kernel_rfl) (by kernel_rfl) (fun _ _ _ h => h) (Or.inl ⟨by rfl, ?_⟩) (by assumption) ?_
        rotate_left
        · intro w hSw; (try dsimp only at hSw); go_simp; (try (with_reducible rfl))
        try simp only [List.getElem_toArray, List.getElem_cons_succ, List.getElem_cons_zero, Act.put, List.setIfInBounds_toArray, List.set_cons_zero, List.set_cons_succ]
        refine wpAnyH_take (i := 7) (v := ?_) rfl (by kernel_rfl) (by kernel_rfl) (by kernel_rfl) (fun _ _ _ h => h) (Or.inl ⟨by rfl, ?_⟩) (by assumption) ?_
        rotate_left
        · intro w hSw; (try dsimp only at hSw); go_simp; (try (with_reducible rfl))
        try simp only [List.getElem_toArray, List.getElem_cons_succ, List.getElem_cons_zero, Act.put, List.setIfInBounds_toArray, List.set_cons_zero, List.set_cons_succ]
        refine wpAnyH_take (i := 8) (v := ?_) rfl (by kernel_rfl) (by kernel_rfl) (by kernel_rfl) (fun _ _ _ h => h) (Or.inl ⟨by rfl, ?_⟩) (by assumption) ?_
        rotate_left
        · intro w hSw; (try dsimp only at hSw); go_simp; (try (with_reducible rfl))
        try simp only [List.getElem_toArray, List.getElem_cons_succ, List.getElem_cons_zero, Act.put, List.setIfInBounds_toArray, List.set_cons_zero, List.set_cons_succ]
        refine wpAnyH_take (i := 9) (v := ?_) rfl (by kernel_rfl) (by kernel_rfl) (by kernel_rfl) (fun _ _ _ h => h) (Or.inl ⟨by rfl, ?_⟩) (by assumption) ?_
        rotate_left
        · intro w hSw; (try dsimp only at hSw); go_simp; (try (with_reducible rfl))
        try simp only [List.getElem_toArray, List.getElem_cons_succ, List.getElem_cons_zero, Act.put, List.setIfInBounds_toArray, List.set_cons_zero, List.set_cons_succ]
        refine wpAnyH_take (i := 10) (v := ?_) rfl (by kernel_rfl) (by kernel_rfl) (by kernel_rfl) (fun _ _ _ h => h) (Or.inl ⟨by rfl, ?_⟩) (by assumption) ?_
        rotate_left
        · intro w hSw; (try dsimp only at hSw); go_simp; (try (with_reducible rfl))
        try simp only [List.getElem_toArray, List.getElem_cons_succ, List.getElem_cons_zero, Act.put, List.setIfInBounds_toArray, List.set_cons_zero, List.set_cons_succ]
        refine wpAnyH_take (i := 11) (v := ?_) rfl (by kernel_rfl) (by kernel_rfl) (by kernel_rfl) (fun _ _ _ h => h) (Or.inl ⟨by rfl, ?_⟩) (by assumption) ?_
        rotate_left
        · intro w hSw; (try dsimp only at hSw); go_simp; (try (with_reducible rfl))
        try simp only [List.getElem_toArray, List.getElem_cons_succ, List.getElem_cons_zero, Act.put, List.setIfInBounds_toArray, List.set_cons_zero, List.set_cons_succ]
        refine wpAnyH_take (i := 12) (v := ?_) rfl (by kernel_rfl) (by kernel_rfl) (by kernel_rfl) (fun _ _ _ h => h) (Or.inl ⟨by rfl, ?_⟩) (by assumption) ?_
        rotate_left
        · intro w hSw; (try dsimp only at hSw); go_simp; (try (with_reducible rfl))
        try simp only [List.getElem_toArray, List.getElem_cons_succ, List.getElem_cons_zero, Act.put, List.setIfInBounds_toArray, List.set_cons_zero, List.set_cons_succ]
        refine wpAnyH_take (i := 13) (v := ?_) rfl (by kernel_rfl) (by kernel_rfl) (by kernel_rfl) (fun _ _ _ h => h) (Or.inl ⟨by rfl, ?_⟩) (by assumption) ?_
        rotate_left
        · intro w hSw; (try dsimp only at hSw); go_simp; (try (with_reducible rfl))
        try simp only [List.getElem_toArray, List.getElem_cons_succ, List.getElem_cons_zero, Act.put, List.setIfInBounds_toArray, List.set_cons_zero, List.set_cons_succ]
        refine wpAnyH_take (i := 14) (v := ?_) rfl (by kernel_rfl) (by kernel_rfl) (by kernel_rfl) (fun _ _ _ h => h) (Or.inl ⟨by rfl, ?_⟩) (by assumption) ?_
        rotate_left
        · intro w hSw; (try dsimp only at hSw); go_simp; (try (with_reducible rfl))
        try simp only [List.getElem_toArray, List.getElem_cons_succ, List.getElem_cons_zero, Act.put, List.setIfInBounds_toArray, List.set_cons_zero, List.set_cons_succ]
        refine wpAnyH_take (i := 15) (v := ?_) rfl (by kernel_rfl) (by kernel_rfl) (by kernel_rfl) (fun _ _ _ h => h) (Or.inl ⟨by rfl, ?_⟩) (by assumption) ?_
        rotate_left
        · intro w hSw; (try dsimp only at hSw); go_simp; (try (with_reducible rfl))
        try simp only [List.getElem_toArray, List.getElem_cons_succ, List.getElem_cons_zero, Act.put, List.setIfInBounds_toArray, List.set_cons_zero, List.set_cons_succ]
        refine wpAnyH_take (i := 16) (v := ?_) rfl (by kernel_rfl) (by kernel_rfl) (by kernel_rfl) (fun _ _ _ h => h) (Or.inl ⟨by rfl, ?_⟩) (by assumption) ?_
        rotate_left
        · intro w hSw; (try dsimp only at hSw); go_simp; (try (with_reducible rfl))
        try simp only [List.getElem_toArray, List.getElem_cons_succ, List.getElem_cons_zero, Act.put, List.setIfInBounds_toArray, List.set_cons_zero, List.set_cons_succ]
        refine wpAnyH_take (i := 17) (v := ?_) rfl (by kernel_rfl) (by kernel_rfl) (by kernel_rfl) (fun _ _ _ h => h) (Or.inl ⟨by rfl, ?_⟩) (by assumption) ?_
        rotate_left
        · intro w hSw; (try dsimp only at hSw); go_simp; (try (with_reducible rfl))
        try simp only [List.getElem_toArray, List.getElem_cons_succ, List.getElem_cons_zero, Act.put, List.setIfInBounds_toArray, List.set_cons_zero, List.set_cons_succ]
        refine wpAnyH_take (i := 18) (v := ?_) rfl (by kernel_rfl) (by kernel_rfl) (by kernel_rfl) (fun _ _ _ h => h) (Or.inl ⟨by rfl, ?_⟩) (by assumption) ?_
        rotate_left
        · intro w hSw; (try dsimp only at hSw); go_simp; (try (with_reducible rfl))
        try simp only [List.getElem_toArray, List.getElem_cons_succ, List.getElem_cons_zero, Act.put, List.setIfInBounds_toArray, List.set_cons_zero, List.set_cons_succ]
        refine wpAnyH_take (i := 19) (v := ?_) rfl (by kernel_rfl) (by kernel_rfl) (by kernel_rfl) (fun _ _ _ h => h) (Or.inl ⟨by rfl, ?_⟩) (by assumption) ?_
        rotate_left
        · intro w hSw; (try dsimp only at hSw); go_simp; (try (with_reducible rfl))
        try simp only [List.getElem_toArray, List.getElem_cons_succ, List.getElem_cons_zero, Act.put, List.setIfInBounds_toArray, List.set_cons_zero, List.set_cons_succ]
        refine wpAnyH_take (i := 20) (v := ?_) rfl (by kernel_rfl) (by kernel_rfl) (by kernel_rfl) (fun _ _ _ h => h) (Or.inl ⟨by rfl, ?_⟩) (by assumption) ?_
        rotate_left
        · intro w hSw; (try dsimp only at hSw); go_simp; (try (with_reducible rfl))
        try simp only [List.getElem_toArray, List.getElem_cons_succ, List.getElem_cons_zero, Act.put, List.setIfInBounds_toArray, List.set_cons_zero, List.set_cons_succ]
        refine wpAnyH_ready (rs := [6]) (by kernel_rfl) (by simp) ?_
        refine AllReadyH.cons rfl (fun K hK => ?_) AllReadyH.nil
        go_simp
        go_at_call 20; refine (CSq.out _).mono ?_; rintro e wz ⟨rfl, hbz⟩; have HBc := Lib.hid (HBd.out.trans (hbz.mono HBd.out.size)); clear hbz
        go_wp2_with fail
        refine hK.out _ _ ?_ (fun hHeld => ?_)
        · clear hK K; first | exact HSQ.out _ HBc.out | exact HSQ.out _ HBd.out
        clear hK K
        try simp only [List.getElem_toArray, List.getElem_cons_succ, List.getElem_cons_zero, Act.put, List.setIfInBounds_toArray, List.set_cons_zero, List.set_cons_succ]
        refine wpAnyH_ready (rs := [21]) (by kernel_rfl) (by simp) ?_
        refine AllReadyH.cons rfl (fun K hK => ?_) AllReadyH.nil
        go_simp
        go_at_call 18; refine (CWi.out _).mono ?_; rintro e w' ⟨rfl, rfl⟩
        go_wp2_with fail
        refine hK.out _ _ ?_ (fun hHeld => ?_)
        · clear hK K; first | exact HSQ.out _ HBc.out | exact HSQ.out _ HBd.out
        clear hK K
        try simp only [List.getElem_toArray, List.getElem_cons_succ, List.getElem_cons_zero, Act.put, List.setIfInBounds_toArray, List.set_cons_zero, List.set_cons_succ]
        refine wpAnyH_take (i := 22) (v := ?_) rfl (by kernel_rfl) (by kernel_rfl) (by kernel_rfl) (fun _ _ _ h => h) (Or.inl ⟨by rfl, ?_⟩) (by assumption) ?_
        rotate_left
        · intro w hSw; (try dsimp only at hSw); go_simp; (try (with_reducible rfl))
        try simp only [List.getElem_toArray, List.getElem_cons_succ, List.getElem_cons_zero, Act.put, List.setIfInBounds_toArray, List.set_cons_zero, List.set_cons_succ]
        refine wpAnyH_done (by kernel_rfl) ?_ _
        obtain ⟨wd, hwd⟩ : ∃ W, W = wz := ⟨_, rfl⟩
        subst hwd
        have HB2 := Lib.hid (HB1.out.trans ((HB.out.trans (HBc.out.mono HB.out.size)).mono HB1.out.size))
        have HI2 : Hid (RI = (k : Int)) := Lib.hid (by rw [← HRI.out, HMI.out, HV.out, if_neg (by omega)])
        have HI3 : Hid (RE = 19) := Lib.hid (by rw [← HRE.out, HMI.out, HV.out, if_neg (by omega)])
        clear hHeld HBc HBd HSQ c0 c1 c2 c3 c4 c5 c6 d0 d1
        go_wp2
        go_ret2
        exact ⟨by rw [HI2.out, HI3.out]; rfl, HB2.out⟩
    · obtain rfl : n = k := by omega
      have HI2 : Hid (RI = 0) := Lib.hid (by rw [← HRI.out, HMI.out, HF.out, if_pos rfl])
      have HI3 : Hid (RE = 0) := Lib.hid (by rw [← HRE.out, HMI.out, HF.out, if_pos rfl])
      have HB2 := Lib.hid (HB1.out.trans (HB.out.mono HB1.out.size))
      go_wp2
      go_ret2
      exact ⟨by rw [HI2.out, HI3.out]; rfl, HB2.out⟩

theorem refCenter_any (A : Option Addr) (n c : Nat) (rl rh xl xh yl yh : Int) (ps : List (Int × Int)) (cx cy : Int) (w : World) (hr : RdP w A n ps) (hn : n ≤ 1000000) (hE : circE ps rl rh xl xh yl yh = 0) :
    Calls Tryd.prog 16 #[.agg #[.slice A n c, .int .i64 rl, .int .i64 rh, .int .i64 xl, .int .i64 xh, .int .i64 yl, .int .i64 yh], .agg #[.int .i64 cx, .int .i64 cy]] w fun e w' => e = .returned (.tuple #[.int .i64 (ctrI ps rl rh xl xh yl yh (cx, cy)), .int .i64 (ctrE ps rl rh xl xh yl yh (cx, cy))]) ∧ Below w.heap.size w w' := by
  unfold ctrI ctrE inB
  dsimp only
  cases hx : fromB xl xh [cx] with
  | false => exact refCenter_x A n c rl rh xl xh yl yh ps cx cy w hr hn hx
  | true =>
    cases hy : fromB yl yh [cy] with
    | false => exact refCenter_y A n c rl rh xl xh yl yh ps cx cy w hr hn hx hy
    | true =>
      rw [Bool.and_self, if_pos rfl, if_pos rfl]
      exact refCenter_in A n c rl rh xl xh yl yh ps cx cy w hr hn (circ_ok hE) hx hy

end Go.Proofs.YtpkjkegcdddimaaDoor

namespace Go.Proofs.YtpkjkegcdddimaaDoor
open Go.RowKit

theorem cenV_size (L : List (Int × Int)) : (cenV L).size = 6 := by unfold cenV; split <;> rfl
theorem cenV_one (L : List (Int × Int)) : (cenV L).all (·.oneCell') = true := by unfold cenV; split <;> simp [Value.oneCell']
theorem cenV_nil (L : List (Int × Int)) (h : L.length = 0) : cenV L = #[.int .i64 0, .int .i64 0, .int .i64 0, .int .i64 0, .int .i64 0, .int .i64 0] := if_pos h
theorem cenV_some (L : List (Int × Int)) (h : L.length ≠ 0) : cenV L = #[.int .i64 (hdA L).1, .int .i64 (hdA L).2, .int .i64 (mnA Prod.fst L), .int .i64 (mxA Prod.fst L), .int .i64 (mnA Prod.snd L), .int .i64 (mxA Prod.snd L)] := if_neg h
theorem cenV_first (L : List (Int × Int)) (x y : Int) (h : L.length = 0) : cenV (L ++ [(x, y)]) = #[.int .i64 x, .int .i64 y, .int .i64 x, .int .i64 x, .int .i64 y, .int .i64 y] := by
  rw [List.eq_nil_of_length_eq_zero h, List.nil_append, cenV_some _ (by simp), mnA_one, mxA_one, mnA_one, mxA_one]; rfl
theorem cenV_next (L : List (Int × Int)) (x y : Int) (h : 0 < L.length) : cenV (L ++ [(x, y)]) = #[.int .i64 (hdA L).1, .int .i64 (hdA L).2, .int .i64 (min (mnA Prod.fst L) x), .int .i64 (max (mxA Prod.fst L) x), .int .i64 (min (mnA Prod.snd L) y), .int .i64 (max (mxA Prod.snd L) y)] := by
  rw [cenV_some _ (by rw [List.length_append]; simp), hdA_snoc _ h, mnA_snoc _ _ h, mxA_snoc _ _ h, mnA_snoc _ _ h, mxA_snoc _ _ h]

set_option maxRecDepth 100000 in
set_option maxHeartbeats 4000000 in
theorem refCenters_any (A : Option Addr) (n c : Nat) (rl rh xl xh yl yh : Int) (ps : List (Int × Int)) (w : World) (hr : RdP w A n ps) (hn : n ≤ 1000000) (hE : circE ps rl rh xl xh yl yh = 0) :
    Calls Tryd.prog 17 #[.agg #[.slice A n c, .int .i64 rl, .int .i64 rh, .int .i64 xl, .int .i64 xh, .int .i64 yl, .int .i64 yh]] w fun e w' => e = .returned (.tuple #[.agg (cenV (cenL ps rl rh xl xh yl yh)), .bool (!decide ((cenL ps rl rh xl xh yl yh).length = 0))]) ∧ Below w.heap.size w w' := by
  obtain ⟨W1, hW1⟩ : ∃ W, ((w.alloc (.cells #[.slice A n c, .int .i64 rl, .int .i64 rh, .int .i64 xl, .int .i64 xh, .int .i64 yl, .int .i64 yh] 39)).alloc (.cells #[.int .i64 0, .int .i64 0, .int .i64 0, .int .i64 0, .int .i64 0, .int .i64 0] 44)).alloc (.cells #[.int .i64 0, .int .i64 0, .int .i64 0, .int .i64 0, .int .i64 0, .int .i64 0] 44) = W := ⟨_, rfl⟩
  have hb1 : Below w.heap.size w W1 := by rw [← hW1]; exact (((Below.refl _ _).alloc (Nat.le_refl _) _).alloc (by simp) _).alloc (by simp; omega) _
  have k0 : Bk W1 w.heap.size 39 #[.slice A n c, .int .i64 rl, .int .i64 rh, .int .i64 xl, .int .i64 xh, .int .i64 yl, .int .i64 yh] := by rw [← hW1]; exact ((Bk.new w 39 #[.slice A n c, .int .i64 rl, .int .i64 rh, .int .i64 xl, .int .i64 xh, .int .i64 yl, .int .i64 yh]).alloc _).alloc _
  have k1 : Bk W1 (w.heap.size + 1) 44 #[.int .i64 0, .int .i64 0, .int .i64 0, .int .i64 0, .int .i64 0, .int .i64 0] := by
    rw [← hW1]
    have := Bk.new (w.alloc (.cells #[.slice A n c, .int .i64 rl, .int .i64 rh, .int .i64 xl, .int .i64 xh, .int .i64 yl, .int .i64 yh] 39)) 44 #[.int .i64 0, .int .i64 0, .int .i64 0, .int .i64 0, .int .i64 0, .int .i64 0]
    exact Bk.alloc (by simpa using this) _
  have k2 : Bk W1 (w.heap.size + 2) 44 #[.int .i64 0, .int .i64 0, .int .i64 0, .int .i64 0, .int .i64 0, .int .i64 0] := by
    rw [← hW1]
    have := Bk.new ((w.alloc (.cells #[.slice A n c, .int .i64 rl, .int .i64 rh, .int .i64 xl, .int .i64 xh, .int .i64 yl, .int .i64 yh] 39)).alloc (.cells #[.int .i64 0, .int .i64 0, .int .i64 0, .int .i64 0, .int .i64 0, .int .i64 0] 44)) 44 #[.int .i64 0, .int .i64 0, .int .i64 0, .int .i64 0, .int .i64 0, .int .i64 0]
    simpa using this
  have HK : Hid (∀ W, Below (w.heap.size + 2) W1 W → ((W.cell? ⟨w.heap.size, 0, none⟩ = some (.slice A n c) ∧ W.cell? ⟨w.heap.size, 1, none⟩ = some (.int .i64 rl) ∧ W.cell? ⟨w.heap.size, 2, none⟩ = some (.int .i64 rh) ∧ W.cell? ⟨w.heap.size, 3, none⟩ = some (.int .i64 xl) ∧ W.cell? ⟨w.heap.size, 4, none⟩ = some (.int .i64 xh) ∧ W.cell? ⟨w.heap.size, 5, none⟩ = some (.int .i64 yl) ∧ W.cell? ⟨w.heap.size, 6, none⟩ = some (.int .i64 yh)) ∧ Bk W (w.heap.size + 1) 44 #[.int .i64 0, .int .i64 0, .int .i64 0, .int .i64 0, .int .i64 0, .int .i64 0]) ∧ Below w.heap.size w W ∧ RdP W A n ps) := Lib.hid (fun W hb => by
    have h0 := k0.below hb (by omega)
    have hb2 := hb1.trans (hb.mono (by omega))
    exact ⟨⟨⟨by rw [h0.cell]; rfl, by rw [h0.cell]; rfl, by rw [h0.cell]; rfl, by rw [h0.cell]; rfl, by rw [h0.cell]; rfl, by rw [h0.cell]; rfl, by rw [h0.cell]; rfl⟩, k1.below hb (by omega)⟩, hb2, hr.below hb2⟩)
  have HO := Lib.hid k2
  obtain ⟨hg0, hg1, hg2, hg3, hg4⟩ := circ_ok hE
  rw [hr.1] at hg0 hg1
  have CM : Hid (∀ x y : Int, ∀ W, RdP W A n ps → Calls Tryd.prog 16 #[.agg #[.slice A n c, .int .i64 rl, .int .i64 rh, .int .i64 xl, .int .i64 xh, .int .i64 yl, .int .i64 yh], .agg #[.int .i64 x, .int .i64 y]] W fun e w' => e = .returned (.tuple #[.int .i64 (ctrI ps rl rh xl xh yl yh (x, y)), .int .i64 (ctrE ps rl rh xl xh yl yh (x, y))]) ∧ Below W.heap.size W w') := Lib.hid (fun x y W h => refCenter_any A n c rl rh xl xh yl yh ps x y W h hn hE)
  obtain ⟨nx, hnx⟩ : ∃ k, (xh - xl + 1).toNat = k := ⟨_, rfl⟩
  obtain ⟨ny, hny⟩ : ∃ k, (yh - yl + 1).toNat = k := ⟨_, rfl⟩
  have hcl : cenL ps rl rh xl xh yl yh = allL (fitB ps rl rh) xl yl ny nx := by unfold cenL; rw [hnx, hny]
  obtain ⟨LL, hLL⟩ : ∃ L, cenL ps rl rh xl xh yl yh = L := ⟨_, rfl⟩
  rw [hLL] at hcl ⊢
  obtain ⟨CV0, hCV⟩ : ∃ z, cenV LL = z := ⟨_, rfl⟩
  obtain ⟨FV, hFV⟩ : ∃ z : Bool, (!decide (LL.length = 0)) = z := ⟨_, rfl⟩
  rw [hCV, hFV]
  have HCV := Lib.hid hCV
  have HFV := Lib.hid hFV
  have HCL := Lib.hid hcl
  have hb1' : xl + (nx : Int) = xh + 1 ∧ yl + (ny : Int) = yh + 1 := by omega
  have hb2 : nx ≤ 30 ∧ ny ≤ 30 := by omega
  clear hr hb1 k0 k1 k2 hE hLL hcl hg1 hnx hny hCV hFV
  go_enter Tryd.func17, Tryd.ntmps17
  go_upto_region 2 with (fail)
  try rw [hW1]
  clear hW1
  obtain ⟨⟨c0, c1, c2, c3, c4, c5, c6⟩, HZ⟩ := (HK.out _ (Below.refl _ _)).1
  replace HZ := Lib.hid HZ
  go_wp2
  go_loopw [5, 6] (fun fv xv wr => ∃ a : Nat, a ≤ nx ∧ xv = .int .i64 (xl + (a : Int)) ∧ fv = .bool (decide (0 < (allL (fitB ps rl rh) xl yl ny a).length)) ∧ Hid (Bk wr (w.heap.size + 2) 44 (cenV (allL (fitB ps rl rh) xl yl ny a))) ∧ Hid (Below (w.heap.size + 2) W1 wr)) (fun _ xv _ => (xh + 1 - intOf xv).toNat)
  case atStart => exact ⟨0, Nat.zero_le _, by simp, rfl, HO.out, Below.refl _ _⟩
  case round =>
    obtain ⟨a, ha, rfl, rfl, HKB, HB⟩ := hrel
    obtain ⟨LA, hLA⟩ : ∃ L, allL (fitB ps rl rh) xl yl ny a = L := ⟨_, rfl⟩
    have hlA := allL_length (fitB ps rl rh) xl yl ny hb2.2 a
    rw [hLA] at HKB hlA ⊢
    have HLA := Lib.hid hLA
    clear hLA
    obtain ⟨x, hx⟩ : ∃ x, xl + (a : Int) = x := ⟨_, rfl⟩
    rw [hx]
    obtain ⟨⟨c0, c1, c2, c3, c4, c5, c6⟩, HZ⟩ := (HK.out _ HB.out).1
    replace HZ := Lib.hid HZ
    by_cases hlt : a < nx
    · have hxI : x ≤ xh := by omega
      have hxw : IntKind.i64.wrap (x + 1) = x + 1 := IntWalk.i64_in _ (by omega)
      go_wp2
      go_loopw [5, 7] (fun fv yv wq => ∃ k : Nat, k ≤ ny ∧ yv = .int .i64 (yl + (k : Int)) ∧ fv = .bool (decide (0 < (LA ++ colL (fitB ps rl rh) x yl k).length)) ∧ Hid (Bk wq (w.heap.size + 2) 44 (cenV (LA ++ colL (fitB ps rl rh) x yl k))) ∧ Hid (Below (w.heap.size + 2) W1 wq)) (fun _ yv _ => (yh + 1 - intOf yv).toNat)
      case atStart => exact ⟨0, Nat.zero_le _, by simp, by simp only [colL, List.append_nil], by show Bk _ _ _ _; simp only [colL, List.append_nil]; exact HKB.out, HB.out⟩
      case round =>
        clear HKB HB c0 c1 c2 c3 c4 c5 c6 HZ
        obtain ⟨k, hk, rfl, rfl, HKB, HB⟩ := hrel
        have HSZ : w.heap.size + 2 ≤ wr.heap.size := by have := HKB.out.lt; omega
        obtain ⟨y, hy⟩ : ∃ y, yl + (k : Int) = y := ⟨_, rfl⟩
        rw [hy]
        obtain ⟨⟨c0, c1, c2, c3, c4, c5, c6⟩, HZ⟩ := (HK.out _ HB.out).1
        replace HZ := Lib.hid HZ
        by_cases hltk : k < ny
        · have hyI : y ≤ yh := by omega
          have hyw : IntKind.i64.wrap (y + 1) = y + 1 := IntWalk.i64_in _ (by omega)
          have hcol : colL (fitB ps rl rh) x yl (k + 1) = if fitB ps rl rh (x, y) = true then colL (fitB ps rl rh) x yl k ++ [(x, y)] else colL (fitB ps rl rh) x yl k := by rw [← hy]; rfl
          have hin : inB xl xh yl yh (x, y) = true := by
            unfold inB
            rw [Bool.and_eq_true, fromB_one, fromB_one]
            dsimp only
            omega
          have hce : ctrE ps rl rh xl xh yl yh (x, y) = if misI rl rh ps (x, y) = -1 then 0 else 19 := by unfold ctrE; rw [if_pos hin]
          obtain ⟨fb, hfb⟩ : ∃ b, decide (0 < (LA ++ colL (fitB ps rl rh) x yl k).length) = b := ⟨_, rfl⟩
          by_cases hm : misI rl rh ps (x, y) = -1
          · have HCE : ctrE ps rl rh xl xh yl yh (x, y) = 0 := by rw [hce, if_pos hm]
            rw [show fitB ps rl rh (x, y) = true from decide_eq_true hm, if_pos rfl] at hcol
            have HCX : Hid (LA ++ colL (fitB ps rl rh) x yl (k + 1) = (LA ++ colL (fitB ps rl rh) x yl k) ++ [(x, y)]) := Lib.hid (by rw [hcol, List.append_assoc])
            have HPOS : Hid (decide (0 < (LA ++ colL (fitB ps rl rh) x yl (k + 1)).length) = true) := Lib.hid (by rw [HCX.out, List.length_append]; exact decide_eq_true (by simp))
            rw [hfb]
            clear hcol hce hin hm
            go_upto_region 10 with (fail)
            obtain ⟨W2, hW2⟩ : ∃ W, wr.alloc (.cells #[.int .i64 x, .int .i64 y] 30) = W := ⟨_, rfl⟩
            have hbx : Below wr.heap.size wr W2 := by rw [← hW2]; exact (Below.refl _ _).alloc (Nat.le_refl _) _
            have hpt : Bk W2 wr.heap.size 30 #[.int .i64 x, .int .i64 y] := by rw [← hW2]; exact Bk.new _ _ _
            have HB2 := Lib.hid (HB.out.trans (hbx.mono HSZ))
            have HK2 := Lib.hid (HKB.out.later hbx)
            rw [hW2]
            obtain ⟨gp, hgp⟩ : ∃ g, wr.heap.size = g := ⟨_, rfl⟩
            rw [hgp] at hpt ⊢
            have HPT := Lib.hid hpt
            have p0 : W2.cell? ⟨gp, 0, none⟩ = some (.int .i64 x) := by rw [HPT.out.cell]; rfl
            have p1 : W2.cell? ⟨gp, 1, none⟩ = some (.int .i64 y) := by rw [HPT.out.cell]; rfl
            have HSZ2 : w.heap.size + 2 ≤ W2.heap.size := by have := HB2.out.size; have := HPT.out.lt; have := HK2.out.lt; omega
            clear hW2 hbx hpt hgp HB HKB c0 c1 c2 c3 c4 c5 c6 HZ
            obtain ⟨⟨c0, c1, c2, c3, c4, c5, c6⟩, HZ⟩ := (HK.out _ HB2.out).1
            replace HZ := Lib.hid HZ
            have CMx := Lib.hid (CM.out x y _ (HK.out _ HB2.out).2.2)
            rw [HCE] at CMx
            go_wp2_with fail
            refine CMx.out.mono ?_
            rintro e w3 ⟨rfl, hb3⟩
            have HB3 := Lib.hid (HB2.out.trans (hb3.mono HSZ2))
            have HK3 := Lib.hid (HK2.out.later hb3)
            have HPT3 := Lib.hid (HPT.out.later hb3)
            have HSZ3 : w.heap.size + 2 ≤ w3.heap.size := by have := HK3.out.lt; omega
            clear hb3 c0 c1 c2 c3 c4 c5 c6 HZ HB2 HK2 HPT p0 p1 HSZ2 CMx
            by_cases h0 : (LA ++ colL (fitB ps rl rh) x yl k).length = 0
            · have hf0 : fb = false := by rw [← hfb]; exact decide_eq_false (by omega)
              subst hf0
              rw [cenV_nil _ h0] at HK3
              have hIs : Hid ((Tryd.prog.info? 44).map (·.size) = some (#[.int .i64 x, .int .i64 y, .int .i64 x, .int .i64 x, .int .i64 y, .int .i64 y] : Array Value).size) := Lib.hid (by kernel_rfl)
              have hSs : Hid ((#[.int .i64 0, .int .i64 0, .int .i64 0, .int .i64 0, .int .i64 0, .int .i64 0] : Array Value).size = (#[.int .i64 x, .int .i64 y, .int .i64 x, .int .i64 x, .int .i64 y, .int .i64 y] : Array Value).size ∧ True) := Lib.hid ⟨rfl, trivial⟩
              have hOs : Hid ((#[.int .i64 x, .int .i64 y, .int .i64 x, .int .i64 x, .int .i64 y, .int .i64 y] : Array Value).all (·.oneCell') = true) := Lib.hid (by simp [Value.oneCell'])
              obtain ⟨W4, hW4⟩ : ∃ W, w3.setRow (w.heap.size + 2) #[.int .i64 x, .int .i64 y, .int .i64 x, .int .i64 x, .int .i64 y, .int .i64 y] = W := ⟨_, rfl⟩
              have KK : Hid (Bk W4 (w.heap.size + 2) 44 #[.int .i64 x, .int .i64 y, .int .i64 x, .int .i64 x, .int .i64 y, .int .i64 y]) := Lib.hid (by rw [← hW4]; exact setRow_heap w3 (w.heap.size + 2) _ #[.int .i64 x, .int .i64 y, .int .i64 x, .int .i64 x, .int .i64 y, .int .i64 y] _ _ HK3.out)
              have HB4 : Hid (Below (w.heap.size + 2) W1 W4) := Lib.hid (by rw [← hW4]; exact below_setRow HB3.out (Nat.le_refl _) _)
              have p0 : w3.cell? ⟨gp, 0, none⟩ = some (.int .i64 x) := by rw [HPT3.out.cell]; rfl
              have p1 : w3.cell? ⟨gp, 1, none⟩ = some (.int .i64 y) := by rw [HPT3.out.cell]; rfl
              have k0 : W4.cell? ⟨w.heap.size + 2, 0, none⟩ = some (.int .i64 x) := by rw [KK.out.cell]; rfl
              have kf0 : W4.frozen? ⟨w.heap.size + 2, 0, none⟩ = false := KK.out.frozen 0
              have k1 : W4.cell? ⟨w.heap.size + 2, 1, none⟩ = some (.int .i64 y) := by rw [KK.out.cell]; rfl
              have kf1 : W4.frozen? ⟨w.heap.size + 2, 1, none⟩ = false := KK.out.frozen 1
              have k2 : W4.cell? ⟨w.heap.size + 2, 2, none⟩ = some (.int .i64 x) := by rw [KK.out.cell]; rfl
              have kf2 : W4.frozen? ⟨w.heap.size + 2, 2, none⟩ = false := KK.out.frozen 2
              have k3 : W4.cell? ⟨w.heap.size + 2, 3, none⟩ = some (.int .i64 x) := by rw [KK.out.cell]; rfl
              have kf3 : W4.frozen? ⟨w.heap.size + 2, 3, none⟩ = false := KK.out.frozen 3
              have k4 : W4.cell? ⟨w.heap.size + 2, 4, none⟩ = some (.int .i64 y) := by rw [KK.out.cell]; rfl
              have kf4 : W4.frozen? ⟨w.heap.size + 2, 4, none⟩ = false := KK.out.frozen 4
              have k5 : W4.cell? ⟨w.heap.size + 2, 5, none⟩ = some (.int .i64 y) := by rw [KK.out.cell]; rfl
              have kf5 : W4.frozen? ⟨w.heap.size + 2, 5, none⟩ = false := KK.out.frozen 5
              obtain ⟨W5, hW5⟩ : ∃ W, (((W4.setCell ⟨w.heap.size + 2, 2, none⟩ (.int .i64 x)).setCell ⟨w.heap.size + 2, 3, none⟩ (.int .i64 x)).setCell ⟨w.heap.size + 2, 4, none⟩ (.int .i64 y)).setCell ⟨w.heap.size + 2, 5, none⟩ (.int .i64 y) = W := ⟨_, rfl⟩
              have K5 : Hid (Bk W5 (w.heap.size + 2) 44 (cenV (LA ++ colL (fitB ps rl rh) x yl k ++ [(x, y)]))) := Lib.hid (by
                rw [cenV_first _ x y h0, ← hW5]
                exact (((KK.out.set_ 2 _).set_ 3 _).set_ 4 _).set_ 5 _)
              have HB5 : Hid (Below (w.heap.size + 2) W1 W5) := Lib.hid (by rw [← hW5]; exact (((HB4.out.setCell (Nat.le_refl _) _).setCell (Nat.le_refl _) _).setCell (Nat.le_refl _) _).setCell (Nat.le_refl _) _)
              go_wp2_with (with_reducible refine wpList_store_row rfl 44 (.tmp 4) (.tmp 51) rfl (w.heap.size + 2) #[.int .i64 x, .int .i64 y, .int .i64 x, .int .i64 x, .int .i64 y, .int .i64 y] rfl rfl 44 #[.int .i64 0, .int .i64 0, .int .i64 0, .int .i64 0, .int .i64 0, .int .i64 0] HK3.out.heap hIs.out hSs.out.1 hOs.out ?_)
              go_roundw
              case rel => exact ⟨k + 1, by omega, by rw [show yl + ((k + 1 : Nat) : Int) = y + 1 by omega], by rw [HPOS.out], by rw [HCX.out]; exact K5.out, HB5.out⟩
              case measure => simp [intOf]; omega
            · have hf0 : fb = true := by rw [← hfb]; exact decide_eq_true (by omega)
              subst hf0
              obtain ⟨h1, g1⟩ : ∃ z, (hdA (LA ++ colL (fitB ps rl rh) x yl k)).1 = z := ⟨_, rfl⟩
              obtain ⟨h2, g2⟩ : ∃ z, (hdA (LA ++ colL (fitB ps rl rh) x yl k)).2 = z := ⟨_, rfl⟩
              obtain ⟨m1, g3⟩ : ∃ z, mnA Prod.fst (LA ++ colL (fitB ps rl rh) x yl k) = z := ⟨_, rfl⟩
              obtain ⟨m2, g4⟩ : ∃ z, mxA Prod.fst (LA ++ colL (fitB ps rl rh) x yl k) = z := ⟨_, rfl⟩
              obtain ⟨m3, g5⟩ : ∃ z, mnA Prod.snd (LA ++ colL (fitB ps rl rh) x yl k) = z := ⟨_, rfl⟩
              obtain ⟨m4, g6⟩ : ∃ z, mxA Prod.snd (LA ++ colL (fitB ps rl rh) x yl k) = z := ⟨_, rfl⟩
              obtain ⟨n1, hn1⟩ : ∃ z, (if x < m1 then x else m1) = z := ⟨_, rfl⟩
              obtain ⟨n2, hn2⟩ : ∃ z, (if m2 < x then x else m2) = z := ⟨_, rfl⟩
              obtain ⟨n3, hn3⟩ : ∃ z, (if y < m3 then y else m3) = z := ⟨_, rfl⟩
              obtain ⟨n4, hn4⟩ : ∃ z, (if m4 < y then y else m4) = z := ⟨_, rfl⟩
              have KK : Hid (Bk w3 (w.heap.size + 2) 44 #[.int .i64 h1, .int .i64 h2, .int .i64 m1, .int .i64 m2, .int .i64 m3, .int .i64 m4]) := Lib.hid (by have := HK3.out; rw [cenV_some _ h0, g1, g2, g3, g4, g5, g6] at this; exact this)
              have HN : Hid (cenV (LA ++ colL (fitB ps rl rh) x yl k ++ [(x, y)]) = #[.int .i64 h1, .int .i64 h2, .int .i64 n1, .int .i64 n2, .int .i64 n3, .int .i64 n4]) := Lib.hid (by
                rw [cenV_next _ x y (by omega), g1, g2, g3, g4, g5, g6, ← hn1, ← hn2, ← hn3, ← hn4]
                simp only [Int.min_def, Int.max_def]
                congr 1
                simp only [List.cons.injEq, Value.int.injEq, true_and, and_true]
                refine ⟨?_, ?_, ?_, ?_⟩ <;> (split <;> split <;> omega))
              have k0 : w3.cell? ⟨w.heap.size + 2, 0, none⟩ = some (.int .i64 h1) := by rw [KK.out.cell]; rfl
              have kf0 : w3.frozen? ⟨w.heap.size + 2, 0, none⟩ = false := KK.out.frozen 0
              have k1 : w3.cell? ⟨w.heap.size + 2, 1, none⟩ = some (.int .i64 h2) := by rw [KK.out.cell]; rfl
              have kf1 : w3.frozen? ⟨w.heap.size + 2, 1, none⟩ = false := KK.out.frozen 1
              have k2 : w3.cell? ⟨w.heap.size + 2, 2, none⟩ = some (.int .i64 m1) := by rw [KK.out.cell]; rfl
              have kf2 : w3.frozen? ⟨w.heap.size + 2, 2, none⟩ = false := KK.out.frozen 2
              have k3 : w3.cell? ⟨w.heap.size + 2, 3, none⟩ = some (.int .i64 m2) := by rw [KK.out.cell]; rfl
              have kf3 : w3.frozen? ⟨w.heap.size + 2, 3, none⟩ = false := KK.out.frozen 3
              have k4 : w3.cell? ⟨w.heap.size + 2, 4, none⟩ = some (.int .i64 m3) := by rw [KK.out.cell]; rfl
              have kf4 : w3.frozen? ⟨w.heap.size + 2, 4, none⟩ = false := KK.out.frozen 4
              have k5 : w3.cell? ⟨w.heap.size + 2, 5, none⟩ = some (.int .i64 m4) := by rw [KK.out.cell]; rfl
              have kf5 : w3.frozen? ⟨w.heap.size + 2, 5, none⟩ = false := KK.out.frozen 5
              obtain ⟨W5, hW5⟩ : ∃ W, (((w3.setCell ⟨w.heap.size + 2, 2, none⟩ (.int .i64 n1)).setCell ⟨w.heap.size + 2, 3, none⟩ (.int .i64 n2)).setCell ⟨w.heap.size + 2, 4, none⟩ (.int .i64 n3)).setCell ⟨w.heap.size + 2, 5, none⟩ (.int .i64 n4) = W := ⟨_, rfl⟩
              have K5 : Hid (Bk W5 (w.heap.size + 2) 44 (cenV (LA ++ colL (fitB ps rl rh) x yl k ++ [(x, y)]))) := Lib.hid (by
                rw [HN.out, ← hW5]
                exact (((KK.out.set_ 2 _).set_ 3 _).set_ 4 _).set_ 5 _)
              have HB5 : Hid (Below (w.heap.size + 2) W1 W5) := Lib.hid (by rw [← hW5]; exact (((HB3.out.setCell (Nat.le_refl _) _).setCell (Nat.le_refl _) _).setCell (Nat.le_refl _) _).setCell (Nat.le_refl _) _)
              clear g1 g2 g3 g4 g5 g6
              go_wp2
              go_roundw
              case rel => exact ⟨k + 1, by omega, by rw [show yl + ((k + 1 : Nat) : Int) = y + 1 by omega], by rw [HPOS.out], by rw [HCX.out]; exact K5.out, HB5.out⟩
              case measure => simp [intOf]; omega
          · have HCE : ctrE ps rl rh xl xh yl yh (x, y) = 19 := by rw [hce, if_neg hm]
            rw [show fitB ps rl rh (x, y) = false from decide_eq_false hm, if_neg (by decide)] at hcol
            have HCOL := Lib.hid hcol
            have HFB := Lib.hid hfb
            rw [hfb]
            clear hcol hce hin hm hfb
            go_upto_region 10 with (fail)
            obtain ⟨W2, hW2⟩ : ∃ W, wr.alloc (.cells #[.int .i64 x, .int .i64 y] 30) = W := ⟨_, rfl⟩
            have hbx : Below wr.heap.size wr W2 := by rw [← hW2]; exact (Below.refl _ _).alloc (Nat.le_refl _) _
            have hpt : Bk W2 wr.heap.size 30 #[.int .i64 x, .int .i64 y] := by rw [← hW2]; exact Bk.new _ _ _
            have HB2 := Lib.hid (HB.out.trans (hbx.mono HSZ))
            have HK2 := Lib.hid (HKB.out.later hbx)
            rw [hW2]
            obtain ⟨gp, hgp⟩ : ∃ g, wr.heap.size = g := ⟨_, rfl⟩
            rw [hgp] at hpt ⊢
            have HPT := Lib.hid hpt
            have p0 : W2.cell? ⟨gp, 0, none⟩ = some (.int .i64 x) := by rw [HPT.out.cell]; rfl
            have p1 : W2.cell? ⟨gp, 1, none⟩ = some (.int .i64 y) := by rw [HPT.out.cell]; rfl
            have HSZ2 : w.heap.size + 2 ≤ W2.heap.size := by have := HB2.out.size; have := HPT.out.lt; have := HK2.out.lt; omega
            clear hW2 hbx hpt hgp HB HKB c0 c1 c2 c3 c4 c5 c6 HZ
            obtain ⟨⟨c0, c1, c2, c3, c4, c5, c6⟩, HZ⟩ := (HK.out _ HB2.out).1
            replace HZ := Lib.hid HZ
            have CMx := Lib.hid (CM.out x y _ (HK.out _ HB2.out).2.2)
            rw [HCE] at CMx
            go_wp2_with fail
            refine CMx.out.mono ?_
            rintro e w3 ⟨rfl, hb3⟩
            have HB3 := Lib.hid (HB2.out.trans (hb3.mono HSZ2))
            have HK3 := Lib.hid (HK2.out.later hb3)
            have HPT3 := Lib.hid (HPT.out.later hb3)
            have HSZ3 : w.heap.size + 2 ≤ w3.heap.size := by have := HK3.out.lt; omega
            clear hb3 c0 c1 c2 c3 c4 c5 c6 HZ HB2 HK2 HPT p0 p1 HSZ2 CMx
            go_wp2
            go_roundw
            case rel => exact ⟨k + 1, by omega, by rw [show yl + ((k + 1 : Nat) : Int) = y + 1 by omega], by rw [HCOL.out, HFB.out], by rw [HCOL.out]; exact HK3.out, HB3.out⟩
            case measure => simp [intOf]; omega
        · obtain rfl : ny = k := by omega
          have hyI : ¬ y ≤ yh := by omega
          have HAL : Hid (allL (fitB ps rl rh) xl yl ny (a + 1) = LA ++ colL (fitB ps rl rh) x yl ny) := Lib.hid (by rw [← HLA.out, ← hx]; rfl)
          obtain ⟨fb, hfb⟩ : ∃ b, decide (0 < (LA ++ colL (fitB ps rl rh) x yl ny).length) = b := ⟨_, rfl⟩
          rw [hfb]
          have HFB := Lib.hid hfb
          clear hfb
          go_wp2
          go_roundw
          case rel => exact ⟨a + 1, by omega, by rw [show xl + ((a + 1 : Nat) : Int) = x + 1 by omega], by rw [HAL.out, HFB.out], by rw [HAL.out]; exact HKB.out, HB.out⟩
          case measure => simp [intOf]; omega
    · obtain rfl : nx = a := by omega
      have hxI : ¬ x ≤ xh := by omega
      have hLL : LL = LA := by rw [HCL.out, HLA.out]
      have hCV := HCV.out
      have hFV := HFV.out
      rw [hLL] at hCV hFV
      rw [hCV] at HKB
      have hI : (Tryd.prog.info? 44).map (·.size) = some CV0.size := by rw [← hCV, cenV_size]; kernel_rfl
      have hS : (#[.int .i64 0, .int .i64 0, .int .i64 0, .int .i64 0, .int .i64 0, .int .i64 0] : Array Value).size = CV0.size := by rw [← hCV, cenV_size]; rfl
      have hO : CV0.all (·.oneCell') = true := by rw [← hCV]; exact cenV_one LA
      have HI2 := Lib.hid (And.intro hI (And.intro hS hO))
      have hdec : decide (0 < LA.length) = FV := by rw [← hFV]; by_cases e : LA.length = 0 <;> simp [e]; omega
      rw [hdec]
      have hbw := (HK.out _ HB.out).2.1
      have H5 : Hid (Bk (wr.setRow (w.heap.size + 1) CV0) (w.heap.size + 1) 44 CV0) := setRow_heap wr (w.heap.size + 1) _ CV0 _ _ HZ.out
      have HBf : Hid (Below w.heap.size w (wr.setRow (w.heap.size + 1) CV0)) := Lib.hid (below_setRow hbw (by omega) _)
      clear hLL hCV hFV hI hS hO hdec hbw
      go_wp2_with (first
        | (with_reducible refine wpList_load_row rfl 44 (.tmp 4) rfl (w.heap.size + 2) rfl 44 CV0 (0, 0) _ HKB.out.heap Tryd.underlying44 rfl HI2.out.1 ?_)
        | (with_reducible refine wpList_store_row rfl 44 (.tmp 2) (.tmp 76) rfl (w.heap.size + 1) CV0 rfl rfl 44 #[.int .i64 0, .int .i64 0, .int .i64 0, .int .i64 0, .int .i64 0, .int .i64 0] HZ.out.heap HI2.out.1 HI2.out.2.1 HI2.out.2.2 ?_))
      refine bodyPost_ret (v := .tuple #[.agg CV0, .bool FV]) ?_ rfl ⟨rfl, HBf.out⟩
      exact results_cell_tmp (fn := Tryd.f17) rfl _ _ (w.heap.size + 1) 44 CV0 (0, 0) _ rfl H5.out Tryd.underlying44 rfl HI2.out.1

end Go.Proofs.YtpkjkegcdddimaaDoor

