import Derived.Test.YtjjflbnopphciaaGreatDoorR3
import Derived.Test.YtjjflbnopphciaaGreatDoorR4
import Derived.Test.YtjjflbnopphciaaGreatDoorXC
import Derived.RangeFuncBox
import Derived.Maps.AppendAt
namespace Go.Proofs.YtjjflbnopphciaaGreatDoor
open Go.RowKit Go.Shelf
attribute [local go_sem] Oper.semAt_some

theorem SeqRuns.sub {α : Type} {F : Fence} {n : Nat} {P : Program} {g : Nat} {lb : Array Value} {encs : α → Array Value} {full : List α} {T0 : Nat → Prop} {w : World}
    (h : SeqRuns F n P g lb encs (fun ys => ys = full) (fun l => l <+: full) T0 w) :
    SeqRuns F n P g lb (fun x : { x : α // x ∈ full } => encs x.1) (fun ys => ys.map (·.1) = full) (fun l => l.map (·.1) <+: full) T0 w := by
  intro l J W hW hsz hnew hput hdrew hY h0
  refine (h l (fun T pre A => ∃ q : List { x : α // x ∈ full }, q.map (·.1) = pre ∧ J T q A) W hW ?_ ?_ ?_ ?_ ?_ ⟨[], rfl, h0⟩).mono ?_
  · rintro T s A ⟨q, _, hq⟩; exact hsz _ _ _ hq
  · rintro T s A o ⟨q, e, hq⟩; exact ⟨q, e, hnew _ _ _ _ hq⟩
  · rintro T s A a v ⟨q, e, hq⟩ ht; exact ⟨q, e, hput _ _ _ _ _ hq ht⟩
  · rintro T s A ⟨q, e, hq⟩; exact ⟨q, e, hdrew _ _ _ hq⟩
  · rintro T pre x A ⟨q, rfl, hq⟩ hp
    have hx : x ∈ full := hp.subset (show x ∈ q.map (·.1) ++ [x] by simp)
    refine (hY T q ⟨x, hx⟩ A hq (by simpa using hp)).mono ?_
    rintro e A' ⟨he, hj, ht⟩
    exact ⟨he, ⟨_, by simp, hj⟩, ht⟩
  · rintro e W' ⟨hv, T, xs, hx, q, hq, hj⟩
    exact ⟨hv, T, q, hq.trans hx, hj⟩

theorem grownBy_setCellG (W : World) (a : Addr) (v : Value) : W.grownBy (W.setCell a v) (some a.block) :=
  ⟨rfl, rfl, rfl, (KeepsWalks.setCell W _ v).size, fun k _ hk => Below.heap_setCell _ _ _ k (fun e => hk (by rw [e]))⟩

set_option maxRecDepth 100000 in
set_option maxHeartbeats 1000000 in
theorem around_in (F : Fence) (n : Nat) (hf : F.fn 76) (hro : F.round = none) (cx cy r : Int) (w : World) :
    CallsIn F n Tryz.prog 76 #[.agg #[.int .i64 cx, .int .i64 cy], .int .i64 r] w fun e w' => e = .returned (.func (.func 94) #[] #[.pointer (some ⟨w.heap.size, 0, none⟩), .pointer (some ⟨w.heap.size + 1, 0, none⟩)]) ∧ w' = (w.alloc (.cells #[.int .i64 cx, .int .i64 cy] 43)).alloc (.cells #[.int .i64 r] 3) := by
  refine callsIn_of_wp Tryz.func76 rfl hf ?_ hro
  simp only [Tryz.ntmps76, List.size_toArray, List.length_cons, List.length_nil, Nat.reduceAdd, Nat.reduceSub, Array.replicate_succ, Array.replicate_zero, List.push_toArray, List.append_toArray, List.nil_append, List.cons_append]
  gi_wp2
  go_ret
  exact ⟨rfl, rfl⟩

/-- The value of a pixel. -/
def pix (rows : List (List Int)) (p : Int × Int) : Int := (rows.getD p.2.toNat []).getD p.1.toNat 0

theorem intInfo : (Tryz.prog.info? 3).map (fun i => (i.zero, i.size, i.bytes)) = some (some (.int .i64 0), 1, 8) := by kernel_rfl

theorem step_append_at {P : Program} (w : World) {ops : Array Oper} {o : Oper} {a : Act} {K : Act → World → Prop} {Q : Exit → Act → World → Prop} {E : Prop} (hgd : o.guard = none) (s x : Operand) (t : TypeId)
    (ho : o.op = .call { callee := .builtin .append, args := #[s, x], argTypes := #[t, t] })
    (base : Nat) (e : TypeId) (i : TypeInfo) (z : Value) (size bytes : Nat) (ht : P.underlying t = some (.slice e)) (hi : P.info? e = some i) (hz : i.zero = some z)
    (hsize : i.size = size) (hby : i.bytes = bytes) (hzs : z.cells.size = size) (hsz : 0 < size)
    (v : Value) (n : Nat) (xs : List Value) (hs : a.eval s = v) (hown : w.ownsRow base e size v n xs)
    (ad : Addr) (m c : Nat) (news : List Value) (hx : a.eval x = .slice (some ad) m c) (hl : news.length = m * size) (hnews : ∀ j u, news[j]? = some u → w.cell? (ad.add j) = some u) (h1 : ∀ u ∈ news, u.oneCell' = true)
    (h63 : n + m ≤ maxLen) (hbytes : (n + m) * bytes ≤ 140737488355328) (hbase : base ≤ w.heap.size)
    (h : ∀ v' w', w'.ownsRow base e size v' (n + m) (xs ++ news) → w.grownBy w' v.ownBlock → (v' = .slice none 0 0 ↔ v = .slice none 0 0 ∧ m = 0) → (v'.ownBlock = v.ownBlock ∨ v'.ownBlock = some w.heap.size) → K (a.put o.dst v') w') :
    if Region.wanted o (yielded ops a.tmps) = true then Oper.wp P o a w K Q else E := by
  have hw : Region.wanted o (yielded ops a.tmps) = true := by simp [Region.wanted, hgd]
  rw [if_pos hw]
  obtain ⟨v', w', hr, h2, h3, h4, h5⟩ := run_append_own_at (P := P) w base t o.type e i z size bytes ht hi hz hsize hby hzs hsz v n xs hown ad m c news hl hnews h1 h63 hbytes hbase
  unfold Oper.wp execOp
  simp only [ho, resolve, invoke, builtin, Sem.run_bind, Sem.run_pure, Result.andThen_ok, List.map_toArray, List.map_cons, List.map_nil, hs, hx, hr]
  exact h v' w' h2 h3 h4 h5

theorem cellG {W W' : World} {a : Addr} {v : Value} {row : Option Nat} (h : W.cell? a = some v) (hg : W.grownBy W' row) (hne : row ≠ some a.block) : W'.cell? a = some v :=
  (World.cell?_of_block (hg.block a.block (World.block_lt_of_cell? _ a h) (fun e => hne e.symm))).trans h

abbrev RPt (cx cy : Int) (r : Nat) := { p : Int × Int // p ∈ ringTo cx cy r 5 }
def RowT (T : Nat → Prop) (v : Value) : Prop := ∀ r, T r → v.ownBlock ≠ some r
/-- Between two rounds of ringOf's loop: what has come lies in the ring. -/
def RingI (w : World) (A : Option Addr) (n c : Nat) (rows : List (List Int)) (cx cy : Int) (r : Nat) (T : Nat → Prop) (pre : List (RPt cx cy r)) (W : World) : Prop :=
  (∀ q, T q → w.heap.size + 3 ≤ q ∧ q < W.heap.size) ∧ Boxed W w.heap.size 41 (.slice A n c) ∧
  (∃ v, Boxed W (w.heap.size + 1 + 1) 22 v ∧ W.ownsRow w.heap.size 3 1 v pre.length ((pre.map fun p => pix rows p.1).map (Value.int .i64)) ∧ RowT T v) ∧ Below w.heap.size w W ∧ w.heap.size + 5 ≤ W.heap.size

theorem RingI.grown {w : World} {A : Option Addr} {n c : Nat} {rows : List (List Int)} {cx cy : Int} {r : Nat} {T : Nat → Prop} {pre : List (RPt cx cy r)} {W W' : World} {l : Nat} (h : RingI w A n c rows cx cy r T pre W) (hg : W.grownBy W' (some l))
    (hl : w.heap.size + 3 ≤ l) (hrow : ∀ v, W.ownsRow w.heap.size 3 1 v pre.length ((pre.map fun p => pix rows p.1).map (Value.int .i64)) → RowT T v → v.ownBlock ≠ some l) : RingI w A n c rows cx cy r T pre W' := by
  obtain ⟨h1, h2, ⟨v, h3, h4, h5⟩, h6, h7⟩ := h
  refine ⟨fun q hq => ⟨(h1 q hq).1, Nat.lt_of_lt_of_le (h1 q hq).2 hg.size⟩, h2.kept hg (by intro e; injection e; omega), ⟨v, h3.kept hg (by intro e; injection e; omega), h4.kept hg (.inr (hrow v h4 h5)), h5⟩, h6.grown hg h6.size (fun k e => by cases e; omega), Nat.le_trans h7 hg.size⟩
theorem RingI.alloc {w : World} {A : Option Addr} {n c : Nat} {rows : List (List Int)} {cx cy : Int} {r : Nat} {T : Nat → Prop} {pre : List (RPt cx cy r)} {W : World} (h : RingI w A n c rows cx cy r T pre W) (o : Obj) : RingI w A n c rows cx cy r T pre (W.alloc o) := by
  obtain ⟨h1, h2, ⟨v, h3, h4, h5⟩, h6, h7⟩ := h
  exact ⟨fun q hq => ⟨(h1 q hq).1, by have := (h1 q hq).2; simp; omega⟩, h2.alloc o, ⟨v, h3.alloc o, h4.alloc o, h5⟩, h6.alloc h6.size o, by simp; omega⟩

set_option maxRecDepth 100000 in
set_option maxHeartbeats 4000000 in
theorem ringOf_any (A : Option Addr) (n c : Nat) (rows : List (List Int)) (cx cy : Int) (r : Nat) (w : World) (hl : LaidSides w) (hg : RdG w A n rows)
    (hcx : -100000 ≤ cx ∧ cx ≤ 100000) (hcy : -100000 ≤ cy ∧ cy ≤ 100000) (hr : r ≤ 100000)
    (hin : ∀ p ∈ ringTo cx cy r 5, 0 ≤ p.2 ∧ p.2 < n ∧ 0 ≤ p.1 ∧ p.1 < (rows.getD p.2.toNat []).length) :
    Calls Tryz.prog 47 #[.agg #[.slice A n c], .agg #[.int .i64 cx, .int .i64 cy], .int .i64 r] w fun e w' =>
      (∃ v, e = .returned v ∧ w'.ownsRow w.heap.size 3 1 v (ringTo cx cy r 5).length (((ringTo cx cy r 5).map (pix rows)).map (Value.int .i64))) ∧ Below w.heap.size w w' := by
  have HL := Lib.hid hl
  have HG := Lib.hid hg
  have HIN := Lib.hid hin
  have hlenR : (ringTo cx cy r 5).length = 8 * r := by simp [ringTo, sideTo, sd, sds]; omega
  have HLEN := Lib.hid hlenR
  clear hl hg hin hlenR
  refine (callsIn_wide (n := 6)).1 ?_
  refine callsIn_of_wp_marks Tryz.func47 rfl trivial ?_ rfl
  simp only [Tryz.ntmps47, List.size_toArray, List.length_cons, List.length_nil, Nat.reduceAdd, Nat.reduceSub, Array.replicate_succ, Array.replicate_zero, List.push_toArray, List.append_toArray, List.nil_append, List.cons_append]
  gi_wp2_with (refine ⟨trivial, ?_⟩; gi_at_call 76; refine (around_in Fence.wide _ trivial rfl _ _ _ _).mono ?_; rintro e w' ⟨rfl, rfl⟩)
  obtain ⟨W0, hW0⟩ : ∃ W0, (((((w.alloc (.cells #[.slice A n c] 41)).alloc (.cells #[.int .i64 cx, .int .i64 cy] 43)).alloc (.cells #[.slice none 0 0] 22)).alloc (.cells #[.int .i64 cx, .int .i64 cy] 43)).alloc (.cells #[.int .i64 r] 3)) = W0 := ⟨_, rfl⟩
  rw [hW0]
  have hsz : W0.heap.size = w.heap.size + 5 := by rw [← hW0]; simp [go_sem]
  have c3 : W0.cell? ⟨w.heap.size + 1 + 1 + 1, 0, none⟩ = some (.int .i64 cx) := by rw [← hW0]; simp [go_sem]
  have c4 : W0.cell? ⟨w.heap.size + 1 + 1 + 1, 1, none⟩ = some (.int .i64 cy) := by rw [← hW0]; simp [go_sem]
  have c5 : W0.cell? ⟨w.heap.size + 1 + 1 + 1 + 1, 0, none⟩ = some (.int .i64 r) := by rw [← hW0]; simp [go_sem]
  have b0 : Boxed W0 w.heap.size 41 (.slice A n c) := by rw [← hW0]; exact ((((Boxed.new w _ _).alloc _).alloc _).alloc _).alloc _
  have b2 : Boxed W0 (w.heap.size + 1 + 1) 22 (.slice none 0 0) := by
    rw [← hW0]
    have := (((Boxed.new ((w.alloc (.cells #[.slice A n c] 41)).alloc (.cells #[.int .i64 cx, .int .i64 cy] 43)) 22 (.slice none 0 0)).alloc (.cells #[.int .i64 cx, .int .i64 cy] 43)).alloc (.cells #[.int .i64 r] 3))
    simpa using this
  have hbel : Below w.heap.size w W0 := by rw [← hW0]; exact (((((Below.refl _ w).alloc (by simp) _).alloc (by simp) _).alloc (by simp; omega) _).alloc (by simp; omega) _).alloc (by simp; omega) _
  have hl0 : LaidSides W0 := ⟨Nat.lt_of_lt_of_le HL.out.lt hbel.size, fun j hj => by
    obtain ⟨a, b, c⟩ := HL.out.row j hj
    exact ⟨(hbel.cell (p := ⟨_, _, none⟩) HL.out.lt).trans a, (hbel.cell (p := ⟨_, _, none⟩) HL.out.lt).trans b, (hbel.cell (p := ⟨_, _, none⟩) HL.out.lt).trans c⟩⟩
  refine wpIn_rangeFunc_runsH rfl (by omega) (gf := 94) (lb := #[.pointer (some ⟨w.heap.size + 1 + 1 + 1, 0, none⟩), .pointer (some ⟨w.heap.size + 1 + 1 + 1 + 1, 0, none⟩)]) rfl trivial (enters_of Tryz.func94 (by kernel_rfl) rfl)
    (SeqRuns.sub (around_run Fence.wide _ trivial rfl (by omega) (w.heap.size + 1 + 1 + 1) (w.heap.size + 1 + 1 + 1 + 1) cx cy r hcx hcy hr W0 hl0 (by omega) (by omega) c3 c4 c5)) (Below.refl _ _) (fun _ => rfl)
    (RingI w A n c rows cx cy r) ?sz ?new ?al ?put ?drew ?obj ?h0
    (fun T x a' W => ∃ Bx, w.heap.size + 3 ≤ Bx ∧ W.heap[Bx]? = some (.cells #[.int .i64 x.1.1, .int .i64 x.1.2] 43 (0, 0)) ∧ a' = { tmps := #[.agg #[.slice A n c], .agg #[.int .i64 cx, .int .i64 cy], .int .i64 r, .pointer (some ⟨w.heap.size, 0, none⟩), .pointer (some ⟨w.heap.size + 1, 0, none⟩), undef, .slice none 0 0, .pointer (some ⟨w.heap.size + 1 + 1, 0, none⟩), .pointer (some ⟨Bx, 0, none⟩), .agg #[.int .i64 cx, .int .i64 cy], .int .i64 r, .func (.func 94) #[] #[.pointer (some ⟨w.heap.size + 1 + 1 + 1, 0, none⟩), .pointer (some ⟨w.heap.size + 1 + 1 + 1 + 1, 0, none⟩)], .agg #[.int .i64 x.1.1, .int .i64 x.1.2], undef, undef, undef, undef, undef, undef, undef, undef, undef, undef, undef, undef, undef, undef], defers := [] })
    ?hAx ?assign ?body ?done
  case sz => exact fun T s A h q hq => (h.1 q hq).2
  case new =>
    rintro T s A' o ⟨h1, h2, ⟨v, h3, h4, h5⟩, h6, h7⟩
    refine ⟨?_, h2.alloc o, ⟨v, h3.alloc o, h4.alloc o, ?_⟩, h6.alloc h6.size o, by simp; omega⟩
    · rintro q (hq | rfl)
      · have := h1 q hq; simp; omega
      · simp; omega
    · rintro q (hq | rfl)
      · exact h5 q hq
      · intro e; have := (h4.lt _ e).2; omega
  case al => exact fun T s A' o h => h.alloc o
  case put =>
    intro T s A' a v h ht
    exact h.grown (grownBy_setCellG A' a v) (h.1 _ ht).1 (fun u _ hu => hu _ ht)
  case drew =>
    rintro T s A' ⟨h1, h2, ⟨v, h3, h4, h5⟩, h6, h7⟩
    exact ⟨h1, h2, ⟨v, h3, h4.drew, h5⟩, h6.drew, h7⟩
  case obj =>
    intro T s A' l o o' h hl hlo hoc
    refine h.grown (grownBy_putObj' A' l o') (by omega) (fun u hu _ e => ?_)
    rcases hu.2 with ⟨rfl, _⟩ | ⟨g, cap, cur, rfl, _, hgb, _⟩
    · simp [Value.ownBlock] at e
    · obtain rfl : g = l := by simpa [Value.ownBlock] using e
      rw [hgb] at hlo; cases hlo; cases hoc
  case h0 =>
    refine ⟨?_, b0, ⟨_, b2, World.ownsRow_nil _ _ _ _, fun q _ => by simp [Value.ownBlock]⟩, hbel, by omega⟩
    rintro q (rfl | rfl) <;> omega
  case hAx =>
    rintro T x a' A' l o o' ⟨Bx, h1, h2, h3⟩ hl hlo hoc
    refine ⟨Bx, h1, ?_, h3⟩
    have hne : l ≠ Bx := by rintro rfl; rw [h2] at hlo; cases hlo; cases hoc
    exact (World.putObj_heap_other (by omega)).trans h2
  case assign =>
    intro l T pre x W K hI hK
    gi_wp2
    refine hK _ _ (KeepsOthers.alloc _ _) (fun q hq => Below.heap_alloc _ _ _ (hI.1 q hq).2) (hI.alloc _) ⟨W.heap.size, by have := hI.2.2.2.2; omega, World.alloc_heap_new _ _, rfl⟩
  case body =>
    clear c3 c4 c5 b0 b2 hbel hl0 hW0 hsz
    rintro l T pre ⟨⟨px, py⟩, hx⟩ a' W hI ⟨Bx, hBx, hbx, rfl⟩ hpl
    obtain ⟨hT, hm, ⟨v, hv, hrow, hvT⟩, hB, hWs⟩ := id hI
    have hpin := HIN.out _ hx
    dsimp only at hpin hbx
    obtain ⟨py, rfl⟩ := Int.eq_ofNat_of_zero_le hpin.1
    obtain ⟨px, rfl⟩ := Int.eq_ofNat_of_zero_le hpin.2.2.1
    have hpy : py < n := by omega
    obtain ⟨ad, rfl, hadb, hca⟩ := HG.out.2 (by omega)
    obtain ⟨B, m, c', hck0, hrd, hmm⟩ := hca py hpy
    clear hca
    have hck := (hB.cell (p := ad.add py) (by rw [addBlock]; exact hadb)).trans hck0
    clear hck0
    have hpx : px < m := by have h1 := hrd.1; have h2 := hpin.2.2.2; simp only [Int.toNat_natCast] at h2; omega
    obtain ⟨ad', rfl, hadb', hcb⟩ := hrd.2 (by omega)
    have hcp := (hB.cell (p := ad'.add px) (by rw [addBlock]; exact hadb')).trans (hcb px hpx)
    clear hcb
    have hpv : pix rows ((px : Int), (py : Int)) = (rows.getD py []).getD px 0 := rfl
    obtain ⟨pv, hpve⟩ : ∃ pv, (rows.getD py []).getD px 0 = pv := ⟨_, rfl⟩
    rw [hpve] at hcp hpv
    have HPV := Lib.hid hpv
    have hplen : pre.length + 1 ≤ 800000 := by
      have := hpl.length_le
      rw [HLEN.out] at this
      simp at this; omega
    have hbx0 : W.cell? ⟨Bx, 0, none⟩ = some (.int .i64 px) := by simp [World.cell?, hbx]
    have hbx1 : W.cell? ⟨Bx, 1, none⟩ = some (.int .i64 py) := by simp [World.cell?, hbx]
    have hmc := hm.cell
    have hvc := hv.cell
    have hwW : w.heap.size ≤ (W.drew.alloc (.cells #[.int .i64 pv] 3)).heap.size := by simp; omega
    obtain ⟨i0, hi0, hz0, hz1, hz2⟩ := info_parts intInfo
    have HV := Lib.hid hv
    have HRW := Lib.hid hrow
    have HROW : Hid ((W.drew.alloc (.cells #[.int .i64 pv] 3)).ownsRow w.heap.size 3 1 v pre.length ((pre.map fun p => pix rows p.1).map (Value.int .i64))) := hrow.drew.alloc _
    have HS0 : W.cell? ⟨w.heap.size, 0, none⟩ = some (.slice (some ad) n c) ∧ W.cell? ⟨Bx, 0, none⟩ = some (.int .i64 px) ∧ W.cell? ⟨Bx, 1, none⟩ = some (.int .i64 py) ∧ W.cell? (ad.add py) = some (.slice (some ad') m c') ∧ W.cell? (ad'.add px) = some (.int .i64 pv) := ⟨hmc, hbx0, hbx1, hck, hcp⟩
    have hn0 : v.ownBlock ≠ some w.heap.size := fun e => hm.not_row (by decide) hrow e.symm
    have hn1 : v.ownBlock ≠ some Bx := by
      intro e
      rcases hrow.2 with ⟨rfl, _⟩ | ⟨g, cap, cur, rfl, _, hgb, _⟩
      · simp [Value.ownBlock] at e
      · obtain rfl : g = Bx := by simpa [Value.ownBlock] using e
        rw [hgb] at hbx; injection hbx with hbx; injection hbx with _ ht; exact absurd ht (by decide)
    have hn2 : v.ownBlock ≠ some (ad.add py).block := by
      intro e; have := (hrow.lt _ e).1; rw [addBlock] at this; omega
    have hn3 : v.ownBlock ≠ some (ad'.add px).block := by
      intro e; have := (hrow.lt _ e).1; rw [addBlock] at this; omega
    have hSA : (W.drew.alloc (.cells #[.int .i64 pv] 3)).cell? ⟨w.heap.size, 0, none⟩ = some (.slice (some ad) n c) ∧ (W.drew.alloc (.cells #[.int .i64 pv] 3)).cell? ⟨Bx, 0, none⟩ = some (.int .i64 px) ∧ (W.drew.alloc (.cells #[.int .i64 pv] 3)).cell? ⟨Bx, 1, none⟩ = some (.int .i64 py) ∧ (W.drew.alloc (.cells #[.int .i64 pv] 3)).cell? (ad.add py) = some (.slice (some ad') m c') ∧ (W.drew.alloc (.cells #[.int .i64 pv] 3)).cell? (ad'.add px) = some (.int .i64 pv) := ⟨cellA (W := W.drew) _ hmc, cellA (W := W.drew) _ hbx0, cellA (W := W.drew) _ hbx1, cellA (W := W.drew) _ hck, cellA (W := W.drew) _ hcp⟩
    have HSG : Hid (∀ w1 : World, (W.drew.alloc (.cells #[.int .i64 pv] 3)).grownBy w1 v.ownBlock → ((w1).cell? ⟨w.heap.size, 0, none⟩ = some (.slice (some ad) n c) ∧ (w1).cell? ⟨Bx, 0, none⟩ = some (.int .i64 px) ∧ (w1).cell? ⟨Bx, 1, none⟩ = some (.int .i64 py) ∧ (w1).cell? (ad.add py) = some (.slice (some ad') m c') ∧ (w1).cell? (ad'.add px) = some (.int .i64 pv))) := fun w1 hg => ⟨cellG hSA.1 hg hn0, cellG hSA.2.1 hg hn1, cellG hSA.2.2.1 hg hn1, cellG hSA.2.2.2.1 hg hn2, cellG hSA.2.2.2.2 hg hn3⟩
    have hb1 : Bx ≠ w.heap.size + 1 + 1 := by
      rintro rfl; rw [show W.heap[w.heap.size + 1 + 1]? = _ from hv] at hbx; simp at hbx
    have HSS : Hid (∀ (w1 : World) (u : Value), ((w1).cell? ⟨w.heap.size, 0, none⟩ = some (.slice (some ad) n c) ∧ (w1).cell? ⟨Bx, 0, none⟩ = some (.int .i64 px) ∧ (w1).cell? ⟨Bx, 1, none⟩ = some (.int .i64 py) ∧ (w1).cell? (ad.add py) = some (.slice (some ad') m c') ∧ (w1).cell? (ad'.add px) = some (.int .i64 pv)) → ((w1.setCell ⟨w.heap.size + 1 + 1, 0, none⟩ u).cell? ⟨w.heap.size, 0, none⟩ = some (.slice (some ad) n c) ∧ (w1.setCell ⟨w.heap.size + 1 + 1, 0, none⟩ u).cell? ⟨Bx, 0, none⟩ = some (.int .i64 px) ∧ (w1.setCell ⟨w.heap.size + 1 + 1, 0, none⟩ u).cell? ⟨Bx, 1, none⟩ = some (.int .i64 py) ∧ (w1.setCell ⟨w.heap.size + 1 + 1, 0, none⟩ u).cell? (ad.add py) = some (.slice (some ad') m c') ∧ (w1.setCell ⟨w.heap.size + 1 + 1, 0, none⟩ u).cell? (ad'.add px) = some (.int .i64 pv))) := fun w1 u h =>
      ⟨by rw [World.cell?_setCell_far _ _ _ _ (by dsimp only; omega)]; exact h.1, by rw [World.cell?_setCell_far _ _ _ _ (by dsimp only; omega)]; exact h.2.1, by rw [World.cell?_setCell_far _ _ _ _ (by dsimp only; omega)]; exact h.2.2.1, by rw [World.cell?_setCell_far _ _ _ _ (by rw [addBlock]; dsimp only; omega)]; exact h.2.2.2.1, by rw [World.cell?_setCell_far _ _ _ _ (by rw [addBlock]; dsimp only; omega)]; exact h.2.2.2.2⟩
    have HFIN : Hid (∀ (v' : Value) (w1 : World), Boxed w1 (w.heap.size + 1 + 1) 22 v → w1.ownsRow w.heap.size 3 1 v' (pre.length + 1) ((pre.map fun p => pix rows p.1).map (Value.int .i64) ++ [.int .i64 pv]) → (W.drew.alloc (.cells #[.int .i64 pv] 3)).grownBy w1 v.ownBlock → (v'.ownBlock = v.ownBlock ∨ v'.ownBlock = some (W.drew.alloc (.cells #[.int .i64 pv] 3)).heap.size) →
        (KeepsOthers W (w1.setCell ⟨w.heap.size + 1 + 1, 0, none⟩ v') ∧ (∀ q, T q → (w1.setCell ⟨w.heap.size + 1 + 1, 0, none⟩ v').heap[q]? = W.heap[q]?) ∧ RingI w (some ad) n c rows cx cy r T (pre ++ [⟨((px : Int), (py : Int)), hx⟩]) (w1.setCell ⟨w.heap.size + 1 + 1, 0, none⟩ v'))) := by
      intro v' w1 hv1 hown' hgrow hat
      have hfin := Boxed.appended (W := W.drew) (tmp := .cells #[.int .i64 pv] 3) (n₀ := w.heap.size) (show Boxed W.drew _ _ v from hv) (by decide) hrow.drew (by show w.heap.size ≤ W.heap.size; omega) (by omega) hown' hgrow
      obtain ⟨_, f2, f3, f4, f5⟩ := hfin
      have hgz := hgrow.size
      rw [World.size_alloc] at hgz
      change W.heap.size + 1 ≤ _ at hgz
      have hTk : ∀ q, T q → (w1.setCell ⟨w.heap.size + 1 + 1, 0, none⟩ v').heap[q]? = W.heap[q]? := fun q hq => by
        have h1 := hT q hq
        rw [Below.heap_setCell _ _ _ _ (by dsimp only; omega), hgrow.block q (by simp; omega) (fun e => hvT q hq e.symm)]
        exact Below.heap_alloc W.drew _ _ (by show q < W.heap.size; omega)
      refine ⟨(KeepsOthers.drew W).trans f4, hTk, fun q hq => ⟨(hT q hq).1, by have := (hT q hq).2; simp; omega⟩, ?_, ⟨v', f2, ?_, ?_⟩, (hB.drew).trans f5, by simp; omega⟩
      · exact ((hm.alloc (W := W.drew) _).kept hgrow (fun e => hn0 e.symm)).kept (grownBy_setCell' _ _ _) (by simp; omega)
      · rw [List.length_append, List.map_append, List.map_append]
        simpa [HPV.out] using f3
      · intro q hq e
        rcases hat with h | h
        · exact hvT q hq (h.symm.trans e)
        · have h1 := hT q hq; rw [h] at e; injection e with e; simp at e; omega
    clear hpin hpv hpve hI hm hv hrow hT hB hbx hrd hvT hmc hbx0 hbx1 hck hcp hn0 hn1 hn2 hn3 hb1 hadb hadb'
    have hmx : Tryz.prog.follows .mixedOrders = true := by kernel_rfl
    gi_wp2
    refine region_in_round (S := (fun w' : World => w'.cell? ⟨w.heap.size, 0, none⟩ = some (.slice (some ad) n c) ∧ w'.cell? ⟨Bx, 0, none⟩ = some (.int .i64 px) ∧ w'.cell? ⟨Bx, 1, none⟩ = some (.int .i64 py) ∧ w'.cell? (ad.add py) = some (.slice (some ad') m c') ∧ w'.cell? (ad'.add px) = some (.int .i64 pv)))
      (R := fun _ W' => Hid (KeepsOthers W W' ∧ (∀ q, T q → W'.heap[q]? = W.heap[q]?) ∧ RingI w (some ad) n c rows cx cy r T (pre ++ [⟨((px : Int), (py : Int)), hx⟩]) W')) hmx (by intro i o hi c; rcases i with _ | _ | _ | _ | _ | _ | _ | _ | _ | _ | _ | _ | _ | _ | i <;> first | (cases hi; simp; done) | (simp at hi)) HS0 ?_ (by intro a' w' h; clear HS0 hSA HSG HSS HFIN; gi_wp2; exact h.out)
    intro hHeld
    refine wpAnyH_take (i := 1) (v := ?_) rfl (by kernel_rfl) (by kernel_rfl) (by kernel_rfl) (fun _ _ _ h => h) (Or.inl ⟨by rfl, ?_⟩) (by assumption) ?_
    rotate_left
    · intro w hSw; (try dsimp only at hSw); go_simp; (try (with_reducible rfl))
    try simp only [List.getElem_toArray, List.getElem_cons_succ, List.getElem_cons_zero, Act.put, List.setIfInBounds_toArray, List.set_cons_zero, List.set_cons_succ]
    refine wpAnyH_take (i := 2) (v := ?_) rfl (by kernel_rfl) (by kernel_rfl) (by kernel_rfl) (fun _ _ _ h => h) (Or.inl ⟨by rfl, ?_⟩) (by assumption) ?_
    rotate_left
    · intro w hSw; (try dsimp only at hSw); go_simp; (try (with_reducible rfl))
    try simp only [List.getElem_toArray, List.getElem_cons_succ, List.getElem_cons_zero, Act.put, List.setIfInBounds_toArray, List.set_cons_zero, List.set_cons_succ]
    refine wpAnyH_take (i := 3) (v := ?_) rfl (by kernel_rfl) (by kernel_rfl) (by kernel_rfl) (fun _ _ _ h => h) (Or.inl ⟨by rfl, ?_⟩) (by assumption) ?_
    rotate_left
    · intro w hSw; (try dsimp only at hSw); go_simp; (try (with_reducible rfl))
    try simp only [List.getElem_toArray, List.getElem_cons_succ, List.getElem_cons_zero, Act.put, List.setIfInBounds_toArray, List.set_cons_zero, List.set_cons_succ]
    refine wpAnyH_take (i := 4) (v := ?_) rfl (by kernel_rfl) (by kernel_rfl) (by kernel_rfl) (fun _ _ _ h => h) (Or.inl ⟨by rfl, ?_⟩) (by assumption) ?_
    rotate_left
    · intro w hSw; (try dsimp only at hSw); go_simp; (try (with_reducible rfl))
    try simp only [List.getElem_toArray, List.getElem_cons_succ, List.getElem_cons_zero, Act.put, List.setIfInBounds_toArray, List.set_cons_zero, List.set_cons_succ]
    refine wpAnyH_take (i := 5) (v := ?_) rfl (by kernel_rfl) (by kernel_rfl) (by kernel_rfl) (fun _ _ _ h => h) (Or.inl ⟨by rfl, ?_⟩) (by assumption) ?_
    rotate_left
    · intro w hSw; (try dsimp only at hSw); go_simp; (try (with_reducible rfl))
    try simp only [List.getElem_toArray, List.getElem_cons_succ, List.getElem_cons_zero, Act.put, List.setIfInBounds_toArray, List.set_cons_zero, List.set_cons_succ]
    refine wpAnyH_take (i := 6) (v := ?_) rfl (by kernel_rfl) (by kernel_rfl) (by kernel_rfl) (fun _ _ _ h => h) (Or.inl ⟨by rfl, ?_⟩) (by assumption) ?_
    rotate_left
    · intro w hSw; (try dsimp only at hSw); go_simp; (try (with_reducible rfl))
    try simp only [List.getElem_toArray, List.getElem_cons_succ, List.getElem_cons_zero, Act.put, List.setIfInBounds_toArray, List.set_cons_zero, List.set_cons_succ]
    refine wpAnyH_take (i := 7) (v := ?_) rfl (by kernel_rfl) (by kernel_rfl) (by kernel_rfl) (fun _ _ _ h => h) (Or.inl ⟨by rfl, ?_⟩) (by assumption) ?_
    rotate_left
    · intro w hSw; (try dsimp only at hSw); go_simp; (try (with_reducible rfl))
    try simp only [List.getElem_toArray, List.getElem_cons_succ, List.getElem_cons_zero, Act.put, List.setIfInBounds_toArray, List.set_cons_zero, List.set_cons_succ]
    refine wpAnyH_take (i := 8) (v := ?_) rfl (by kernel_rfl) (by kernel_rfl) (by kernel_rfl) (fun _ _ _ h => h) (Or.inl ⟨by rfl, ?_⟩) (by assumption) ?_
    rotate_left
    · intro w hSw; (try dsimp only at hSw); go_simp; (try (with_reducible rfl))
    try simp only [List.getElem_toArray, List.getElem_cons_succ, List.getElem_cons_zero, Act.put, List.setIfInBounds_toArray, List.set_cons_zero, List.set_cons_succ]
    refine wpAnyH_take (i := 9) (v := ?_) rfl (by kernel_rfl) (by kernel_rfl) (by kernel_rfl) (fun _ _ _ h => h) (Or.inl ⟨by rfl, ?_⟩) (by assumption) ?_
    rotate_left
    · intro w hSw; (try dsimp only at hSw); go_simp; (try (with_reducible rfl))
    try simp only [List.getElem_toArray, List.getElem_cons_succ, List.getElem_cons_zero, Act.put, List.setIfInBounds_toArray, List.set_cons_zero, List.set_cons_succ]
    refine wpAnyH_take (i := 10) (v := ?_) rfl (by kernel_rfl) (by kernel_rfl) (by kernel_rfl) (fun _ _ _ h => h) (Or.inl ⟨by rfl, ?_⟩) (by assumption) ?_
    rotate_left
    · intro w hSw; (try dsimp only at hSw); go_simp; (try (with_reducible rfl))
    try simp only [List.getElem_toArray, List.getElem_cons_succ, List.getElem_cons_zero, Act.put, List.setIfInBounds_toArray, List.set_cons_zero, List.set_cons_succ]
    refine wpAnyH_ready (rs := [0, 11]) (by kernel_rfl) (by simp) ?_
    refine AllReadyH.cons rfl (fun K hK => ?_) (AllReadyH.cons rfl (fun K hK => ?_) AllReadyH.nil)
    · go_simp
      refine hK.out _ _ ?_ (fun hHeld => ?_)
      · clear hK K; exact HS0
      clear hK K
      try simp only [List.getElem_toArray, List.getElem_cons_succ, List.getElem_cons_zero, Act.put, List.setIfInBounds_toArray, List.set_cons_zero, List.set_cons_succ]
      refine wpAnyH_ready (rs := [11]) (by kernel_rfl) (by simp) ?_
      refine AllReadyH.cons rfl (fun K hK => ?_) AllReadyH.nil
      go_simp
      refine hK.out _ _ ?_ (fun hHeld => ?_)
      · clear hK K; exact hSA
      clear hK K
      try simp only [List.getElem_toArray, List.getElem_cons_succ, List.getElem_cons_zero, Act.put, List.setIfInBounds_toArray, List.set_cons_zero, List.set_cons_succ]
      refine wpAnyH_ready (rs := [12]) (by kernel_rfl) (by simp) ?_
      refine AllReadyH.cons rfl (fun K hK => ?_) AllReadyH.nil
      refine step_append_at _ rfl (.tmp 13) (.tmp 24) 22 rfl w.heap.size 3 i0 _ 1 8 Tryz.underlying22 hi0 hz0 hz1 hz2 rfl (by decide) v pre.length _ rfl HROW.out ⟨W.heap.size, 0, none⟩ 1 1 [.int .i64 pv] rfl rfl (cell_one_new _ _ _) (by simp [Value.oneCell']) (by simp only [maxLen]; omega) (by omega) hwW ?_
      intro v' w1 hown' hgrow _ hat
      obtain ⟨g', cap', rfl⟩ := ownsRow_succ hown'
      have hv1 : Boxed w1 (w.heap.size + 1 + 1) 22 v := ((show Boxed W.drew _ _ v from HV.out).alloc _).kept hgrow (HV.out.not_row (by decide) HRW.out)
      refine hK.out _ _ ?_ (fun hHeld => ?_)
      · clear hK K; exact HSG.out _ hgrow
      clear hK K
      try simp only [List.getElem_toArray, List.getElem_cons_succ, List.getElem_cons_zero, Act.put, List.setIfInBounds_toArray, List.set_cons_zero, List.set_cons_succ]
      refine wpAnyH_ready (rs := [13]) (by kernel_rfl) (by simp) ?_
      refine AllReadyH.cons rfl (fun K hK => ?_) AllReadyH.nil
      have hc1 := hv1.cell
      have hf1 := hv1.frozen
      go_simp
      refine hK.out _ _ ?_ (fun hHeld => ?_)
      · clear hK K; exact HSS.out _ _ (HSG.out _ hgrow)
      clear hK K
      refine wpAnyH_done (by kernel_rfl) ?_ _
      exact HFIN.out _ _ hv1 hown' hgrow hat
    · go_simp
      refine hK.out _ _ ?_ (fun hHeld => ?_)
      · clear hK K; exact hSA
      clear hK K
      try simp only [List.getElem_toArray, List.getElem_cons_succ, List.getElem_cons_zero, Act.put, List.setIfInBounds_toArray, List.set_cons_zero, List.set_cons_succ]
      have hvc2 : (W.alloc (.cells #[.int .i64 pv] 3)).cell? ⟨w.heap.size + 1 + 1, 0, none⟩ = some v := cellA _ hvc
      refine wpAnyH_ready (rs := [0]) (by kernel_rfl) (by simp) ?_
      refine AllReadyH.cons rfl (fun K hK => ?_) AllReadyH.nil
      go_simp
      refine hK.out _ _ ?_ (fun hHeld => ?_)
      · clear hK K; exact hSA
      clear hK K
      try simp only [List.getElem_toArray, List.getElem_cons_succ, List.getElem_cons_zero, Act.put, List.setIfInBounds_toArray, List.set_cons_zero, List.set_cons_succ]
      refine wpAnyH_ready (rs := [12]) (by kernel_rfl) (by simp) ?_
      refine AllReadyH.cons rfl (fun K hK => ?_) AllReadyH.nil
      refine step_append_at _ rfl (.tmp 13) (.tmp 24) 22 rfl w.heap.size 3 i0 _ 1 8 Tryz.underlying22 hi0 hz0 hz1 hz2 rfl (by decide) v pre.length _ rfl HROW.out ⟨W.heap.size, 0, none⟩ 1 1 [.int .i64 pv] rfl rfl (cell_one_new _ _ _) (by simp [Value.oneCell']) (by simp only [maxLen]; omega) (by omega) hwW ?_
      intro v' w1 hown' hgrow _ hat
      obtain ⟨g', cap', rfl⟩ := ownsRow_succ hown'
      have hv1 : Boxed w1 (w.heap.size + 1 + 1) 22 v := ((show Boxed W.drew _ _ v from HV.out).alloc _).kept hgrow (HV.out.not_row (by decide) HRW.out)
      refine hK.out _ _ ?_ (fun hHeld => ?_)
      · clear hK K; exact HSG.out _ hgrow
      clear hK K
      try simp only [List.getElem_toArray, List.getElem_cons_succ, List.getElem_cons_zero, Act.put, List.setIfInBounds_toArray, List.set_cons_zero, List.set_cons_succ]
      refine wpAnyH_ready (rs := [13]) (by kernel_rfl) (by simp) ?_
      refine AllReadyH.cons rfl (fun K hK => ?_) AllReadyH.nil
      have hc1 := hv1.cell
      have hf1 := hv1.frozen
      go_simp
      refine hK.out _ _ ?_ (fun hHeld => ?_)
      · clear hK K; exact HSS.out _ _ (HSG.out _ hgrow)
      clear hK K
      refine wpAnyH_done (by kernel_rfl) ?_ _
      exact HFIN.out _ _ hv1 hown' hgrow hat
  case done =>
    rintro D T ys W hD hys ⟨h1, h2, ⟨v, h3, h4, h5⟩, h6, h7⟩ hK
    have h3c := h3.cell
    have HO := Lib.hid h4
    have HY := Lib.hid hys
    have HB := Lib.hid h6
    have HDD := Lib.hid hD
    clear h4 hys h5 h1 h2 c3 c4 c5 b0 b2 hbel hl0 hW0 hD
    gi_wp2
    refine ⟨by simp, .inl ⟨_, _, rfl, run_takeDeferred hK, ?_⟩⟩
    refine ⟨_, results_tmp rfl _ _ _, ⟨v, rfl, ?_⟩, ?_⟩
    · have e1 : ys.length = (ringTo cx cy r 5).length := by simpa using congrArg List.length HY.out
      have e2 : (ys.map fun p => pix rows p.1) = (ringTo cx cy r 5).map (pix rows) := by simpa [Function.comp_def] using congrArg (List.map (pix rows)) HY.out
      have := ownsRow_putObj HO.out (.deferred none) hK rfl
      rw [e1, e2] at this
      exact this
    · exact HB.out.trans (belowK_b (w := w) (Nat.le_refl _) W D _ _ (by have := HDD.out; omega) hK rfl rfl)

end Go.Proofs.YtjjflbnopphciaaGreatDoor
