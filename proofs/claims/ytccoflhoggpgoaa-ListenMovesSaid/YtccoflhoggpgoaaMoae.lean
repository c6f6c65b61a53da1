import Derived.Test.YtccoflhoggpgoaaMoad
namespace Go.Proofs.Ytccoflhoggpgoaa
open Go.RowKit

open Go.Shelf

set_option maxRecDepth 100000 in
set_option maxHeartbeats 4000000 in
theorem isCut_any (i : Bool) (ea el a l : Int) (t : ByteArray) (w : World) (he : EdOk ⟨i, ea, el⟩) (hn : NtOk 100000000 ⟨a, l, t⟩) :
    Calls Try.prog 132 #[.agg #[.bool i, .int .i64 ea, .int .i64 el], .agg #[.int .i64 a, .int .i64 l, .string t]] w fun e w' => e = .returned (.bool (cutB ⟨i, ea, el⟩ ⟨a, l, t⟩)) ∧ Below w.heap.size w w' := by
  have hb : Below w.heap.size w ((w.alloc (.cells #[.bool i, .int .i64 ea, .int .i64 el] 73)).alloc (.cells #[.int .i64 a, .int .i64 l, .string t] 63)) := below2 _ _ _
  obtain ⟨⟨h1, h2⟩, h3, h4⟩ := hn
  obtain ⟨⟨k1, k2⟩, k3, k4⟩ := he
  have HV : Hid (cutB ⟨i, ea, el⟩ ⟨a, l, t⟩ = (decide (ea ≤ a) && decide (a + max l 1 ≤ ea + el))) := rfl
  have k1' : 0 ≤ ea := k1
  have k2' : ea ≤ 1000000 := k2
  have k3' : 1 ≤ el := k3
  have k4' : el ≤ 1000000 := k4
  have h1' : 0 ≤ a := h1
  have h2' : a ≤ 100000000 := h2
  have h3' : 0 ≤ l := h3
  have h4' : l ≤ 100000000 := h4
  have hm := maxM l 1
  have hmb : 0 ≤ max l 1 ∧ max l 1 ≤ 100000000 := by omega
  obtain ⟨m, hmm⟩ : ∃ m, max l 1 = m := ⟨_, rfl⟩
  rw [hmm] at hm hmb HV
  have w1 : IntKind.i64.wrap (a + m) = a + m := IntWalk.i64_in _ (by omega)
  have w2 : IntKind.i64.wrap (ea + el) = ea + el := IntWalk.i64_in _ (by omega)
  obtain ⟨V, hV⟩ : ∃ V, cutB ⟨i, ea, el⟩ ⟨a, l, t⟩ = V := ⟨_, rfl⟩
  rw [hV] at HV ⊢
  clear hV hmm h1 h2 h3 h4 k1 k2 k3 k4
  by_cases c1 : ea ≤ a
  · by_cases c2 : a + m ≤ ea + el
    · obtain rfl : V = true := by rw [HV.out, decide_eq_true c1, decide_eq_true c2]; rfl
      go_enter Try.func132, Try.ntmps132
      go_wp2
      go_ret
      exact ⟨rfl, hb⟩
    · obtain rfl : V = false := by rw [HV.out, decide_eq_false c2, Bool.and_false]
      go_enter Try.func132, Try.ntmps132
      go_wp2
      go_ret
      exact ⟨rfl, hb⟩
  · obtain rfl : V = false := by rw [HV.out, decide_eq_false c1, Bool.false_and]
    have c1' : decide (ea ≤ a) = false := decide_eq_false c1
    go_enter Try.func132, Try.ntmps132
    go_wp2
    go_ret
    exact ⟨rfl, hb⟩
set_option maxRecDepth 100000 in
set_option maxHeartbeats 4000000 in
theorem place_any (g : Nat) (i : Bool) (ea el b : Int) (w : World) (hk : Bk w g 73 #[.bool i, .int .i64 ea, .int .i64 el]) (he : EdOk ⟨i, ea, el⟩) (hb : 0 ≤ b ∧ b ≤ 1000000000) :
    Calls Try.prog 146 #[.int .i64 b, .pointer (some ⟨g, 0, none⟩)] w fun e w' => e = .returned (.int .i64 (plF ⟨i, ea, el⟩ b)) ∧ w = w' := by
  obtain ⟨c0, c1, c2, _, _, _⟩ := bk3N hk
  obtain ⟨⟨k1, k2⟩, k3, k4⟩ := he
  have k1' : 0 ≤ ea := k1
  have k2' : ea ≤ 1000000 := k2
  have k3' : 1 ≤ el := k3
  have k4' : el ≤ 1000000 := k4
  have HV : Hid (plF ⟨i, ea, el⟩ b = b - min (max (b - ea) 0) el) := rfl
  have w1 : IntKind.i64.wrap (b - ea) = b - ea := IntWalk.i64_in _ (by omega)
  have hm1 := maxM (b - ea) 0
  have hmb : 0 ≤ min (max (b - ea) 0) el ∧ min (max (b - ea) 0) el ≤ 1000000 := by omega
  obtain ⟨m, hmm⟩ : ∃ m, max (b - ea) 0 = m := ⟨_, rfl⟩
  rw [hmm] at hm1 hmb HV
  have hm2 := minB m el
  obtain ⟨q, hq⟩ : ∃ q, min m el = q := ⟨_, rfl⟩
  rw [hq] at hm2 hmb HV
  have w2 : IntKind.i64.wrap (b - q) = b - q := IntWalk.i64_in _ (by omega)
  obtain ⟨V, hV⟩ : ∃ V, plF ⟨i, ea, el⟩ b = V := ⟨_, rfl⟩
  rw [hV] at HV ⊢
  clear hV hmm hq k1 k2 k3 k4 hk
  obtain rfl : V = b - q := HV.out
  go_enter Try.func146, Try.ntmps146
  go_wp2
  go_ret
  exact ⟨rfl, rfl⟩

end Go.Proofs.Ytccoflhoggpgoaa

namespace Go.Proofs.Ytccoflhoggpgoaa
open Go.RowKit

open Go.Shelf

structure B3 (w : World) (e0 e1 e2 n0 n1 n2 : Value) (W : World) : Prop where
  k0 : Bk W w.heap.size 73 #[e0, e1, e2]
  k1 : Bk W (w.heap.size + 1) 63 #[n0, n1, n2]
  k2 : Bk W (w.heap.size + 1 + 1) 63 #[.int .i64 0, .int .i64 0, .string { data := #[] }]
  b : Below w.heap.size w W
theorem B3.start (w : World) (e0 e1 e2 n0 n1 n2 : Value) : B3 w e0 e1 e2 n0 n1 n2 (((w.alloc (.cells #[e0, e1, e2] 73)).alloc (.cells #[n0, n1, n2] 63)).alloc (.cells #[.int .i64 0, .int .i64 0, .string { data := #[] }] 63)) := by
  have h1 : (w.alloc (.cells #[e0, e1, e2] 73)).heap.size = w.heap.size + 1 := by simp
  have h2 : ((w.alloc (.cells #[e0, e1, e2] 73)).alloc (.cells #[n0, n1, n2] 63)).heap.size = w.heap.size + 1 + 1 := by simp
  have p1 := Bk.new (w.alloc (.cells #[e0, e1, e2] 73)) 63 #[n0, n1, n2]
  have p2 := Bk.new ((w.alloc (.cells #[e0, e1, e2] 73)).alloc (.cells #[n0, n1, n2] 63)) 63 #[.int .i64 0, .int .i64 0, .string { data := #[] }]
  rw [h1] at p1
  rw [h2] at p2
  exact ⟨((Bk.new _ _ _).alloc _).alloc _, p1.alloc _, p2, below3 _ _ _ _⟩
theorem B3.later {w : World} {e0 e1 e2 n0 n1 n2 : Value} {W W' : World} (H : B3 w e0 e1 e2 n0 n1 n2 W) (hb : Below W.heap.size W W') : B3 w e0 e1 e2 n0 n1 n2 W' := ⟨H.k0.later hb, H.k1.later hb, H.k2.later hb, H.b.trans (hb.mono H.b.size)⟩
theorem B3.set {w : World} {e0 e1 e2 n0 n1 n2 : Value} {W : World} (H : B3 w e0 e1 e2 n0 n1 n2 W) : (∀ v, B3 w e0 e1 e2 v n1 n2 (W.setCell ⟨w.heap.size + 1, 0, none⟩ v)) ∧ (∀ v, B3 w e0 e1 e2 n0 v n2 (W.setCell ⟨w.heap.size + 1, 1, none⟩ v)) :=
  ⟨fun v => ⟨H.k0.far _ (by show w.heap.size ≠ w.heap.size + 1; omega) _, H.k1.set_ 0 v, H.k2.far _ (by show w.heap.size + 1 + 1 ≠ w.heap.size + 1; omega) _, H.b.setCell (p := ⟨w.heap.size + 1, 0, none⟩) (Nat.le_succ _) _⟩,
   fun v => ⟨H.k0.far _ (by show w.heap.size ≠ w.heap.size + 1; omega) _, H.k1.set_ 1 v, H.k2.far _ (by show w.heap.size + 1 + 1 ≠ w.heap.size + 1; omega) _, H.b.setCell (p := ⟨w.heap.size + 1, 1, none⟩) (Nat.le_succ _) _⟩⟩
theorem B3.fin {w : World} {e0 e1 e2 n0 n1 n2 : Value} {W : World} (H : B3 w e0 e1 e2 n0 n1 n2 W) (x y z : Value) :
    ((((W.setCell ⟨w.heap.size + 1 + 1, 0, none⟩ x).setCell ⟨w.heap.size + 1 + 1, 1, none⟩ y).setCell ⟨w.heap.size + 1 + 1, 2, none⟩ z).cell? ⟨w.heap.size + 1 + 1, 0, none⟩ = some x ∧ (((W.setCell ⟨w.heap.size + 1 + 1, 0, none⟩ x).setCell ⟨w.heap.size + 1 + 1, 1, none⟩ y).setCell ⟨w.heap.size + 1 + 1, 2, none⟩ z).cell? ⟨w.heap.size + 1 + 1, 1, none⟩ = some y ∧ (((W.setCell ⟨w.heap.size + 1 + 1, 0, none⟩ x).setCell ⟨w.heap.size + 1 + 1, 1, none⟩ y).setCell ⟨w.heap.size + 1 + 1, 2, none⟩ z).cell? ⟨w.heap.size + 1 + 1, 2, none⟩ = some z) ∧ Below w.heap.size w (((W.setCell ⟨w.heap.size + 1 + 1, 0, none⟩ x).setCell ⟨w.heap.size + 1 + 1, 1, none⟩ y).setCell ⟨w.heap.size + 1 + 1, 2, none⟩ z) := by
  have k : Bk (((W.setCell ⟨w.heap.size + 1 + 1, 0, none⟩ x).setCell ⟨w.heap.size + 1 + 1, 1, none⟩ y).setCell ⟨w.heap.size + 1 + 1, 2, none⟩ z) (w.heap.size + 1 + 1) 63 #[x, y, z] := ((H.k2.set_ 0 x).set_ 1 y).set_ 2 z
  obtain ⟨a, b, c, _⟩ := bk3N k
  exact ⟨⟨a, b, c⟩, Below.setCell (p := ⟨w.heap.size + 1 + 1, 2, none⟩) (Below.setCell (p := ⟨w.heap.size + 1 + 1, 1, none⟩) (Below.setCell (p := ⟨w.heap.size + 1 + 1, 0, none⟩) H.b (by show w.heap.size ≤ w.heap.size + 1 + 1; omega) x) (by show w.heap.size ≤ w.heap.size + 1 + 1; omega) y) (by show w.heap.size ≤ w.heap.size + 1 + 1; omega) z⟩
theorem retA {x y : Array Value} (h : x = y) : Ending.returned (.agg x) = Ending.returned (.agg y) := by rw [h]

set_option maxRecDepth 100000 in
set_option maxHeartbeats 4000000 in
theorem afterInsertion_any (i : Bool) (ea el a l : Int) (t : ByteArray) (w : World) (he : EdOk ⟨i, ea, el⟩) (hn : NtOk 100000000 ⟨a, l, t⟩) :
    Calls Try.prog 131 #[.agg #[.bool i, .int .i64 ea, .int .i64 el], .agg #[.int .i64 a, .int .i64 l, .string t]] w fun e w' => e = .returned (.agg (insF ⟨i, ea, el⟩ ⟨a, l, t⟩).v) ∧ Below w.heap.size w w' := by
  have T0 := Lib.hid (B3.start w (.bool i) (.int .i64 ea) (.int .i64 el) (.int .i64 a) (.int .i64 l) (.string t))
  obtain ⟨⟨h1, h2⟩, h3, h4⟩ := hn
  obtain ⟨⟨k1, k2⟩, k3, k4⟩ := he
  have k1' : 0 ≤ ea := k1
  have k2' : ea ≤ 1000000 := k2
  have k3' : 1 ≤ el := k3
  have k4' : el ≤ 1000000 := k4
  have h1' : 0 ≤ a := h1
  have h2' : a ≤ 100000000 := h2
  have h3' : 0 ≤ l := h3
  have h4' : l ≤ 100000000 := h4
  have HV : Hid (insF ⟨i, ea, el⟩ ⟨a, l, t⟩ = if ea ≤ a then ⟨a + el, l, t⟩ else if ea < a + l then ⟨a, l + el, t⟩ else ⟨a, l, t⟩) := rfl
  have w1 : IntKind.i64.wrap (a + el) = a + el := IntWalk.i64_in _ (by omega)
  have w2 : IntKind.i64.wrap (a + l) = a + l := IntWalk.i64_in _ (by omega)
  have w3 : IntKind.i64.wrap (l + el) = l + el := IntWalk.i64_in _ (by omega)
  obtain ⟨V, hV⟩ : ∃ V, insF ⟨i, ea, el⟩ ⟨a, l, t⟩ = V := ⟨_, rfl⟩
  rw [hV] at HV ⊢
  clear hV h1 h2 h3 h4 k1 k2 k3 k4
  go_enter Try.func131, Try.ntmps131
  go_upto_region 1 with fail
  obtain ⟨W0, hW0⟩ : ∃ W, ((w.alloc (.cells #[.bool i, .int .i64 ea, .int .i64 el] 73)).alloc (.cells #[.int .i64 a, .int .i64 l, .string t] 63)).alloc (.cells #[.int .i64 0, .int .i64 0, .string { data := #[] }] 63) = W := ⟨_, rfl⟩
  rw [hW0] at T0 ⊢
  clear hW0
  obtain ⟨r0, r1, r2, _, _, _⟩ := bk3N T0.out.k0
  obtain ⟨s0, s1, s2, f0, f1, f2⟩ := bk3N T0.out.k1
  obtain ⟨z0, z1, z2, y0, y1, y2⟩ := bk3N T0.out.k2
  by_cases c1 : ea ≤ a
  · obtain rfl : V = ⟨a + el, l, t⟩ := by rw [HV.out, if_pos c1]
    obtain ⟨⟨e0, e1, e2⟩, hb⟩ := (T0.out.set.1 (.int .i64 (a + el))).fin (.int .i64 (a + el)) (.int .i64 l) (.string t)
    have HB := Lib.hid hb
    clear hb HV
    go_wp2
    refine bodyPost_ret (v := .agg #[.int .i64 (a + el), .int .i64 l, .string t]) (by simp [results, Try.results131, go_sem, e0, e1, e2]) rfl ⟨rfl, HB.out⟩
  · by_cases c2 : ea < a + l
    · obtain rfl : V = ⟨a, l + el, t⟩ := by rw [HV.out, if_neg c1, if_pos c2]
      obtain ⟨⟨e0, e1, e2⟩, hb⟩ := (T0.out.set.2 (.int .i64 (l + el))).fin (.int .i64 a) (.int .i64 (l + el)) (.string t)
      have HB := Lib.hid hb
      clear hb HV
      go_wp2
      refine bodyPost_ret (v := .agg #[.int .i64 a, .int .i64 (l + el), .string t]) (by simp [results, Try.results131, go_sem, e0, e1, e2]) rfl ⟨rfl, HB.out⟩
    · obtain rfl : V = ⟨a, l, t⟩ := by rw [HV.out, if_neg c1, if_neg c2]
      obtain ⟨⟨e0, e1, e2⟩, hb⟩ := T0.out.fin (.int .i64 a) (.int .i64 l) (.string t)
      have HB := Lib.hid hb
      clear hb HV
      go_wp2
      refine bodyPost_ret (v := .agg #[.int .i64 a, .int .i64 l, .string t]) (by simp [results, Try.results131, go_sem, e0, e1, e2]) rfl ⟨rfl, HB.out⟩
set_option maxRecDepth 100000 in
set_option maxHeartbeats 4000000 in
theorem afterCut_any (i : Bool) (ea el a l : Int) (t : ByteArray) (w : World) (he : EdOk ⟨i, ea, el⟩) (hn : NtOk 100000000 ⟨a, l, t⟩) :
    Calls Try.prog 133 #[.agg #[.bool i, .int .i64 ea, .int .i64 el], .agg #[.int .i64 a, .int .i64 l, .string t]] w fun e w' => e = .returned (.agg (cutF ⟨i, ea, el⟩ ⟨a, l, t⟩).v) ∧ Below w.heap.size w w' := by
  have T0 := Lib.hid (B3.start w (.bool i) (.int .i64 ea) (.int .i64 el) (.int .i64 a) (.int .i64 l) (.string t))
  have CP : Hid (∀ b W, B3 w (.bool i) (.int .i64 ea) (.int .i64 el) (.int .i64 a) (.int .i64 l) (.string t) W → (0 ≤ b ∧ b ≤ 1000000000) → Calls Try.prog 146 #[.int .i64 b, .pointer (some ⟨w.heap.size, 0, none⟩)] W fun e w' => e = .returned (.int .i64 (plF ⟨i, ea, el⟩ b)) ∧ W = w') := fun b W hT hb => place_any w.heap.size i ea el b W hT.k0 he hb
  have hP1 : 0 ≤ plF ⟨i, ea, el⟩ a ∧ plF ⟨i, ea, el⟩ a ≤ 1000000000 := by
    have := (cutF_ok he hn).1
    exact ⟨this.1, by have h : plF ⟨i, ea, el⟩ a ≤ 100000000 + 1000000 := this.2; omega⟩
  have hP2 : 0 ≤ plF ⟨i, ea, el⟩ (a + l) - plF ⟨i, ea, el⟩ a ∧ plF ⟨i, ea, el⟩ (a + l) - plF ⟨i, ea, el⟩ a ≤ 1000000000 := by
    have := (cutF_ok he hn).2
    exact ⟨this.1, by have h : plF ⟨i, ea, el⟩ (a + l) - plF ⟨i, ea, el⟩ a ≤ 100000000 + 1000000 := this.2; omega⟩
  obtain ⟨⟨h1, h2⟩, h3, h4⟩ := hn
  have h1' : 0 ≤ a := h1
  have h2' : a ≤ 100000000 := h2
  have h3' : 0 ≤ l := h3
  have h4' : l ≤ 100000000 := h4
  have HV : Hid (cutF ⟨i, ea, el⟩ ⟨a, l, t⟩ = ⟨plF ⟨i, ea, el⟩ a, plF ⟨i, ea, el⟩ (a + l) - plF ⟨i, ea, el⟩ a, t⟩) := rfl
  have w2 : IntKind.i64.wrap (a + l) = a + l := IntWalk.i64_in _ (by omega)
  have CA := Lib.hid (fun W hT => CP.out a W hT (by omega))
  have CB := Lib.hid (fun W hT => CP.out (a + l) W hT (by omega))
  obtain ⟨V, hV⟩ : ∃ V, cutF ⟨i, ea, el⟩ ⟨a, l, t⟩ = V := ⟨_, rfl⟩
  obtain ⟨pa, hpa⟩ : ∃ V, plF ⟨i, ea, el⟩ a = V := ⟨_, rfl⟩
  obtain ⟨pb, hpb⟩ : ∃ V, plF ⟨i, ea, el⟩ (a + l) = V := ⟨_, rfl⟩
  rw [hV, hpa, hpb] at HV
  rw [hV]
  rw [hpa] at CA hP1 hP2
  rw [hpb] at CB hP2
  have w3 : IntKind.i64.wrap (pb - pa) = pb - pa := IntWalk.i64_in _ (by omega)
  obtain rfl : V = ⟨pa, pb - pa, t⟩ := HV.out
  clear hV HV hpa hpb h1 h2 h3 h4 CP
  go_enter Try.func133, Try.ntmps133
  go_upto_region 1 with fail
  obtain ⟨W0, hW0⟩ : ∃ W, ((w.alloc (.cells #[.bool i, .int .i64 ea, .int .i64 el] 73)).alloc (.cells #[.int .i64 a, .int .i64 l, .string t] 63)).alloc (.cells #[.int .i64 0, .int .i64 0, .string { data := #[] }] 63) = W := ⟨_, rfl⟩
  rw [hW0] at T0 ⊢
  clear hW0
  obtain ⟨r0, r1, r2, _, _, _⟩ := bk3N T0.out.k0
  obtain ⟨s0, s1, s2, f0, f1, f2⟩ := bk3N T0.out.k1
  obtain ⟨z0, z1, z2, y0, y1, y2⟩ := bk3N T0.out.k2
  go_wp2_with fail
  refine (CB.out _ T0.out).mono ?_
  rintro e w' ⟨rfl, rfl⟩
  go_wp2_with fail
  refine (CA.out _ T0.out).mono ?_
  rintro e w' ⟨rfl, rfl⟩
  obtain ⟨⟨e0, e1, e2⟩, hb⟩ := ((T0.out.set.1 (.int .i64 pa)).set.2 (.int .i64 (pb - pa))).fin (.int .i64 pa) (.int .i64 (pb - pa)) (.string t)
  have HB := Lib.hid hb
  clear hb
  go_wp2
  refine bodyPost_ret (v := .agg #[.int .i64 pa, .int .i64 (pb - pa), .string t]) (by simp [results, Try.results133, go_sem, e0, e1, e2]) rfl ⟨rfl, HB.out⟩

end Go.Proofs.Ytccoflhoggpgoaa

namespace Go.Proofs.Ytccoflhoggpgoaa
open Go.RowKit

open Go.Shelf

def nt0 : Nt := ⟨0, 0, { data := #[] }⟩
def ed0 : Ed := ⟨false, 0, 0⟩
def RdNt (w : World) (A : Option Addr) (n : Nat) (ns : List Nt) : Prop :=
  ns.length = n ∧ (0 < n → ∃ ad, A = some ad ∧ ad.block < w.heap.size ∧ ∀ j, j < n → w.cell? (ad.add (j * 3)) = some (.int .i64 (ns.getD j nt0).a) ∧ w.cell? ((ad.add (j * 3)).add 1) = some (.int .i64 (ns.getD j nt0).l) ∧ w.cell? ((ad.add (j * 3)).add 2) = some (.string (ns.getD j nt0).t))
def RdEd (w : World) (A : Option Addr) (n : Nat) (es : List Ed) : Prop :=
  es.length = n ∧ (0 < n → ∃ ad, A = some ad ∧ ad.block < w.heap.size ∧ ∀ j, j < n → w.cell? (ad.add (j * 3)) = some (.bool (es.getD j ed0).i) ∧ w.cell? ((ad.add (j * 3)).add 1) = some (.int .i64 (es.getD j ed0).a) ∧ w.cell? ((ad.add (j * 3)).add 2) = some (.int .i64 (es.getD j ed0).l))
theorem RdNt.below {w w' : World} {A : Option Addr} {n : Nat} {ns : List Nt} (h : RdNt w A n ns) (hb : Below w.heap.size w w') : RdNt w' A n ns := by
  refine ⟨h.1, fun hn => ?_⟩
  obtain ⟨ad, e, hlt, hc⟩ := h.2 hn
  exact ⟨ad, e, Nat.lt_of_lt_of_le hlt hb.size, fun j hj => ⟨(hb.cell (by rw [addBlock]; exact hlt)).trans (hc j hj).1, (hb.cell (by rw [addBlock, addBlock]; exact hlt)).trans (hc j hj).2.1, (hb.cell (by rw [addBlock, addBlock]; exact hlt)).trans (hc j hj).2.2⟩⟩
theorem RdEd.below {w w' : World} {A : Option Addr} {n : Nat} {es : List Ed} (h : RdEd w A n es) (hb : Below w.heap.size w w') : RdEd w' A n es := by
  refine ⟨h.1, fun hn => ?_⟩
  obtain ⟨ad, e, hlt, hc⟩ := h.2 hn
  exact ⟨ad, e, Nat.lt_of_lt_of_le hlt hb.size, fun j hj => ⟨(hb.cell (by rw [addBlock]; exact hlt)).trans (hc j hj).1, (hb.cell (by rw [addBlock, addBlock]; exact hlt)).trans (hc j hj).2.1, (hb.cell (by rw [addBlock, addBlock]; exact hlt)).trans (hc j hj).2.2⟩⟩
structure M2 (w : World) (n0 n1 n2 : Value) (W : World) : Prop where
  kn : Bk W w.heap.size 63 #[n0, n1, n2]
  kz : Bk W (w.heap.size + 1) 63 #[.int .i64 0, .int .i64 0, .string { data := #[] }]
  b : Below w.heap.size w W
theorem M2.start (w : World) (n0 n1 n2 : Value) : M2 w n0 n1 n2 ((w.alloc (.cells #[n0, n1, n2] 63)).alloc (.cells #[.int .i64 0, .int .i64 0, .string { data := #[] }] 63)) := by
  have h1 : (w.alloc (.cells #[n0, n1, n2] 63)).heap.size = w.heap.size + 1 := by simp
  have p1 := Bk.new (w.alloc (.cells #[n0, n1, n2] 63)) 63 #[.int .i64 0, .int .i64 0, .string { data := #[] }]
  rw [h1] at p1
  exact ⟨(Bk.new _ _ _).alloc _, p1, below2 _ _ _⟩
theorem M2.later {w : World} {n0 n1 n2 : Value} {W W' : World} (H : M2 w n0 n1 n2 W) (hb : Below W.heap.size W W') : M2 w n0 n1 n2 W' := ⟨H.kn.later hb, H.kz.later hb, H.b.trans (hb.mono H.b.size)⟩
theorem M2.set {w : World} {n0 n1 n2 : Value} {W : World} (H : M2 w n0 n1 n2 W) (x y z : Value) : M2 w x y z (((W.setCell ⟨w.heap.size, 0, none⟩ x).setCell ⟨w.heap.size, 1, none⟩ y).setCell ⟨w.heap.size, 2, none⟩ z) :=
  ⟨((H.kn.set_ 0 x).set_ 1 y).set_ 2 z, ((H.kz.far _ (by show w.heap.size + 1 ≠ w.heap.size; omega) _).far _ (by show w.heap.size + 1 ≠ w.heap.size; omega) _).far _ (by show w.heap.size + 1 ≠ w.heap.size; omega) _,
   Below.setCell (p := ⟨w.heap.size, 2, none⟩) (Below.setCell (p := ⟨w.heap.size, 1, none⟩) (Below.setCell (p := ⟨w.heap.size, 0, none⟩) H.b (Nat.le_refl _) x) (Nat.le_refl _) y) (Nat.le_refl _) z⟩
theorem M2.fin {w : World} {n0 n1 n2 : Value} {W : World} (H : M2 w n0 n1 n2 W) (x y z : Value) :
    ((((W.setCell ⟨w.heap.size + 1, 0, none⟩ x).setCell ⟨w.heap.size + 1, 1, none⟩ y).setCell ⟨w.heap.size + 1, 2, none⟩ z).cell? ⟨w.heap.size + 1, 0, none⟩ = some x ∧ (((W.setCell ⟨w.heap.size + 1, 0, none⟩ x).setCell ⟨w.heap.size + 1, 1, none⟩ y).setCell ⟨w.heap.size + 1, 2, none⟩ z).cell? ⟨w.heap.size + 1, 1, none⟩ = some y ∧ (((W.setCell ⟨w.heap.size + 1, 0, none⟩ x).setCell ⟨w.heap.size + 1, 1, none⟩ y).setCell ⟨w.heap.size + 1, 2, none⟩ z).cell? ⟨w.heap.size + 1, 2, none⟩ = some z) ∧ Below w.heap.size w (((W.setCell ⟨w.heap.size + 1, 0, none⟩ x).setCell ⟨w.heap.size + 1, 1, none⟩ y).setCell ⟨w.heap.size + 1, 2, none⟩ z) := by
  have k : Bk (((W.setCell ⟨w.heap.size + 1, 0, none⟩ x).setCell ⟨w.heap.size + 1, 1, none⟩ y).setCell ⟨w.heap.size + 1, 2, none⟩ z) (w.heap.size + 1) 63 #[x, y, z] := ((H.kz.set_ 0 x).set_ 1 y).set_ 2 z
  obtain ⟨a, b, c, _⟩ := bk3N k
  exact ⟨⟨a, b, c⟩, Below.setCell (p := ⟨w.heap.size + 1, 2, none⟩) (Below.setCell (p := ⟨w.heap.size + 1, 1, none⟩) (Below.setCell (p := ⟨w.heap.size + 1, 0, none⟩) H.b (Nat.le_succ _) x) (Nat.le_succ _) y) (Nat.le_succ _) z⟩
theorem mvs_cons (es : List Ed) (k : Nat) (n : Nt) (h : k < es.length) : mvs (es.drop k) n = match mvF (es.getD k ed0) n with | none => none | some m => mvs (es.drop (k + 1)) m := by
  rw [List.drop_eq_getElem_cons h, List.getD_eq_getElem?_getD, List.getElem?_eq_getElem h, Option.getD_some]; rfl

set_option maxRecDepth 100000 in
set_option maxHeartbeats 8000000 in
theorem movedBy_any (A : Option Addr) (n c : Nat) (es : List Ed) (a l : Int) (t : ByteArray) (w : World) (hr : RdEd w A n es) (hn : n ≤ 20) (he : ∀ k, k < n → EdOk (es.getD k ed0)) (ho : NtOk 1000000 ⟨a, l, t⟩) :
    Calls Try.prog 104 #[.slice A n c, .agg #[.int .i64 a, .int .i64 l, .string t]] w fun e w' => e = .returned (.tuple #[.agg ((mvs es ⟨a, l, t⟩).getD nt0).v, .bool (mvs es ⟨a, l, t⟩).isSome]) ∧ Below w.heap.size w w' := by
  have T0 := Lib.hid (M2.start w (.int .i64 a) (.int .i64 l) (.string t))
  have HR := Lib.hid hr
  have HE := Lib.hid he
  have HLN : Hid (es.length = n) := hr.1
  have H0 : Hid (mvs es ⟨a, l, t⟩ = mvs (es.drop 0) ⟨a, l, t⟩) := by show _ = _; rw [List.drop_zero]
  obtain ⟨V, hV⟩ : ∃ V, mvs es ⟨a, l, t⟩ = V := ⟨_, rfl⟩
  rw [hV] at H0 ⊢
  clear hV hr he
  go_enter Try.func104, Try.ntmps104
  go_wp2
  obtain ⟨W0, hW0⟩ : ∃ W, (w.alloc (.cells #[.int .i64 a, .int .i64 l, .string t] 63)).alloc (.cells #[.int .i64 0, .int .i64 0, .string { data := #[] }] 63) = W := ⟨_, rfl⟩
  rw [hW0] at T0 ⊢
  clear hW0
  go_loopw [10] (fun i wr => ∃ (k : Nat) (a l : Int) (t : ByteArray), k ≤ n ∧ i = .int .i64 k ∧ NtOk (1000000 * (k + 1)) ⟨a, l, t⟩ ∧ Hid (V = mvs (es.drop k) ⟨a, l, t⟩) ∧ Hid (M2 w (.int .i64 a) (.int .i64 l) (.string t) wr)) (fun i _ => n - (intOf i).toNat)
  case atStart => exact ⟨0, a, l, t, Nat.zero_le _, rfl, ho, H0, T0⟩
  case round =>
    clear T0 H0 ho
    obtain ⟨k, na, nl, nt, hk, rfl, ho, HV, HT⟩ := hrel
    by_cases hlt : k < n
    case neg =>
      obtain rfl : n = k := by omega
      have hkI : ¬ (n : Int) < (n : Int) := by omega
      obtain rfl : V = some ⟨na, nl, nt⟩ := by rw [HV.out, List.drop_eq_nil_of_le (by have := HLN.out; omega)]; rfl
      obtain ⟨s0, s1, s2, f0, f1, f2⟩ := bk3N HT.out.kn
      obtain ⟨z0, z1, z2, y0, y1, y2⟩ := bk3N HT.out.kz
      obtain ⟨⟨e0, e1, e2⟩, hb⟩ := HT.out.fin (.int .i64 na) (.int .i64 nl) (.string nt)
      have HB := Lib.hid hb
      clear hb
      go_wp2
      refine bodyPost_ret (v := .tuple #[.agg #[.int .i64 na, .int .i64 nl, .string nt], .bool true]) (by simp [results, Try.results104, go_sem, e0, e1, e2]) rfl ⟨rfl, HB.out⟩
    have hkI : (k : Int) < (n : Int) := by omega
    have hk0 : (0 : Int) ≤ (k : Int) := by omega
    obtain ⟨ad, hA, _, hc⟩ := (HR.out.below HT.out.b).2 (by omega)
    subst hA
    obtain ⟨q0, q1, q2⟩ := hc k hlt
    have HEK := Lib.hid (HE.out k hlt)
    have HS := Lib.hid (mvs_cons es k ⟨na, nl, nt⟩ (by have := HLN.out; omega))
    obtain ⟨e, hee⟩ : ∃ e, es.getD k ed0 = e := ⟨_, rfl⟩
    rw [hee] at q0 q1 q2 HEK HS
    obtain ⟨i, ea, el⟩ := e
    have q0' : wr.cell? (ad.add (k * 3)) = some (.bool i) := q0
    have q1' : wr.cell? ((ad.add (k * 3)).add 1) = some (.int .i64 ea) := q1
    have q2' : wr.cell? ((ad.add (k * 3)).add 2) = some (.int .i64 el) := q2
    have q1n : wr.cell? ⟨(ad.add (k * 3)).block, (ad.add (k * 3)).off + 1, none⟩ = some (.int .i64 ea) := q1
    have q2n : wr.cell? ⟨(ad.add (k * 3)).block, (ad.add (k * 3)).off + 2, none⟩ = some (.int .i64 el) := q2
    have hok : NtOk 100000000 ⟨na, nl, nt⟩ := ⟨⟨ho.1.1, by have := ho.1.2; omega⟩, ho.2.1, by have := ho.2.2; omega⟩
    have CI := Lib.hid (fun w => afterInsertion_any i ea el na nl nt w HEK.out hok)
    have CC := Lib.hid (fun w => isCut_any i ea el na nl nt w HEK.out hok)
    have CA := Lib.hid (fun w => afterCut_any i ea el na nl nt w HEK.out hok)
    have HMO := Lib.hid (fun m (h : mvF ⟨i, ea, el⟩ ⟨na, nl, nt⟩ = some m) => mvF_ok HEK.out ho h)
    have HMV : Hid (mvF ⟨i, ea, el⟩ ⟨na, nl, nt⟩ = if i = true then some (insF ⟨i, ea, el⟩ ⟨na, nl, nt⟩) else if cutB ⟨i, ea, el⟩ ⟨na, nl, nt⟩ = true then none else some (cutF ⟨i, ea, el⟩ ⟨na, nl, nt⟩)) := rfl
    obtain ⟨mI, hmI⟩ : ∃ m, insF ⟨i, ea, el⟩ ⟨na, nl, nt⟩ = m := ⟨_, rfl⟩
    obtain ⟨mC, hmC⟩ : ∃ m, cutF ⟨i, ea, el⟩ ⟨na, nl, nt⟩ = m := ⟨_, rfl⟩
    obtain ⟨bC, hbC⟩ : ∃ m, cutB ⟨i, ea, el⟩ ⟨na, nl, nt⟩ = m := ⟨_, rfl⟩
    rw [hmI, hmC, hbC] at HMV
    rw [hmI] at CI
    rw [hmC] at CA
    rw [hbC] at CC
    clear hc q0 q1 q2 hee hmI hmC hbC
    have hg0 := HT.out.kn.lt
    have hg1 := HT.out.kz.lt
    go_upto_region 4 with fail
    have HT1 := Lib.hid (HT.out.later (below1 wr (.cells #[.bool i, .int .i64 ea, .int .i64 el] 73)))
    have KE := Lib.hid (Bk.new wr 73 #[.bool i, .int .i64 ea, .int .i64 el])
    obtain ⟨ge, hge⟩ : ∃ g, wr.heap.size = g := ⟨_, rfl⟩
    obtain ⟨W1, hW1⟩ : ∃ W, wr.alloc (.cells #[.bool i, .int .i64 ea, .int .i64 el] 73) = W := ⟨_, rfl⟩
    rw [hW1] at HT1 KE ⊢
    rw [hge] at KE hg0 hg1 ⊢
    clear hW1 hge HT q0' q1' q2' q1n q2n
    obtain ⟨r0, r1, r2, _, _, _⟩ := bk3N KE.out
    obtain ⟨s0, s1, s2, f0, f1, f2⟩ := bk3N HT1.out.kn
    cases i with
    | true =>
      have hmv : mvF ⟨true, ea, el⟩ ⟨na, nl, nt⟩ = some mI := by rw [HMV.out, if_pos rfl]
      have HS2 : Hid (V = mvs (es.drop (k + 1)) mI) := by show _ = _; rw [HV.out, HS.out, hmv]
      have ho2 := HMO.out _ hmv
      clear hmv
      obtain ⟨ma, ml, mt⟩ := mI
      go_wp2_with fail
      clear r0 r1 r2 s0 s1 s2 f0 f1 f2
      refine (CI.out _).mono ?_
      rintro e w2 ⟨rfl, hb⟩
      have HT2 := Lib.hid (HT1.out.later hb)
      clear hb HT1 KE
      obtain ⟨s0, s1, s2, f0, f1, f2⟩ := bk3N HT2.out.kn
      have HT3 := Lib.hid (HT2.out.set (.int .i64 ma) (.int .i64 ml) (.string mt))
      simp only [Nt.v]
      go_wp2
      go_roundw
      case rel => exact ⟨k + 1, ma, ml, mt, by omega, by go_num, ⟨⟨ho2.1.1, by have := ho2.1.2; omega⟩, ho2.2.1, by have := ho2.2.2; omega⟩, HS2, HT3⟩
      case measure => simp only [intOf]; omega
    | false =>
      cases bC with
      | true =>
        have hmv : mvF ⟨false, ea, el⟩ ⟨na, nl, nt⟩ = none := by rw [HMV.out, if_neg (by decide), if_pos rfl]
        obtain rfl : V = none := by rw [HV.out, HS.out, hmv]
        clear hmv
        go_wp2_with fail
        clear r0 r1 r2 s0 s1 s2 f0 f1 f2
        refine (CC.out _).mono ?_
        rintro e w2 ⟨rfl, hb⟩
        have HT2 := Lib.hid (HT1.out.later hb)
        clear hb HT1 KE
        obtain ⟨z0, z1, z2, y0, y1, y2⟩ := bk3N HT2.out.kz
        obtain ⟨⟨e0, e1, e2⟩, hb⟩ := HT2.out.fin (.int .i64 0) (.int .i64 0) (.string { data := #[] })
        have HB := Lib.hid hb
        clear hb
        go_wp2
        refine bodyPost_ret (v := .tuple #[.agg #[.int .i64 0, .int .i64 0, .string { data := #[] }], .bool false]) (by simp [results, Try.results104, go_sem, e0, e1, e2]) rfl ⟨rfl, HB.out⟩
      | false =>
        have hmv : mvF ⟨false, ea, el⟩ ⟨na, nl, nt⟩ = some mC := by rw [HMV.out, if_neg (by decide), if_neg (by decide)]
        have HS2 : Hid (V = mvs (es.drop (k + 1)) mC) := by show _ = _; rw [HV.out, HS.out, hmv]
        have ho2 := HMO.out _ hmv
        clear hmv
        obtain ⟨ma, ml, mt⟩ := mC
        go_wp2_with fail
        clear r0 r1 r2 s0 s1 s2 f0 f1 f2
        refine (CC.out _).mono ?_
        rintro e w2 ⟨rfl, hb⟩
        have HT2 := Lib.hid (HT1.out.later hb)
        have KE2 := Lib.hid (KE.out.later hb)
        clear hb HT1 KE
        obtain ⟨r0, r1, r2, _, _, _⟩ := bk3N KE2.out
        obtain ⟨s0, s1, s2, f0, f1, f2⟩ := bk3N HT2.out.kn
        go_wp2_with fail
        clear r0 r1 r2 s0 s1 s2 f0 f1 f2
        refine (CA.out _).mono ?_
        rintro e w3 ⟨rfl, hb⟩
        have HT3 := Lib.hid (HT2.out.later hb)
        clear hb HT2 KE2
        obtain ⟨s0, s1, s2, f0, f1, f2⟩ := bk3N HT3.out.kn
        have HT4 := Lib.hid (HT3.out.set (.int .i64 ma) (.int .i64 ml) (.string mt))
        simp only [Nt.v]
        go_wp2
        go_roundw
        case rel => exact ⟨k + 1, ma, ml, mt, by omega, by go_num, ⟨⟨ho2.1.1, by have := ho2.1.2; omega⟩, ho2.2.1, by have := ho2.2.2; omega⟩, HS2, HT4⟩
        case measure => simp only [intOf]; omega

end Go.Proofs.Ytccoflhoggpgoaa

namespace Go.Proofs.Ytccoflhoggpgoaa
open Go.RowKit

open Go.Shelf

def ntE (n : Nt) : Int := firstNZ [rngE 0 1000000 [n.a], rngE 0 1000000 [n.l], if 40 < n.t.size then 8 else 0]
def edE (e : Ed) : Int := firstNZ [rngE 0 1000000 [e.a], rngE 1 1000000 [e.l]]
set_option maxRecDepth 100000 in
set_option maxHeartbeats 4000000 in
theorem checkEdit_any (i : Bool) (ea el : Int) (w : World) :
    Calls Try.prog 103 #[.agg #[.bool i, .int .i64 ea, .int .i64 el]] w fun e w' => e = .returned (.int .i64 (edE ⟨i, ea, el⟩)) ∧ Below w.heap.size w w' := by
  obtain ⟨E1, hE1⟩ : ∃ E, rngE 0 1000000 [ea] = E := ⟨_, rfl⟩
  obtain ⟨E2, hE2⟩ : ∃ E, rngE 1 1000000 [el] = E := ⟨_, rfl⟩
  obtain ⟨V, hV⟩ : ∃ V, edE ⟨i, ea, el⟩ = V := ⟨_, rfl⟩
  have HE : Hid (firstNZ [E1, E2] = V) := by show _ = _; rw [← hE1, ← hE2, ← hV]; rfl
  have R0 := Lib.hid (OneB.start w 73 #[.bool i, .int .i64 ea, .int .i64 el])
  have F1 := Lib.hid (from1_any ea 0 1000000)
  have F2 := Lib.hid (from1_any el 1 1000000)
  rw [hE1] at F1
  rw [hE2] at F2
  rw [hV]
  clear hE1 hE2 hV
  go_enter Try.func103, Try.ntmps103
  go_wp2
  first | (go_region_held3 (fun w' : World => (w'.cell? ⟨w.heap.size, 0, none⟩ = some (.bool i) ∧ w'.cell? ⟨w.heap.size, 1, none⟩ = some (.int .i64 ea) ∧ w'.cell? ⟨w.heap.size, 2, none⟩ = some (.int .i64 el)) ∧ OneB w w.heap.size 73 #[.bool i, .int .i64 ea, .int .i64 el] w') ((refine (fun hI => ⟨⟨(bk3N hI.k).1, (bk3N hI.k).2.1, (bk3N hI.k).2.2.1⟩, hI⟩) ?_; repeat (first | with_reducible assumption | (go_split_ands; with_reducible assumption) | exact R0.out | with_reducible refine OneB.alloc ?_ _ | with_reducible refine OneB.drew ?_))) (first
    | (go_at_call 86; ((with_reducible refine (from_any _ _ _).mono ?_)); rintro e w' ⟨rfl, rfl⟩)
    | (go_at_call 125; ((with_reducible refine (F1.out _ _ _ ?_ ?_).mono ?_)); (focus (simp [go_sem])); (focus (simp [go_sem])); rintro e w' ⟨rfl, rfl⟩)
    | (go_at_call 125; ((with_reducible refine (F2.out _ _ _ ?_ ?_).mono ?_)); (focus (simp [go_sem])); (focus (simp [go_sem])); rintro e w' ⟨rfl, rfl⟩)
    | (go_at_call 84; refine (firstError2 (E1 := E1) (E2 := E2) (F := V) HE.out _ _ ?_ ?_).mono ?_; (focus (simp [go_sem])); (focus (simp [go_sem])); rintro e w' ⟨rfl, rfl⟩))) | fail
  all_goals
    go_wp2
    go_ret
    refine ⟨rfl, ?_⟩
    go_grown
set_option maxRecDepth 100000 in
set_option maxHeartbeats 4000000 in
theorem checkNote_any (a l : Int) (t : ByteArray) (w : World) :
    Calls Try.prog 101 #[.agg #[.int .i64 a, .int .i64 l, .string t]] w fun e w' => e = .returned (.int .i64 (ntE ⟨a, l, t⟩)) ∧ Below w.heap.size w w' := by
  obtain ⟨E1, hE1⟩ : ∃ E, rngE 0 1000000 [a] = E := ⟨_, rfl⟩
  obtain ⟨E2, hE2⟩ : ∃ E, rngE 0 1000000 [l] = E := ⟨_, rfl⟩
  obtain ⟨E3, hE3⟩ : ∃ E : Int, (if 40 < t.size then 8 else 0) = E := ⟨_, rfl⟩
  obtain ⟨V, hV⟩ : ∃ V, ntE ⟨a, l, t⟩ = V := ⟨_, rfl⟩
  have HE : Hid (firstNZ [E1, E2, E3] = V) := by show _ = _; rw [← hE1, ← hE2, ← hE3, ← hV]; rfl
  have R0 := Lib.hid (OneB.start w 63 #[.int .i64 a, .int .i64 l, .string t])
  have F1 := Lib.hid (from1_any a 0 1000000)
  have F2 := Lib.hid (from1_any l 0 1000000)
  have W1 : Hid (∀ w, Calls Try.prog 99 #[.bool (decide ((40 : Int) < (t.size : Int))), .int .i64 8] w fun e w' => e = .returned (.int .i64 E3) ∧ w = w') := fun w => by
    refine (when_any (decide ((40 : Int) < (t.size : Int))) 8 w).mono ?_
    rintro e w' ⟨rfl, rfl⟩
    refine ⟨?_, rfl⟩
    rw [← hE3]
    by_cases h : 40 < t.size
    · rw [if_pos h, if_pos (decide_eq_true (by omega))]
    · rw [if_neg h, if_neg (by simp; omega)]
  rw [hE1] at F1
  rw [hE2] at F2
  rw [hV]
  obtain ⟨b1, hb1⟩ : ∃ b, decide ((40 : Int) < (t.size : Int)) = b := ⟨_, rfl⟩
  rw [hb1] at W1
  clear hE1 hE2 hE3 hV
  go_enter Try.func101, Try.ntmps101
  go_wp2_with fail
  refine (from_any 0 1000000 _).mono ?_
  rintro e w' ⟨rfl, rfl⟩
  have h1 : (w.alloc (.cells #[.int .i64 a, .int .i64 l, .string t] 63)).heap.size = w.heap.size + 1 := by simp
  have R1 := Lib.hid (OneB.alloc (OneB.alloc R0.out (.cells #[.int .i64 0] 3)) (.cells #[.int .i64 1000000] 3))
  have k1 := (Bk.new (w.alloc (.cells #[.int .i64 a, .int .i64 l, .string t] 63)) 3 #[.int .i64 0]).alloc (.cells #[.int .i64 1000000] 3)
  have k2 := Bk.new ((w.alloc (.cells #[.int .i64 a, .int .i64 l, .string t] 63)).alloc (.cells #[.int .i64 0] 3)) 3 #[.int .i64 1000000]
  rw [show ((w.alloc (.cells #[.int .i64 a, .int .i64 l, .string t] 63)).alloc (.cells #[.int .i64 0] 3)).heap.size = w.heap.size + 1 + 1 by simp] at k2
  rw [h1] at k1 ⊢
  have K1 := Lib.hid k1
  have K2 := Lib.hid k2
  clear k1 k2 h1 R0
  obtain ⟨W0, hW0⟩ : ∃ W, ((w.alloc (.cells #[.int .i64 a, .int .i64 l, .string t] 63)).alloc (.cells #[.int .i64 0] 3)).alloc (.cells #[.int .i64 1000000] 3) = W := ⟨_, rfl⟩
  rw [hW0] at R1 K1 K2 ⊢
  clear hW0
  have HC : Hid (∀ V, Below W0.heap.size W0 V → (V.cell? ⟨w.heap.size, 0, none⟩ = some (.int .i64 a) ∧ V.cell? ⟨w.heap.size, 1, none⟩ = some (.int .i64 l) ∧ V.cell? ⟨w.heap.size, 2, none⟩ = some (.string t)) ∧ V.cell? ⟨w.heap.size + 1, 0, none⟩ = some (.int .i64 0) ∧ V.cell? ⟨w.heap.size + 1 + 1, 0, none⟩ = some (.int .i64 1000000)) := fun V hb => ⟨⟨(bk3N (R1.out.k.later hb)).1, (bk3N (R1.out.k.later hb)).2.1, (bk3N (R1.out.k.later hb)).2.2.1⟩, (bk1 (K1.out.later hb)).1, (bk1 (K2.out.later hb)).1⟩
  have hBB : Below W0.heap.size W0 W0 := Below.refl _ _
  go_wp2
  first | (go_region_held3 (fun w' : World => ((w'.cell? ⟨w.heap.size, 0, none⟩ = some (.int .i64 a) ∧ w'.cell? ⟨w.heap.size, 1, none⟩ = some (.int .i64 l) ∧ w'.cell? ⟨w.heap.size, 2, none⟩ = some (.string t)) ∧ w'.cell? ⟨w.heap.size + 1, 0, none⟩ = some (.int .i64 0) ∧ w'.cell? ⟨w.heap.size + 1 + 1, 0, none⟩ = some (.int .i64 1000000)) ∧ Below W0.heap.size W0 w') ((refine (fun hI => ⟨HC.out _ hI, hI⟩) ?_; repeat (first | with_reducible assumption | (go_split_ands; with_reducible assumption) | with_reducible refine belowA ?_ _ | with_reducible refine Below.drew ?_))) (first
    | (go_at_call 125; ((with_reducible refine (F1.out _ _ _ ?_ ?_).mono ?_)); (focus (go_split_ands; assumption)); (focus (go_split_ands; assumption)); rintro e w' ⟨rfl, rfl⟩)
    | (go_at_call 125; ((with_reducible refine (F2.out _ _ _ ?_ ?_).mono ?_)); (focus (go_split_ands; assumption)); (focus (go_split_ands; assumption)); rintro e w' ⟨rfl, rfl⟩)
    | (go_at_call 99; ((with_reducible refine (W1.out _).mono ?_)); rintro e w' ⟨rfl, rfl⟩)
    | (go_at_call 84; refine (firstError3 (E1 := E1) (E2 := E2) (E3 := E3) (F := V) HE.out _ _ ?_ ?_ ?_).mono ?_; (focus (simp [go_sem])); (focus (simp [go_sem])); (focus (simp [go_sem])); rintro e w' ⟨rfl, rfl⟩))) | fail
  all_goals
    go_wp2
    go_ret
    refine ⟨rfl, ?_⟩
    have hbw := R1.out.b
    have hbz := hbw.size
    go_grown

end Go.Proofs.Ytccoflhoggpgoaa

namespace Go.Proofs.Ytccoflhoggpgoaa
open Go.RowKit

open Go.Shelf

def ntsE : List Nt → Int
  | [] => 0
  | n :: ns => if ntE n = 0 then ntsE ns else ntE n
def edsE : List Ed → Int
  | [] => 0
  | n :: ns => if edE n = 0 then edsE ns else edE n
theorem ntsE_step (ns : List Nt) (k : Nat) (h : k < ns.length) : ntsE (ns.drop k) = if ntE (ns.getD k nt0) = 0 then ntsE (ns.drop (k + 1)) else ntE (ns.getD k nt0) := by
  rw [List.drop_eq_getElem_cons h, List.getD_eq_getElem?_getD, List.getElem?_eq_getElem h, Option.getD_some]; rfl
theorem edsE_step (ns : List Ed) (k : Nat) (h : k < ns.length) : edsE (ns.drop k) = if edE (ns.getD k ed0) = 0 then edsE (ns.drop (k + 1)) else edE (ns.getD k ed0) := by
  rw [List.drop_eq_getElem_cons h, List.getD_eq_getElem?_getD, List.getElem?_eq_getElem h, Option.getD_some]; rfl
theorem ntsE_zero : ∀ (ns : List Nt) (_ : ntsE ns = 0), ∀ n ∈ ns, ntE n = 0
  | [], _, n, hn => absurd hn (by simp)
  | m :: ns, h, n, hn => by
    unfold ntsE at h
    by_cases hz : ntE m = 0
    · rw [if_pos hz] at h
      rcases List.mem_cons.1 hn with rfl | hn
      · exact hz
      · exact ntsE_zero ns h n hn
    · rw [if_neg hz] at h; exact absurd h hz
theorem edsE_zero : ∀ (ns : List Ed) (_ : edsE ns = 0), ∀ n ∈ ns, edE n = 0
  | [], _, n, hn => absurd hn (by simp)
  | m :: ns, h, n, hn => by
    unfold edsE at h
    by_cases hz : edE m = 0
    · rw [if_pos hz] at h
      rcases List.mem_cons.1 hn with rfl | hn
      · exact hz
      · exact edsE_zero ns h n hn
    · rw [if_neg hz] at h; exact absurd h hz
theorem ntE_ok {n : Nt} (h : ntE n = 0) : NtOk 1000000 n ∧ n.t.size ≤ 40 := by
  have h1 := rngE_zero (firstNZ_zero h (rngE 0 1000000 [n.a]) (by simp))
  have h2 := rngE_zero (firstNZ_zero h (rngE 0 1000000 [n.l]) (by simp))
  have h3 := firstNZ_zero h (if 40 < n.t.size then 8 else 0) (by simp)
  refine ⟨⟨h1, h2⟩, ?_⟩
  by_cases hs : 40 < n.t.size
  · rw [if_pos hs] at h3; cases h3
  · omega
theorem edE_ok {e : Ed} (h : edE e = 0) : EdOk e :=
  ⟨rngE_zero (firstNZ_zero h (rngE 0 1000000 [e.a]) (by simp)), rngE_zero (firstNZ_zero h (rngE 1 1000000 [e.l]) (by simp))⟩
set_option maxRecDepth 100000 in
set_option maxHeartbeats 4000000 in
theorem checkEachN_any (A : Option Addr) (n c : Nat) (ns : List Nt) (w : World) (hr : RdNt w A n ns) (hn : n ≤ 1000000) :
    Calls Try.prog 100 #[.slice A n c, .func (.func 101) #[] #[]] w fun e w' => e = .returned (.int .i64 (ntsE ns)) ∧ Below w.heap.size w w' := by
  have HR := Lib.hid hr
  have HLN : Hid (ns.length = n) := hr.1
  have H0 : Hid (ntsE ns = ntsE (ns.drop 0)) := by show _ = _; rw [List.drop_zero]
  obtain ⟨V, hV⟩ : ∃ V, ntsE ns = V := ⟨_, rfl⟩
  rw [hV] at H0 ⊢
  clear hr hV
  go_enter Try.func100, Try.ntmps100
  go_wp2
  go_loopw [10] (fun i wr => ∃ k : Nat, k ≤ n ∧ i = .int .i64 k ∧ Hid (V = ntsE (ns.drop k)) ∧ Hid (Below w.heap.size w wr)) (fun i _ => n - (intOf i).toNat)
  case atStart => exact ⟨0, Nat.zero_le _, rfl, H0, Lib.hid (Below.refl _ _)⟩
  case round =>
    obtain ⟨k, hk, rfl, HF, HB⟩ := hrel
    by_cases hlt : k < n
    · have hkI : (k : Int) < (n : Int) := by omega
      have hk0 : (0 : Int) ≤ (k : Int) := by omega
      obtain ⟨ad, ha, _, hc⟩ := (HR.out.below HB.out).2 (by omega)
      subst ha
      obtain ⟨q0, q1, q2⟩ := hc k hlt
      have HS := Lib.hid (ntsE_step ns k (by have := HLN.out; omega))
      obtain ⟨e, hee⟩ : ∃ e, ns.getD k nt0 = e := ⟨_, rfl⟩
      rw [hee] at q0 q1 q2 HS
      obtain ⟨x, y, z⟩ := e
      have q0' : wr.cell? (ad.add (k * 3)) = some (.int .i64 x) := q0
      have q1' : wr.cell? ⟨(ad.add (k * 3)).block, (ad.add (k * 3)).off + 1, none⟩ = some (.int .i64 y) := q1
      have q2' : wr.cell? ⟨(ad.add (k * 3)).block, (ad.add (k * 3)).off + 2, none⟩ = some (.string z) := q2
      have CX := Lib.hid (checkNote_any x y z)
      obtain ⟨E, hE⟩ : ∃ E, ntE ⟨x, y, z⟩ = E := ⟨_, rfl⟩
      rw [hE] at HS CX
      have HB1 := Lib.hid (HB.out.alloc HB.out.size (.cells #[.int .i64 x, .int .i64 y, .string z] 63))
      clear hc q0 q1 q2 hee hE
      by_cases h0 : E = 0
      · subst h0
        have HF2 : Hid (V = ntsE (ns.drop (k + 1))) := by show _ = _; rw [HF.out, HS.out, if_pos rfl]
        go_wp2_with fail
        refine (CX.out _).mono ?_
        rintro e w1 ⟨rfl, hb⟩
        have HB2 := Lib.hid (HB1.out.trans (hb.mono HB1.out.size))
        clear hb
        go_wp2
        go_roundw
        case rel => exact ⟨k + 1, by omega, by go_num, HF2, HB2⟩
        case measure => simp only [intOf]; omega
      · have h1 : (E == 0) = false := by rw [beq_eq_false_iff_ne]; exact h0
        have h2 : (E != 0) = true := by rw [bne_iff_ne]; exact h0
        obtain rfl : V = E := by rw [HF.out, HS.out, if_neg h0]
        clear h0
        go_wp2_with fail
        refine (CX.out _).mono ?_
        rintro e w1 ⟨rfl, hb⟩
        have HB2 := Lib.hid (HB1.out.trans (hb.mono HB1.out.size))
        clear hb
        go_wp2
        go_ret
        exact ⟨rfl, HB2.out⟩
    · obtain rfl : n = k := by omega
      have hkI : ¬ (n : Int) < (n : Int) := by omega
      obtain rfl : V = 0 := by rw [HF.out, List.drop_eq_nil_of_le (by have := HLN.out; omega)]; rfl
      go_wp2
      go_ret
      exact ⟨rfl, HB.out⟩
set_option maxRecDepth 100000 in
set_option maxHeartbeats 4000000 in
theorem checkEachE_any (A : Option Addr) (n c : Nat) (ns : List Ed) (w : World) (hr : RdEd w A n ns) (hn : n ≤ 1000000) :
    Calls Try.prog 102 #[.slice A n c, .func (.func 103) #[] #[]] w fun e w' => e = .returned (.int .i64 (edsE ns)) ∧ Below w.heap.size w w' := by
  have HR := Lib.hid hr
  have HLN : Hid (ns.length = n) := hr.1
  have H0 : Hid (edsE ns = edsE (ns.drop 0)) := by show _ = _; rw [List.drop_zero]
  obtain ⟨V, hV⟩ : ∃ V, edsE ns = V := ⟨_, rfl⟩
  rw [hV] at H0 ⊢
  clear hr hV
  go_enter Try.func102, Try.ntmps102
  go_wp2
  go_loopw [10] (fun i wr => ∃ k : Nat, k ≤ n ∧ i = .int .i64 k ∧ Hid (V = edsE (ns.drop k)) ∧ Hid (Below w.heap.size w wr)) (fun i _ => n - (intOf i).toNat)
  case atStart => exact ⟨0, Nat.zero_le _, rfl, H0, Lib.hid (Below.refl _ _)⟩
  case round =>
    obtain ⟨k, hk, rfl, HF, HB⟩ := hrel
    by_cases hlt : k < n
    · have hkI : (k : Int) < (n : Int) := by omega
      have hk0 : (0 : Int) ≤ (k : Int) := by omega
      obtain ⟨ad, ha, _, hc⟩ := (HR.out.below HB.out).2 (by omega)
      subst ha
      obtain ⟨q0, q1, q2⟩ := hc k hlt
      have HS := Lib.hid (edsE_step ns k (by have := HLN.out; omega))
      obtain ⟨e, hee⟩ : ∃ e, ns.getD k ed0 = e := ⟨_, rfl⟩
      rw [hee] at q0 q1 q2 HS
      obtain ⟨x, y, z⟩ := e
      have q0' : wr.cell? (ad.add (k * 3)) = some (.bool x) := q0
      have q1' : wr.cell? ⟨(ad.add (k * 3)).block, (ad.add (k * 3)).off + 1, none⟩ = some (.int .i64 y) := q1
      have q2' : wr.cell? ⟨(ad.add (k * 3)).block, (ad.add (k * 3)).off + 2, none⟩ = some (.int .i64 z) := q2
      have CX := Lib.hid (checkEdit_any x y z)
      obtain ⟨E, hE⟩ : ∃ E, edE ⟨x, y, z⟩ = E := ⟨_, rfl⟩
      rw [hE] at HS CX
      have HB1 := Lib.hid (HB.out.alloc HB.out.size (.cells #[.bool x, .int .i64 y, .int .i64 z] 73))
      clear hc q0 q1 q2 hee hE
      by_cases h0 : E = 0
      · subst h0
        have HF2 : Hid (V = edsE (ns.drop (k + 1))) := by show _ = _; rw [HF.out, HS.out, if_pos rfl]
        go_wp2_with fail
        refine (CX.out _).mono ?_
        rintro e w1 ⟨rfl, hb⟩
        have HB2 := Lib.hid (HB1.out.trans (hb.mono HB1.out.size))
        clear hb
        go_wp2
        go_roundw
        case rel => exact ⟨k + 1, by omega, by go_num, HF2, HB2⟩
        case measure => simp only [intOf]; omega
      · have h1 : (E == 0) = false := by rw [beq_eq_false_iff_ne]; exact h0
        have h2 : (E != 0) = true := by rw [bne_iff_ne]; exact h0
        obtain rfl : V = E := by rw [HF.out, HS.out, if_neg h0]
        clear h0
        go_wp2_with fail
        refine (CX.out _).mono ?_
        rintro e w1 ⟨rfl, hb⟩
        have HB2 := Lib.hid (HB1.out.trans (hb.mono HB1.out.size))
        clear hb
        go_wp2
        go_ret
        exact ⟨rfl, HB2.out⟩
    · obtain rfl : n = k := by omega
      have hkI : ¬ (n : Int) < (n : Int) := by omega
      obtain rfl : V = 0 := by rw [HF.out, List.drop_eq_nil_of_le (by have := HLN.out; omega)]; rfl
      go_wp2
      go_ret
      exact ⟨rfl, HB.out⟩

end Go.Proofs.Ytccoflhoggpgoaa

namespace Go.Proofs.Ytccoflhoggpgoaa
open Go.RowKit

open Go.Shelf

def c3 {T : Type} (f g h : T → Value) (ns : List T) : List Value := ns.flatMap fun n => [f n, g n, h n]
theorem c3_cons {T : Type} (f g h : T → Value) (n : T) (ns : List T) : c3 f g h (n :: ns) = f n :: g n :: h n :: c3 f g h ns := rfl
theorem c3_app {T : Type} (f g h : T → Value) (a b : List T) : c3 f g h (a ++ b) = c3 f g h a ++ c3 f g h b := by simp [c3]
theorem c3_len {T : Type} (f g h : T → Value) : ∀ ns : List T, (c3 f g h ns).length = ns.length * 3
  | [] => rfl
  | n :: ns => by rw [c3_cons, List.length_cons, List.length_cons, List.length_cons, c3_len f g h ns, List.length_cons]; omega
theorem c3_at {T : Type} (f g h : T → Value) (d : T) : ∀ (ns : List T) (j : Nat), j < ns.length → (c3 f g h ns)[j * 3]? = some (f (ns.getD j d)) ∧ (c3 f g h ns)[j * 3 + 1]? = some (g (ns.getD j d)) ∧ (c3 f g h ns)[j * 3 + 2]? = some (h (ns.getD j d))
  | [], j, hj => absurd hj (by simp)
  | n :: ns, 0, _ => by rw [c3_cons]; exact ⟨rfl, rfl, rfl⟩
  | n :: ns, j + 1, hj => by
    have ih := c3_at f g h d ns j (by simpa using hj)
    rw [c3_cons]
    rw [show (j + 1) * 3 = j * 3 + 3 by omega]
    simp only [List.getD_cons_succ]
    exact ⟨by rw [show j * 3 + 3 = (j * 3) + 1 + 1 + 1 by omega]; simpa using ih.1, by rw [show j * 3 + 3 + 1 = (j * 3 + 1) + 1 + 1 + 1 by omega]; simpa using ih.2.1, by rw [show j * 3 + 3 + 2 = (j * 3 + 2) + 1 + 1 + 1 by omega]; simpa using ih.2.2⟩
theorem c3_one {T : Type} (f g h : T → Value) (hf : ∀ n, (f n).oneCell' = true) (hg : ∀ n, (g n).oneCell' = true) (hh : ∀ n, (h n).oneCell' = true) (ns : List T) : ∀ u ∈ c3 f g h ns, u.oneCell' = true := by
  intro u hu
  simp only [c3, List.mem_flatMap] at hu
  obtain ⟨p, _, hp⟩ := hu
  simp at hp
  rcases hp with rfl | rfl | rfl
  · exact hf p
  · exact hg p
  · exact hh p
def Rd3 {T : Type} (f g h : T → Value) (d : T) (w : World) (A : Option Addr) (n : Nat) (ns : List T) : Prop :=
  ns.length = n ∧ (0 < n → ∃ ad, A = some ad ∧ ad.block < w.heap.size ∧ ∀ j, j < n → w.cell? (ad.add (j * 3)) = some (f (ns.getD j d)) ∧ w.cell? ((ad.add (j * 3)).add 1) = some (g (ns.getD j d)) ∧ w.cell? ((ad.add (j * 3)).add 2) = some (h (ns.getD j d)))
def fN1 (n : Nt) : Value := .int .i64 n.a
def fN2 (n : Nt) : Value := .int .i64 n.l
def fN3 (n : Nt) : Value := .string n.t
def fE1 (n : Ed) : Value := .bool n.i
def fE2 (n : Ed) : Value := .int .i64 n.a
def fE3 (n : Ed) : Value := .int .i64 n.l
theorem rdNt_iff {w : World} {A : Option Addr} {n : Nat} {ns : List Nt} : RdNt w A n ns ↔ Rd3 fN1 fN2 fN3 nt0 w A n ns := Iff.rfl
theorem rdEd_iff {w : World} {A : Option Addr} {n : Nat} {ns : List Ed} : RdEd w A n ns ↔ Rd3 fE1 fE2 fE3 ed0 w A n ns := Iff.rfl
theorem addOff2 (g j k : Nat) : ((⟨g, 0, none⟩ : Addr).add j).add k = ⟨g, j + k, none⟩ := by
  rw [addOff]
  unfold Addr.add
  split <;> simp_all
theorem rd3_of_own {T : Type} {f g' h : T → Value} {d : T} {w : World} {base g n cap : Nat} {t : TypeId} {ns : List T} (H : w.ownsRow base t 3 (.slice (some ⟨g, 0, none⟩) n cap) n (c3 f g' h ns)) (hl : ns.length = n) : Rd3 f g' h d w (some ⟨g, 0, none⟩) n ns := by
  refine ⟨hl, fun _ => ⟨_, rfl, (H.lt g rfl).2, fun j hj => ?_⟩⟩
  obtain ⟨h1, h2, h3⟩ := c3_at f g' h d ns j (by omega)
  refine ⟨?_, ?_, ?_⟩
  · rw [addOff]; exact (H.cellAt (j * 3) (by omega)).trans h1
  · rw [addOff2]; exact (H.cellAt (j * 3 + 1) (by omega)).trans h2
  · rw [addOff2]; exact (H.cellAt (j * 3 + 2) (by omega)).trans h3
theorem add_addN (a : Addr) (j k : Nat) (hk : k ≠ 0) : (a.add j).add k = a.add (j + k) := by
  by_cases hj : j = 0
  · subst hj
    rw [addZ, Nat.zero_add]
  · have h2 : j + k ≠ 0 := by omega
    unfold Addr.add
    simp [hk, hj, h2, Nat.add_assoc]
theorem rd3_news {T : Type} {f g' h : T → Value} {d : T} {W : World} {ad : Addr} {n : Nat} {ns : List T} (H : Rd3 f g' h d W (some ad) n ns) : ∀ j u, (c3 f g' h ns)[j]? = some u → W.cell? (ad.add j) = some u := by
  intro j u hu
  have hj : j < (c3 f g' h ns).length := (List.getElem?_eq_some_iff.1 hu).1
  rw [c3_len, H.1] at hj
  obtain ⟨ad', ha, _, hc⟩ := H.2 (by omega)
  obtain rfl := Option.some.inj ha
  obtain ⟨h1, h2, h3⟩ := hc (j / 3) (by omega)
  obtain ⟨p1, p2, p3⟩ := c3_at f g' h d ns (j / 3) (by have := H.1; omega)
  obtain ⟨q, hq⟩ : ∃ q, j / 3 = q := ⟨_, rfl⟩
  rcases (by omega : j = j / 3 * 3 ∨ j = j / 3 * 3 + 1 ∨ j = j / 3 * 3 + 2) with e | e | e
  · rw [hq] at h1 p1 e
    subst e
    rw [p1] at hu; rw [h1]; exact hu
  · rw [hq] at h2 p2 e
    subst e
    rw [p2] at hu; rw [add_addN _ _ _ (by omega)] at h2; rw [h2]; exact hu
  · rw [hq] at h3 p3 e
    subst e
    rw [p3] at hu; rw [add_addN _ _ _ (by omega)] at h3; rw [h3]; exact hu
theorem noteInfo : (Try.prog.info? 63).map (fun i => (i.zero, i.size, i.bytes)) = some (some (.agg #[.int .i64 0, .int .i64 0, .string { data := #[] }]), 3, 32) := by kernel_rfl
theorem editInfo : (Try.prog.info? 73).map (fun i => (i.zero, i.size, i.bytes)) = some (some (.agg #[.bool false, .int .i64 0, .int .i64 0]), 3, 24) := by kernel_rfl

end Go.Proofs.Ytccoflhoggpgoaa

namespace Go.Proofs.Ytccoflhoggpgoaa
open Go.RowKit

open Go.Shelf

theorem refAfter_any (i : Bool) (ea el b : Int) (w : World) (he : EdOk ⟨i, ea, el⟩) (hb : 0 ≤ b ∧ b ≤ 1000000000) :
    Calls Try.prog 134 #[.int .i64 b, .agg #[.bool i, .int .i64 ea, .int .i64 el]] w fun e w' => e = .returned (.int .i64 (plF ⟨i, ea, el⟩ b)) ∧ Below w.heap.size w w' := by
  obtain ⟨⟨k1, k2⟩, k3, k4⟩ := he
  have k1' : 0 ≤ ea := k1
  have k2' : ea ≤ 1000000 := k2
  have k3' : 1 ≤ el := k3
  have k4' : el ≤ 1000000 := k4
  have HB := Lib.hid (below1 w (.cells #[.bool i, .int .i64 ea, .int .i64 el] 73))
  have HV : Hid (plF ⟨i, ea, el⟩ b = if b < ea then b else max ea (b - el)) := by
    show b - min (max (b - ea) 0) el = _
    by_cases h : b < ea
    · rw [if_pos h]; omega
    · rw [if_neg h]; omega
  have w1 : IntKind.i64.wrap (b - el) = b - el := IntWalk.i64_in _ (by omega)
  have hm := maxM ea (b - el)
  obtain ⟨m, hmm⟩ : ∃ m, max ea (b - el) = m := ⟨_, rfl⟩
  rw [hmm] at hm HV
  obtain ⟨V, hV⟩ : ∃ V, plF ⟨i, ea, el⟩ b = V := ⟨_, rfl⟩
  rw [hV] at HV ⊢
  clear hV hmm k1 k2 k3 k4
  by_cases h : b < ea
  · obtain rfl : V = b := by rw [HV.out, if_pos h]
    go_enter Try.func134, Try.ntmps134
    go_wp2
    go_ret
    exact ⟨rfl, HB.out⟩
  · obtain rfl : V = m := by rw [HV.out, if_neg h]
    go_enter Try.func134, Try.ntmps134
    go_wp2
    go_ret
    exact ⟨rfl, HB.out⟩
/-- The reference moves as the code does. -/
theorem cutF_ref {i : Bool} {ea el a l : Int} {t : ByteArray} (he : EdOk ⟨i, ea, el⟩) (hn : NtOk 100000000 ⟨a, l, t⟩) (hl : l ≠ 0) :
    (cutB ⟨i, ea, el⟩ ⟨a, l, t⟩ = decide (max 0 (min (a + l) (ea + el) - max a ea) = l)) ∧ cutF ⟨i, ea, el⟩ ⟨a, l, t⟩ = ⟨plF ⟨i, ea, el⟩ a, l - max 0 (min (a + l) (ea + el) - max a ea), t⟩ := by
  obtain ⟨⟨k1, k2⟩, k3, k4⟩ := he
  obtain ⟨⟨h1, h2⟩, h3, h4⟩ := hn
  have k1' : 0 ≤ ea := k1
  have k3' : 1 ≤ el := k3
  have h1' : 0 ≤ a := h1
  have h3' : 0 ≤ l := h3
  constructor
  · show (decide (ea ≤ a) && decide (a + max l 1 ≤ ea + el)) = _
    by_cases c1 : ea ≤ a
    · by_cases c2 : a + max l 1 ≤ ea + el
      · rw [decide_eq_true c1, decide_eq_true c2, decide_eq_true (by omega)]; rfl
      · rw [decide_eq_false c2, Bool.and_false, decide_eq_false (by omega)]
    · rw [decide_eq_false c1, Bool.false_and, decide_eq_false (by omega)]
  · unfold cutF plF
    show (⟨_, a + l - min (max (a + l - ea) 0) el - (a - min (max (a - ea) 0) el), t⟩ : Nt) = ⟨_, l - max 0 (min (a + l) (ea + el) - max a ea), t⟩
    have e : a + l - min (max (a + l - ea) 0) el - (a - min (max (a - ea) 0) el) = l - max 0 (min (a + l) (ea + el) - max a ea) := by omega
    rw [e]
theorem cutF_ref0 {i : Bool} {ea el a : Int} {t : ByteArray} : (cutB ⟨i, ea, el⟩ ⟨a, 0, t⟩ = (decide (ea ≤ a) && decide (a ≤ ea + el - 1))) ∧ cutF ⟨i, ea, el⟩ ⟨a, 0, t⟩ = ⟨plF ⟨i, ea, el⟩ a, 0, t⟩ := by
  constructor
  · show (decide (ea ≤ a) && decide (a + max 0 1 ≤ ea + el)) = _
    congr 1
    rw [decide_eq_decide]
    omega
  · unfold cutF
    show (⟨_, plF ⟨i, ea, el⟩ (a + 0) - plF ⟨i, ea, el⟩ a, t⟩ : Nt) = _
    rw [Int.add_zero, Int.sub_self]

end Go.Proofs.Ytccoflhoggpgoaa

namespace Go.Proofs.Ytccoflhoggpgoaa
open Go.RowKit

open Go.Shelf

structure N3 (w : World) (n0 n1 n2 e0 e1 e2 : Value) (W : World) : Prop where
  k0 : Bk W w.heap.size 63 #[n0, n1, n2]
  k1 : Bk W (w.heap.size + 1) 73 #[e0, e1, e2]
  b : Below w.heap.size w W
theorem N3.later {w : World} {n0 n1 n2 e0 e1 e2 : Value} {W W' : World} (H : N3 w n0 n1 n2 e0 e1 e2 W) (hb : Below W.heap.size W W') : N3 w n0 n1 n2 e0 e1 e2 W' := ⟨H.k0.later hb, H.k1.later hb, H.b.trans (hb.mono H.b.size)⟩
theorem N3.drew {w : World} {n0 n1 n2 e0 e1 e2 : Value} {W : World} (H : N3 w n0 n1 n2 e0 e1 e2 W) : N3 w n0 n1 n2 e0 e1 e2 W.drew := ⟨H.k0.drew, H.k1.drew, H.b.drew⟩
theorem N3.set0 {w : World} {n0 n1 n2 e0 e1 e2 : Value} {W : World} (H : N3 w n0 n1 n2 e0 e1 e2 W) (v : Value) : N3 w v n1 n2 e0 e1 e2 (W.setCell ⟨w.heap.size, 0, none⟩ v) := ⟨H.k0.set_ 0 v, H.k1.far _ (by show w.heap.size + 1 ≠ w.heap.size; omega) _, H.b.setCell (p := ⟨w.heap.size, 0, none⟩) (Nat.le_refl _) _⟩
theorem N3.set1 {w : World} {n0 n1 n2 e0 e1 e2 : Value} {W : World} (H : N3 w n0 n1 n2 e0 e1 e2 W) (v : Value) : N3 w n0 v n2 e0 e1 e2 (W.setCell ⟨w.heap.size, 1, none⟩ v) := ⟨H.k0.set_ 1 v, H.k1.far _ (by show w.heap.size + 1 ≠ w.heap.size; omega) _, H.b.setCell (p := ⟨w.heap.size, 1, none⟩) (Nat.le_refl _) _⟩
theorem N3.far {w : World} {n0 n1 n2 e0 e1 e2 : Value} {W : World} (H : N3 w n0 n1 n2 e0 e1 e2 W) (i : Nat) (v : Value) : N3 w n0 n1 n2 e0 e1 e2 (W.setCell ⟨w.heap.size + 1 + 1, i, none⟩ v) := ⟨H.k0.far _ (by show w.heap.size ≠ w.heap.size + 1 + 1; omega) _, H.k1.far _ (by show w.heap.size + 1 ≠ w.heap.size + 1 + 1; omega) _, H.b.setCell (p := ⟨w.heap.size + 1 + 1, i, none⟩) (by show w.heap.size ≤ w.heap.size + 1 + 1; omega) _⟩
theorem N3.set3 {w : World} {n0 n1 n2 e0 e1 e2 : Value} {W : World} (H : N3 w n0 n1 n2 e0 e1 e2 W) (x y z : Value) : N3 w n0 n1 n2 e0 e1 e2 (((W.setCell ⟨w.heap.size + 1 + 1, 0, none⟩ x).setCell ⟨w.heap.size + 1 + 1, 1, none⟩ y).setCell ⟨w.heap.size + 1 + 1, 2, none⟩ z) := ((H.far 0 x).far 1 y).far 2 z
theorem N3.start (w : World) (n0 n1 n2 e0 e1 e2 : Value) : N3 w n0 n1 n2 e0 e1 e2 (((w.alloc (.cells #[n0, n1, n2] 63)).alloc (.cells #[e0, e1, e2] 73)).alloc (.cells #[.int .i64 0, .int .i64 0, .string { data := #[] }] 63)) ∧ Bk (((w.alloc (.cells #[n0, n1, n2] 63)).alloc (.cells #[e0, e1, e2] 73)).alloc (.cells #[.int .i64 0, .int .i64 0, .string { data := #[] }] 63)) (w.heap.size + 1 + 1) 63 #[.int .i64 0, .int .i64 0, .string { data := #[] }] := by
  have h1 : (w.alloc (.cells #[n0, n1, n2] 63)).heap.size = w.heap.size + 1 := by simp
  have h2 : ((w.alloc (.cells #[n0, n1, n2] 63)).alloc (.cells #[e0, e1, e2] 73)).heap.size = w.heap.size + 1 + 1 := by simp
  have p1 := Bk.new (w.alloc (.cells #[n0, n1, n2] 63)) 73 #[e0, e1, e2]
  have p2 := Bk.new ((w.alloc (.cells #[n0, n1, n2] 63)).alloc (.cells #[e0, e1, e2] 73)) 63 #[.int .i64 0, .int .i64 0, .string { data := #[] }]
  rw [h1] at p1
  rw [h2] at p2
  exact ⟨⟨((Bk.new _ _ _).alloc _).alloc _, p1.alloc _, below3 _ _ _ _⟩, p2⟩
theorem N3.fin3 {w W : World} {u0 u1 u2 : Value} (Z : Bk W (w.heap.size + 1 + 1) 63 #[u0, u1, u2]) (b : Below w.heap.size w W) (x y z : Value) :
    ((((W.setCell ⟨w.heap.size + 1 + 1, 0, none⟩ x).setCell ⟨w.heap.size + 1 + 1, 1, none⟩ y).setCell ⟨w.heap.size + 1 + 1, 2, none⟩ z).cell? ⟨w.heap.size + 1 + 1, 0, none⟩ = some x ∧ (((W.setCell ⟨w.heap.size + 1 + 1, 0, none⟩ x).setCell ⟨w.heap.size + 1 + 1, 1, none⟩ y).setCell ⟨w.heap.size + 1 + 1, 2, none⟩ z).cell? ⟨w.heap.size + 1 + 1, 1, none⟩ = some y ∧ (((W.setCell ⟨w.heap.size + 1 + 1, 0, none⟩ x).setCell ⟨w.heap.size + 1 + 1, 1, none⟩ y).setCell ⟨w.heap.size + 1 + 1, 2, none⟩ z).cell? ⟨w.heap.size + 1 + 1, 2, none⟩ = some z) ∧ Below w.heap.size w (((W.setCell ⟨w.heap.size + 1 + 1, 0, none⟩ x).setCell ⟨w.heap.size + 1 + 1, 1, none⟩ y).setCell ⟨w.heap.size + 1 + 1, 2, none⟩ z) := by
  have k : Bk (((W.setCell ⟨w.heap.size + 1 + 1, 0, none⟩ x).setCell ⟨w.heap.size + 1 + 1, 1, none⟩ y).setCell ⟨w.heap.size + 1 + 1, 2, none⟩ z) (w.heap.size + 1 + 1) 63 #[x, y, z] := ((Z.set_ 0 x).set_ 1 y).set_ 2 z
  obtain ⟨a, b', c, _⟩ := bk3N k
  exact ⟨⟨a, b', c⟩, Below.setCell (p := ⟨w.heap.size + 1 + 1, 2, none⟩) (Below.setCell (p := ⟨w.heap.size + 1 + 1, 1, none⟩) (Below.setCell (p := ⟨w.heap.size + 1 + 1, 0, none⟩) b (by show w.heap.size ≤ w.heap.size + 1 + 1; omega) x) (by show w.heap.size ≤ w.heap.size + 1 + 1; omega) y) (by show w.heap.size ≤ w.heap.size + 1 + 1; omega) z⟩

set_option maxRecDepth 100000 in
set_option maxHeartbeats 8000000 in
theorem refmoved_any (a l : Int) (t : ByteArray) (i : Bool) (ea el : Int) (w : World) (he : EdOk ⟨i, ea, el⟩) (hn : NtOk 100000000 ⟨a, l, t⟩) :
    Calls Try.prog 105 #[.agg #[.int .i64 a, .int .i64 l, .string t], .agg #[.bool i, .int .i64 ea, .int .i64 el]] w fun e w' => (∃ a' l' t', e = .returned (.tuple #[.agg #[.int .i64 a', .int .i64 l', .string t'], .bool (mvF ⟨i, ea, el⟩ ⟨a, l, t⟩).isSome]) ∧ ∀ m, mvF ⟨i, ea, el⟩ ⟨a, l, t⟩ = some m → m = ⟨a', l', t'⟩) ∧ Below w.heap.size w w' := by
  have T0 := Lib.hid (N3.start w (.int .i64 a) (.int .i64 l) (.string t) (.bool i) (.int .i64 ea) (.int .i64 el)).1
  have Z0 := Lib.hid (N3.start w (.int .i64 a) (.int .i64 l) (.string t) (.bool i) (.int .i64 ea) (.int .i64 el)).2
  have hP := (cutF_ok he hn).1
  have CAF := Lib.hid (fun w => refAfter_any i ea el a w he ⟨hn.1.1, by have : a ≤ 100000000 := hn.1.2; omega⟩)
  have HR := Lib.hid (fun h : l ≠ 0 => cutF_ref he hn h)
  have HR0 := Lib.hid (cutF_ref0 (i := i) (ea := ea) (el := el) (a := a) (t := t))
  have HMV : Hid (mvF ⟨i, ea, el⟩ ⟨a, l, t⟩ = if i = true then some (insF ⟨i, ea, el⟩ ⟨a, l, t⟩) else if cutB ⟨i, ea, el⟩ ⟨a, l, t⟩ = true then none else some (cutF ⟨i, ea, el⟩ ⟨a, l, t⟩)) := rfl
  have HI : Hid (insF ⟨i, ea, el⟩ ⟨a, l, t⟩ = if ea ≤ a then ⟨a + el, l, t⟩ else if ea < a + l then ⟨a, l + el, t⟩ else ⟨a, l, t⟩) := rfl
  obtain ⟨⟨k1, k2⟩, k3, k4⟩ := he
  obtain ⟨⟨h1, h2⟩, h3, h4⟩ := hn
  have k1' : 0 ≤ ea := k1
  have k2' : ea ≤ 1000000 := k2
  have k3' : 1 ≤ el := k3
  have k4' : el ≤ 1000000 := k4
  have h1' : 0 ≤ a := h1
  have h2' : a ≤ 100000000 := h2
  have h3' : 0 ≤ l := h3
  have h4' : l ≤ 100000000 := h4
  have w1 : IntKind.i64.wrap (a + el) = a + el := IntWalk.i64_in _ (by omega)
  have w2 : IntKind.i64.wrap (a + l) = a + l := IntWalk.i64_in _ (by omega)
  have w3 : IntKind.i64.wrap (l + el) = l + el := IntWalk.i64_in _ (by omega)
  have w4 : IntKind.i64.wrap (ea + el) = ea + el := IntWalk.i64_in _ (by omega)
  have w5 : IntKind.i64.wrap (ea + el - 1) = ea + el - 1 := IntWalk.i64_in _ (by omega)
  obtain ⟨V, hV⟩ : ∃ V, mvF ⟨i, ea, el⟩ ⟨a, l, t⟩ = V := ⟨_, rfl⟩
  rw [hV] at HMV ⊢
  clear hV h1 h2 h3 h4 k1 k2 k3 k4 hP
  go_enter Try.func105, Try.ntmps105
  go_upto_region 1 with fail
  obtain ⟨W0, hW0⟩ : ∃ W, ((w.alloc (.cells #[.int .i64 a, .int .i64 l, .string t] 63)).alloc (.cells #[.bool i, .int .i64 ea, .int .i64 el] 73)).alloc (.cells #[.int .i64 0, .int .i64 0, .string { data := #[] }] 63) = W := ⟨_, rfl⟩
  rw [hW0] at T0 Z0 ⊢
  clear hW0
  obtain ⟨s0, s1, s2, f0, f1, f2⟩ := bk3N T0.out.k0
  obtain ⟨r0, r1, r2, _, _, _⟩ := bk3N T0.out.k1
  obtain ⟨z0, z1, z2, y0, y1, y2⟩ := bk3N Z0.out
  cases i with
  | true =>
    by_cases c1 : ea ≤ a
    · obtain rfl : V = some ⟨a + el, l, t⟩ := by rw [HMV.out, if_pos rfl, HI.out, if_pos c1]
      have TF := Lib.hid (T0.out.set0 (.int .i64 (a + el)))
      have ZF := Lib.hid (Z0.out.far ⟨w.heap.size, 0, none⟩ (by show w.heap.size + 1 + 1 ≠ w.heap.size; omega) (.int .i64 (a + el)))
      obtain ⟨⟨e0, e1, e2⟩, hb⟩ := N3.fin3 ZF.out TF.out.b (.int .i64 (a + el)) (.int .i64 l) (.string t)
      have HB := Lib.hid hb
      clear hb HMV HI HR HR0 CAF
      go_wp2
      refine bodyPost_ret (v := .tuple #[.agg #[.int .i64 (a + el), .int .i64 l, .string t], .bool true]) (by simp [results, Try.results105, go_sem, e0, e1, e2]) rfl ⟨⟨a + el, l, t, rfl, by first | (intro m h; cases h; rfl) | simp⟩, HB.out⟩
    · by_cases c2 : ea < a + l
      · obtain rfl : V = some ⟨a, l + el, t⟩ := by rw [HMV.out, if_pos rfl, HI.out, if_neg c1, if_pos c2]
        have TF := Lib.hid (T0.out.set1 (.int .i64 (l + el)))
        have ZF := Lib.hid (Z0.out.far ⟨w.heap.size, 1, none⟩ (by show w.heap.size + 1 + 1 ≠ w.heap.size; omega) (.int .i64 (l + el)))
        obtain ⟨⟨e0, e1, e2⟩, hb⟩ := N3.fin3 ZF.out TF.out.b (.int .i64 a) (.int .i64 (l + el)) (.string t)
        have HB := Lib.hid hb
        clear hb HMV HI HR HR0 CAF
        go_wp2
        refine bodyPost_ret (v := .tuple #[.agg #[.int .i64 a, .int .i64 (l + el), .string t], .bool true]) (by simp [results, Try.results105, go_sem, e0, e1, e2]) rfl ⟨⟨a, l + el, t, rfl, by first | (intro m h; cases h; rfl) | simp⟩, HB.out⟩
      · obtain rfl : V = some ⟨a, l, t⟩ := by rw [HMV.out, if_pos rfl, HI.out, if_neg c1, if_neg c2]
        obtain ⟨⟨e0, e1, e2⟩, hb⟩ := N3.fin3 Z0.out T0.out.b (.int .i64 a) (.int .i64 l) (.string t)
        have HB := Lib.hid hb
        clear hb HMV HI HR HR0 CAF
        go_wp2
        refine bodyPost_ret (v := .tuple #[.agg #[.int .i64 a, .int .i64 l, .string t], .bool true]) (by simp [results, Try.results105, go_sem, e0, e1, e2]) rfl ⟨⟨a, l, t, rfl, by first | (intro m h; cases h; rfl) | simp⟩, HB.out⟩
  | false =>
    obtain ⟨pa, hpa⟩ : ∃ x, plF ⟨false, ea, el⟩ a = x := ⟨_, rfl⟩
    rw [hpa] at CAF
    by_cases hl0 : l = 0
    · subst hl0
      obtain ⟨hc, hf⟩ := HR0.out
      rw [hpa] at hf
      have CWI := Lib.hid (fun w => within_any a ea (ea + el - 1) w)
      by_cases hcc : ea ≤ a ∧ a ≤ ea + el - 1
      · rw [show fromB ea (ea + el - 1) [a] = true by simp [fromB]; omega] at CWI
        obtain rfl : V = none := by rw [HMV.out, if_neg (by decide), hc, decide_eq_true hcc.1, decide_eq_true hcc.2]; rfl
        obtain ⟨⟨e0, e1, e2⟩, hb⟩ := N3.fin3 Z0.out T0.out.b (.int .i64 a) (.int .i64 0) (.string t)
        have HB := Lib.hid hb
        clear hb hc hf hcc HMV HI HR HR0 CAF hpa
        go_wp2_with fail
        refine (CWI.out _).mono ?_
        rintro e w' ⟨rfl, rfl⟩
        go_wp2
        refine bodyPost_ret (v := .tuple #[.agg #[.int .i64 a, .int .i64 0, .string t], .bool false]) (by simp [results, Try.results105, go_sem, e0, e1, e2]) rfl ⟨⟨a, 0, t, rfl, by first | (intro m h; cases h; done) | simp⟩, HB.out⟩
      · rw [show fromB ea (ea + el - 1) [a] = false by simp [fromB]; omega] at CWI
        obtain rfl : V = some ⟨pa, 0, t⟩ := by
          rw [HMV.out, if_neg (by decide), hc, hf, if_neg]
          intro h
          rw [Bool.and_eq_true] at h
          exact hcc ⟨of_decide_eq_true h.1, of_decide_eq_true h.2⟩
        clear hc hf hcc HMV HI HR HR0 hpa
        go_wp2_with fail
        refine (CWI.out _).mono ?_
        rintro e w' ⟨rfl, rfl⟩
        go_wp2_with fail
        clear s0 s1 s2 f0 f1 f2 r0 r1 r2 z0 z1 z2 y0 y1 y2
        refine (CAF.out _).mono ?_
        rintro e w2 ⟨rfl, hb⟩
        have T2 := Lib.hid (T0.out.later hb)
        have Z2 := Lib.hid (Z0.out.later hb)
        clear hb T0 Z0
        obtain ⟨s0, s1, s2, f0, f1, f2⟩ := bk3N T2.out.k0
        obtain ⟨z0, z1, z2, y0, y1, y2⟩ := bk3N Z2.out
        have TF := Lib.hid (T2.out.set0 (.int .i64 pa))
        have ZF := Lib.hid (Z2.out.far ⟨w.heap.size, 0, none⟩ (by show w.heap.size + 1 + 1 ≠ w.heap.size; omega) (.int .i64 pa))
        obtain ⟨⟨e0, e1, e2⟩, hb⟩ := N3.fin3 ZF.out TF.out.b (.int .i64 pa) (.int .i64 0) (.string t)
        have HB := Lib.hid hb
        clear hb
        go_wp2
        refine bodyPost_ret (v := .tuple #[.agg #[.int .i64 pa, .int .i64 0, .string t], .bool true]) (by simp [results, Try.results105, go_sem, e0, e1, e2]) rfl ⟨⟨pa, 0, t, rfl, by first | (intro m h; cases h; rfl) | simp⟩, HB.out⟩
    · obtain ⟨hc, hf⟩ := HR.out hl0
      rw [hpa] at hf
      have lb : (l == 0) = false := by rw [beq_eq_false_iff_ne]; exact hl0
      have ld : decide (l = 0) = false := decide_eq_false hl0
      have m1 := minB (a + l) (ea + el)
      have m2 := maxM a ea
      obtain ⟨x1, hx1⟩ : ∃ x, min (a + l) (ea + el) = x := ⟨_, rfl⟩
      obtain ⟨x2, hx2⟩ : ∃ x, max a ea = x := ⟨_, rfl⟩
      have b1 : 0 ≤ x1 ∧ x1 ≤ 200000000 := by omega
      have b2 : 0 ≤ x2 ∧ x2 ≤ 200000000 := by omega
      rw [hx1] at m1
      rw [hx2] at m2
      rw [hx1, hx2] at hc hf
      have w6 : IntKind.i64.wrap (x1 - x2) = x1 - x2 := IntWalk.i64_in _ (by omega)
      have m3 := maxM 0 (x1 - x2)
      obtain ⟨lo, hlo⟩ : ∃ x, max 0 (x1 - x2) = x := ⟨_, rfl⟩
      have b3 : 0 ≤ lo ∧ lo ≤ 200000000 := by omega
      rw [hlo] at m3 hc hf
      have w7 : IntKind.i64.wrap (l - lo) = l - lo := IntWalk.i64_in _ (by omega)
      clear hx1 hx2 hlo hl0
      by_cases hll : lo = l
      · obtain rfl : V = none := by rw [HMV.out, if_neg (by decide), hc, decide_eq_true hll]; rfl
        obtain ⟨⟨e0, e1, e2⟩, hb⟩ := N3.fin3 Z0.out T0.out.b (.int .i64 a) (.int .i64 l) (.string t)
        have HB := Lib.hid hb
        have llb : (lo == l) = true := by rw [beq_iff_eq]; exact hll
        have lld : decide (lo = l) = true := decide_eq_true hll
        clear hb hc hf hll HMV HI HR HR0 CAF hpa
        go_wp2
        refine bodyPost_ret (v := .tuple #[.agg #[.int .i64 a, .int .i64 l, .string t], .bool false]) (by simp [results, Try.results105, go_sem, e0, e1, e2]) rfl ⟨⟨a, l, t, rfl, by first | (intro m h; cases h; done) | simp⟩, HB.out⟩
      · obtain rfl : V = some ⟨pa, l - lo, t⟩ := by rw [HMV.out, if_neg (by decide), hc, hf, decide_eq_false hll]; rfl
        have llb : (lo == l) = false := by rw [beq_eq_false_iff_ne]; exact hll
        have lld : decide (lo = l) = false := decide_eq_false hll
        clear hc hf hll HMV HI HR HR0 hpa
        go_upto_region 17 with fail
        clear s0 s1 s2 f0 f1 f2 r0 r1 r2 z0 z1 z2 y0 y1 y2
        have HSK : Hid (∀ V, N3 w (.int .i64 a) (.int .i64 l) (.string t) (.bool false) (.int .i64 ea) (.int .i64 el) V → (V.cell? ⟨w.heap.size, 0, none⟩ = some (.int .i64 a) ∧ V.cell? ⟨w.heap.size, 1, none⟩ = some (.int .i64 l) ∧ V.cell? ⟨w.heap.size, 2, none⟩ = some (.string t) ∧ V.cell? ⟨w.heap.size + 1, 0, none⟩ = some (.bool false) ∧ V.cell? ⟨w.heap.size + 1, 1, none⟩ = some (.int .i64 ea) ∧ V.cell? ⟨w.heap.size + 1, 2, none⟩ = some (.int .i64 el)) ∧ N3 w (.int .i64 a) (.int .i64 l) (.string t) (.bool false) (.int .i64 ea) (.int .i64 el) V) := fun V hV => ⟨⟨(bk3N hV.k0).1, (bk3N hV.k0).2.1, (bk3N hV.k0).2.2.1, (bk3N hV.k1).1, (bk3N hV.k1).2.1, (bk3N hV.k1).2.2.1⟩, hV⟩
        refine wp_region_held_drew (S := (fun w' : World => (w'.cell? ⟨w.heap.size, 0, none⟩ = some (.int .i64 a) ∧ w'.cell? ⟨w.heap.size, 1, none⟩ = some (.int .i64 l) ∧ w'.cell? ⟨w.heap.size, 2, none⟩ = some (.string t) ∧ w'.cell? ⟨w.heap.size + 1, 0, none⟩ = some (.bool false) ∧ w'.cell? ⟨w.heap.size + 1, 1, none⟩ = some (.int .i64 ea) ∧ w'.cell? ⟨w.heap.size + 1, 2, none⟩ = some (.int .i64 el)) ∧ N3 w (.int .i64 a) (.int .i64 l) (.string t) (.bool false) (.int .i64 ea) (.int .i64 el) w')) (by kernel_rfl) ?_ ?_
        · exact HSK.out _ T0.out.drew
        intro hHeld
        refine wpAnyH_take (i := 0) (v := ?_) rfl (by kernel_rfl) (by kernel_rfl) (by kernel_rfl) (fun _ _ _ h => h) (Or.inl ⟨by rfl, ?_⟩) (by assumption) ?_
        rotate_left
        · intro w hSw; (try dsimp only at hSw); go_split_ands; go_simp; (try (with_reducible rfl))
        try simp only [Act.put, List.getElem_toArray, List.getElem_cons_succ, List.getElem_cons_zero, List.setIfInBounds_toArray, List.set_cons_zero, List.set_cons_succ]
        refine wpAnyH_take (i := 1) (v := ?_) rfl (by kernel_rfl) (by kernel_rfl) (by kernel_rfl) (fun _ _ _ h => h) (Or.inl ⟨by rfl, ?_⟩) (by assumption) ?_
        rotate_left
        · intro w hSw; (try dsimp only at hSw); go_split_ands; go_simp; (try (with_reducible rfl))
        try simp only [Act.put, List.getElem_toArray, List.getElem_cons_succ, List.getElem_cons_zero, List.setIfInBounds_toArray, List.set_cons_zero, List.set_cons_succ]
        refine wpAnyH_take (i := 2) (v := ?_) rfl (by kernel_rfl) (by kernel_rfl) (by kernel_rfl) (fun _ _ _ h => h) (Or.inl ⟨by rfl, ?_⟩) (by assumption) ?_
        rotate_left
        · intro w hSw; (try dsimp only at hSw); go_split_ands; go_simp; (try (with_reducible rfl))
        try simp only [Act.put, List.getElem_toArray, List.getElem_cons_succ, List.getElem_cons_zero, List.setIfInBounds_toArray, List.set_cons_zero, List.set_cons_succ]
        refine wpAnyH_take (i := 4) (v := ?_) rfl (by kernel_rfl) (by kernel_rfl) (by kernel_rfl) (fun _ _ _ h => h) (Or.inl ⟨by rfl, ?_⟩) (by assumption) ?_
        rotate_left
        · intro w hSw; (try dsimp only at hSw); go_split_ands; go_simp; (try (with_reducible rfl))
        try simp only [Act.put, List.getElem_toArray, List.getElem_cons_succ, List.getElem_cons_zero, List.setIfInBounds_toArray, List.set_cons_zero, List.set_cons_succ]
        refine wpAnyH_take (i := 5) (v := ?_) rfl (by kernel_rfl) (by kernel_rfl) (by kernel_rfl) (fun _ _ _ h => h) (Or.inl ⟨by rfl, ?_⟩) (by assumption) ?_
        rotate_left
        · intro w hSw; (try dsimp only at hSw); go_split_ands; go_simp; (try (with_reducible rfl))
        try simp only [Act.put, List.getElem_toArray, List.getElem_cons_succ, List.getElem_cons_zero, List.setIfInBounds_toArray, List.set_cons_zero, List.set_cons_succ]
        refine wpAnyH_take (i := 6) (v := ?_) rfl (by kernel_rfl) (by kernel_rfl) (by kernel_rfl) (fun _ _ _ h => h) (Or.inl ⟨by rfl, ?_⟩) (by assumption) ?_
        rotate_left
        · intro w hSw; (try dsimp only at hSw); go_split_ands; go_simp; (try (with_reducible rfl))
        try simp only [Act.put, List.getElem_toArray, List.getElem_cons_succ, List.getElem_cons_zero, List.setIfInBounds_toArray, List.set_cons_zero, List.set_cons_succ]
        refine wpAnyH_take (i := 7) (v := ?_) rfl (by kernel_rfl) (by kernel_rfl) (by kernel_rfl) (fun _ _ _ h => h) (Or.inl ⟨by rfl, ?_⟩) (by assumption) ?_
        rotate_left
        · intro w hSw; (try dsimp only at hSw); go_split_ands; go_simp; (try (with_reducible rfl))
        try simp only [Act.put, List.getElem_toArray, List.getElem_cons_succ, List.getElem_cons_zero, List.setIfInBounds_toArray, List.set_cons_zero, List.set_cons_succ]
        refine wpAnyH_take (i := 8) (v := ?_) rfl (by kernel_rfl) (by kernel_rfl) (by kernel_rfl) (fun _ _ _ h => h) (Or.inl ⟨by rfl, ?_⟩) (by assumption) ?_
        rotate_left
        · intro w hSw; (try dsimp only at hSw); go_split_ands; go_simp; (try (with_reducible rfl))
        try simp only [Act.put, List.getElem_toArray, List.getElem_cons_succ, List.getElem_cons_zero, List.setIfInBounds_toArray, List.set_cons_zero, List.set_cons_succ]
        refine wpAnyH_take (i := 9) (v := ?_) rfl (by kernel_rfl) (by kernel_rfl) (by kernel_rfl) (fun _ _ _ h => h) (Or.inl ⟨by rfl, ?_⟩) (by assumption) ?_
        rotate_left
        · intro w hSw; (try dsimp only at hSw); go_split_ands; go_simp; (try (with_reducible rfl))
        try simp only [Act.put, List.getElem_toArray, List.getElem_cons_succ, List.getElem_cons_zero, List.setIfInBounds_toArray, List.set_cons_zero, List.set_cons_succ]
        refine wpAnyH_ready (rs := [3]) (by kernel_rfl) (by simp) ?_
        refine AllReadyH.cons rfl (fun K hK => ?_) AllReadyH.nil
        rw [if_pos (by rfl)]
        go_simp
        refine (CAF.out _).mono ?_
        rintro e w2 ⟨rfl, hb⟩
        have T2 := Lib.hid (T0.out.drew.later hb)
        have Z2 := Lib.hid (Z0.out.drew.later hb)
        clear hb
        refine hK.out _ _ ?_ (fun hHeld => ?_)
        · clear hK K; exact HSK.out _ T2.out
        clear hK K
        try simp only [List.getElem_toArray, List.getElem_cons_succ, List.getElem_cons_zero, Act.put, List.setIfInBounds_toArray, List.set_cons_zero, List.set_cons_succ]
        refine wpAnyH_take (i := 10) (v := ?_) rfl (by kernel_rfl) (by kernel_rfl) (by kernel_rfl) (fun _ _ _ h => h) (Or.inl ⟨by rfl, ?_⟩) (by assumption) ?_
        rotate_left
        · intro w hSw; (try dsimp only at hSw); go_split_ands; go_simp; (try (with_reducible rfl))
        try simp only [Act.put, List.getElem_toArray, List.getElem_cons_succ, List.getElem_cons_zero, List.setIfInBounds_toArray, List.set_cons_zero, List.set_cons_succ]
        obtain ⟨z0, z1, z2, y0, y1, y2⟩ := bk3N Z2.out
        refine wpAnyH_ready (rs := [11]) (by kernel_rfl) (by simp) ?_
        refine AllReadyH.cons rfl (fun K hK => ?_) AllReadyH.nil
        go_simp
        refine hK.out _ _ ?_ (fun hHeld => ?_)
        · clear hK K; exact HSK.out _ (T2.out.set3 (.int .i64 pa) (.int .i64 (l - lo)) (.string t))
        clear hK K
        try simp only [List.getElem_toArray, List.getElem_cons_succ, List.getElem_cons_zero, Act.put, List.setIfInBounds_toArray, List.set_cons_zero, List.set_cons_succ]
        refine wpAnyH_take (i := 12) (v := ?_) rfl (by kernel_rfl) (by kernel_rfl) (by kernel_rfl) (fun _ _ _ h => h) (Or.inl ⟨by rfl, ?_⟩) (by assumption) ?_
        rotate_left
        · intro w hSw; (try dsimp only at hSw); go_split_ands; go_simp; (try (with_reducible rfl))
        try simp only [Act.put, List.getElem_toArray, List.getElem_cons_succ, List.getElem_cons_zero, List.setIfInBounds_toArray, List.set_cons_zero, List.set_cons_succ]
        refine wpAnyH_done (by kernel_rfl) ?_ _
        obtain ⟨⟨e0, e1, e2⟩, hb⟩ := N3.fin3 Z2.out T2.out.b (.int .i64 pa) (.int .i64 (l - lo)) (.string t)
        have HB := Lib.hid hb
        clear hb
        go_wp2
        refine bodyPost_ret (v := .tuple #[.agg #[.int .i64 pa, .int .i64 (l - lo), .string t], .bool true]) (by simp [results, Try.results105, go_sem, e0, e1, e2]) rfl ⟨⟨pa, l - lo, t, rfl, by first | (intro m h; cases h; rfl) | simp⟩, HB.out⟩

end Go.Proofs.Ytccoflhoggpgoaa

namespace Go.Proofs.Ytccoflhoggpgoaa
open Go.RowKit

open Go.Shelf

def mvE (ns : List Nt) (es : List Ed) : Int := firstNZ [if 20 < ns.length then 8 else 0, ntsE ns, if 20 < es.length then 8 else 0, edsE es]
def mvL (ns : List Nt) (es : List Ed) : List Nt := ns.filterMap (mvs es)
theorem mvL_step (ns : List Nt) (es : List Ed) (k : Nat) (h : k < ns.length) : mvL (ns.take (k + 1)) es = mvL (ns.take k) es ++ (match mvs es (ns.getD k nt0) with | none => [] | some m => [m]) := by
  unfold mvL
  rw [List.take_add_one, List.getD_eq_getElem?_getD, List.getElem?_eq_getElem h, Option.getD_some, Option.toList_some, List.filterMap_append]
  congr 1
  rw [List.filterMap_cons]
  cases mvs es ns[k] <;> rfl
theorem mvL_len (ns : List Nt) (es : List Ed) : (mvL ns es).length ≤ ns.length := List.length_filterMap_le _ _
theorem mvE_zero {ns : List Nt} {es : List Ed} (h : mvE ns es = 0) : ns.length ≤ 20 ∧ (∀ n ∈ ns, NtOk 1000000 n ∧ n.t.size ≤ 40) ∧ es.length ≤ 20 ∧ ∀ e ∈ es, EdOk e := by
  have h1 := firstNZ_zero h (if 20 < ns.length then 8 else 0) (by simp)
  have h2 := firstNZ_zero h (ntsE ns) (by simp)
  have h3 := firstNZ_zero h (if 20 < es.length then 8 else 0) (by simp)
  have h4 := firstNZ_zero h (edsE es) (by simp)
  refine ⟨?_, fun n hn => ntE_ok (ntsE_zero ns h2 n hn), ?_, fun e he => edE_ok (edsE_zero es h4 e he)⟩
  · by_cases hl : 20 < ns.length
    · rw [if_pos hl] at h1; cases h1
    · omega
  · by_cases hl : 20 < es.length
    · rw [if_pos hl] at h3; cases h3
    · omega
theorem cell_three_new (w : World) (t : TypeId) (a b c : Value) : ∀ j u, [a, b, c][j]? = some u → (w.alloc (.cells #[a, b, c] t)).cell? ((⟨w.heap.size, 0, none⟩ : Addr).add j) = some u := by
  intro j u hu
  rw [addOff, (Bk.new w t #[a, b, c]).cell]
  simpa using hu
theorem three_one (a b c : Value) (ha : a.oneCell' = true) (hb : b.oneCell' = true) (hc : c.oneCell' = true) : ∀ u ∈ [a, b, c], u.oneCell' = true := by
  intro u hu
  simp at hu
  rcases hu with rfl | rfl | rfl
  · exact ha
  · exact hb
  · exact hc
set_option maxRecDepth 100000 in
set_option maxHeartbeats 8000000 in
theorem Moved_any (A : Option Addr) (n c : Nat) (ns : List Nt) (B : Option Addr) (m d : Nat) (es : List Ed) (w : World) (hr : RdNt w A n ns) (he : RdEd w B m es) (hn : n ≤ 1000000) (hm : m ≤ 1000000) :
    Calls Try.prog 41 #[.slice A n c, .slice B m d] w fun e w' => (mvE ns es ≠ 0 → e = .returned (.tuple #[.slice none 0 0, .int .i64 (mvE ns es)])) ∧ (mvE ns es = 0 → ∃ A' c', e = .returned (.tuple #[.slice A' (mvL ns es).length c', .int .i64 0]) ∧ RdNt w' A' (mvL ns es).length (mvL ns es)) ∧ Below w.heap.size w w' := by
  obtain ⟨i0, hi0, hz0, hz1, hz2⟩ := info_parts noteInfo
  have hln := hr.1
  have hle := he.1
  have CN : Hid (∀ W, Below w.heap.size w W → Calls Try.prog 100 #[.slice A n c, .func (.func 101) #[] #[]] W fun e w' => e = .returned (.int .i64 (ntsE ns)) ∧ Below W.heap.size W w') := fun W hb => checkEachN_any A n c ns W (hr.below hb) hn
  have CE : Hid (∀ W, Below w.heap.size w W → Calls Try.prog 102 #[.slice B m d, .func (.func 103) #[] #[]] W fun e w' => e = .returned (.int .i64 (edsE es)) ∧ Below W.heap.size W w') := fun W hb => checkEachE_any B m d es W (he.below hb) hm
  have HZ := Lib.hid (fun h => mvE_zero (ns := ns) (es := es) h)
  have HR := Lib.hid hr
  have HED := Lib.hid he
  obtain ⟨E1, hE1⟩ : ∃ E : Int, (if 20 < ns.length then 8 else 0) = E := ⟨_, rfl⟩
  obtain ⟨E2, hE2⟩ : ∃ E, ntsE ns = E := ⟨_, rfl⟩
  obtain ⟨E3, hE3⟩ : ∃ E : Int, (if 20 < es.length then 8 else 0) = E := ⟨_, rfl⟩
  obtain ⟨E4, hE4⟩ : ∃ E, edsE es = E := ⟨_, rfl⟩
  obtain ⟨V, hV⟩ : ∃ V, mvE ns es = V := ⟨_, rfl⟩
  have HE : Hid (firstNZ [E1, E2, E3, E4] = V) := by show _ = _; rw [← hE1, ← hE2, ← hE3, ← hE4, ← hV]; rfl
  have W1 : Hid (∀ w, Calls Try.prog 99 #[.bool (decide ((20 : Int) < (n : Int))), .int .i64 8] w fun e w' => e = .returned (.int .i64 E1) ∧ w = w') := fun w => by
    refine (when_any (decide ((20 : Int) < (n : Int))) 8 w).mono ?_
    rintro e w' ⟨rfl, rfl⟩
    refine ⟨?_, rfl⟩
    rw [← hE1, hln]
    by_cases h : 20 < n
    · rw [if_pos h, if_pos (decide_eq_true (by omega))]
    · rw [if_neg h, if_neg (by simp; omega)]
  have W3 : Hid (∀ w, Calls Try.prog 99 #[.bool (decide ((20 : Int) < (m : Int))), .int .i64 8] w fun e w' => e = .returned (.int .i64 E3) ∧ w = w') := fun w => by
    refine (when_any (decide ((20 : Int) < (m : Int))) 8 w).mono ?_
    rintro e w' ⟨rfl, rfl⟩
    refine ⟨?_, rfl⟩
    rw [← hE3, hle]
    by_cases h : 20 < m
    · rw [if_pos h, if_pos (decide_eq_true (by omega))]
    · rw [if_neg h, if_neg (by simp; omega)]
  rw [hE2] at CN
  rw [hE4] at CE
  rw [hV] at HZ ⊢
  obtain ⟨b1, hb1⟩ : ∃ b, decide ((20 : Int) < (n : Int)) = b := ⟨_, rfl⟩
  obtain ⟨b3, hb3⟩ : ∃ b, decide ((20 : Int) < (m : Int)) = b := ⟨_, rfl⟩
  rw [hb1] at W1
  rw [hb3] at W3
  obtain ⟨L, hL⟩ : ∃ L, mvL ns es = L := ⟨_, rfl⟩
  rw [hL]
  have HLL0 := Lib.hid hL
  clear hL hE1 hE2 hE3 hE4 hV hr he
  go_enter Try.func41, Try.ntmps41
  go_wp2_with fail
  refine (W1.out _).mono ?_
  rintro e w' ⟨rfl, rfl⟩
  go_wp2_with fail
  refine (CN.out _ (Below.refl _ _)).mono ?_
  rintro e w1 ⟨rfl, hb⟩
  have HB1 := Lib.hid hb
  clear hb
  go_wp2_with fail
  refine (W3.out _).mono ?_
  rintro e w' ⟨rfl, rfl⟩
  go_wp2_with fail
  refine (CE.out _ HB1.out).mono ?_
  rintro e w2 ⟨rfl, hb⟩
  have HB2 := Lib.hid (HB1.out.trans (hb.mono HB1.out.size))
  clear hb HB1
  go_wp2_with fail
  refine (firstError4 (E1 := E1) (E2 := E2) (E3 := E3) (E4 := E4) (F := V) HE.out _ _ ?_ ?_ ?_ ?_).mono ?_
  (focus (simp [go_sem])); (focus (simp [go_sem]))
  (focus (simp [go_sem])); (focus (simp [go_sem]))
  rintro e w' ⟨rfl, rfl⟩
  have HB3 := Lib.hid (HB2.out.alloc HB2.out.size (.cells #[.int .i64 E1, .int .i64 E2, .int .i64 E3, .int .i64 E4] 25))
  obtain ⟨W3w, hW3⟩ : ∃ W, w2.alloc (.cells #[.int .i64 E1, .int .i64 E2, .int .i64 E3, .int .i64 E4] 25) = W := ⟨_, rfl⟩
  rw [hW3] at HB3 ⊢
  clear hW3 HB2 CN CE W1 W3 HE hb1 hb3
  by_cases h0 : V = 0
  case neg =>
    have d1 : (V == 0) = false := by rw [beq_eq_false_iff_ne]; exact h0
    have d2 : (V != 0) = true := by rw [bne_iff_ne]; exact h0
    have H0 := Lib.hid h0
    clear h0
    go_wp2
    go_ret2
    exact ⟨fun _ => rfl, fun h => absurd h H0.out, HB3.out⟩
  subst h0
  obtain ⟨hn20, hok, hm20, hek⟩ := HZ.out rfl
  rw [hln] at hn20
  rw [hle] at hm20
  have HOK := Lib.hid (fun k (hk : k < n) => (hok (ns.getD k nt0) (by rw [List.getD_eq_getElem?_getD, List.getElem?_eq_getElem (by omega), Option.getD_some]; exact List.getElem_mem _)).1)
  have HEK := Lib.hid (fun k (hk : k < m) => hek (es.getD k ed0) (by rw [List.getD_eq_getElem?_getD, List.getElem?_eq_getElem (by omega), Option.getD_some]; exact List.getElem_mem _))
  have HST := Lib.hid (fun k (hk : k < n) => mvL_step ns es k (by omega))
  have HLL := Lib.hid (fun k => mvL_len (ns.take k) es)
  have HEND : Hid (mvL (ns.take n) es = L) := by show _ = _; rw [List.take_of_length_le (by omega), HLL0.out]
  have HTL : Hid (∀ k, (ns.take k).length ≤ n) := fun k => by rw [List.length_take]; omega
  clear HZ hok hek hln hle
  go_wp2
  go_loopw [7, 31] (fun v i wr => ∃ (k q : Nat) (Av : Option Addr) (cv : Nat), v = .slice Av q cv ∧ k ≤ n ∧ i = .int .i64 k ∧ Hid ((mvL (ns.take k) es).length = q) ∧ Hid (wr.ownsRow W3w.heap.size 63 3 (.slice Av q cv) q (c3 fN1 fN2 fN3 (mvL (ns.take k) es))) ∧ Hid (Below W3w.heap.size W3w wr)) (fun _ i _ => n - (intOf i).toNat)
  case atStart => exact ⟨0, 0, none, 0, rfl, Nat.zero_le _, rfl, by show _ = _; rw [List.take_zero]; rfl, Lib.hid (by rw [List.take_zero]; exact World.ownsRow_nil _ _ _ _), Lib.hid (Below.refl _ _)⟩
  case round =>
    obtain ⟨k, q, Av, cv, rfl, hk, rfl, HQ, HI, HB⟩ := hrel
    have HBw := Lib.hid (HB3.out.trans (HB.out.mono HB3.out.size))
    by_cases hlt : k < n
    case neg =>
      obtain rfl : n = k := by omega
      have hkI : ¬ (n : Int) < (n : Int) := by omega
      go_wp2
      go_ret2
      refine ⟨⟨Av, ⟨cv, ?_⟩, ?_⟩, HBw.out⟩
      · have h1 := HQ.out
        rw [HEND.out] at h1
        rw [h1]; rfl
      · have h1 := HQ.out
        have h2 := HI.out
        rw [HEND.out] at h1 h2
        rw [h1]
        rcases h2.2 with ⟨e, h0'⟩ | ⟨g, cap, cur, e, _⟩
        · injection e with e1 e2 e3
          subst e1 e2
          first | exact ⟨h1, fun h => absurd h (by omega)⟩ | exact fun h => absurd h (by omega)
        · injection e with e1 e2 e3
          subst e1
          exact rdNt_iff.2 (rd3_of_own h2 h1)
    have hkI : (k : Int) < (n : Int) := by omega
    have hk0 : (0 : Int) ≤ (k : Int) := by omega
    obtain ⟨ad, hA, _, hc⟩ := (HR.out.below HBw.out).2 (by omega)
    subst hA
    obtain ⟨q0, q1, q2⟩ := hc k hlt
    have hok := HOK.out k hlt
    have HS := Lib.hid (HST.out k hlt)
    obtain ⟨e, hee⟩ : ∃ e, ns.getD k nt0 = e := ⟨_, rfl⟩
    rw [hee] at q0 q1 q2 hok HS
    obtain ⟨a, l, t⟩ := e
    have q0' : wr.cell? (ad.add (k * 3)) = some (.int .i64 a) := q0
    have q1' : wr.cell? ⟨(ad.add (k * 3)).block, (ad.add (k * 3)).off + 1, none⟩ = some (.int .i64 l) := q1
    have q2' : wr.cell? ⟨(ad.add (k * 3)).block, (ad.add (k * 3)).off + 2, none⟩ = some (.string t) := q2
    have CM : Hid (∀ W, Below w.heap.size w W → Calls Try.prog 104 #[.slice B m d, .agg #[.int .i64 a, .int .i64 l, .string t]] W fun e w' => e = .returned (.tuple #[.agg ((mvs es ⟨a, l, t⟩).getD nt0).v, .bool (mvs es ⟨a, l, t⟩).isSome]) ∧ Below W.heap.size W w') := fun W hb => movedBy_any B m d es a l t W (HED.out.below hb) hm20 HEK.out hok
    have hql := HLL.out k
    have hqt := HTL.out k
    rw [HQ.out] at hql
    have hBA := Lib.hid (HBw.out.alloc HBw.out.size (.cells #[.int .i64 a, .int .i64 l, .string t] 63))
    have hBA2 := Lib.hid (HB.out.alloc HB.out.size (.cells #[.int .i64 a, .int .i64 l, .string t] 63))
    have HI2 := Lib.hid (HI.out.alloc (.cells #[.int .i64 a, .int .i64 l, .string t] 63))
    obtain ⟨X, hX⟩ : ∃ X, mvs es ⟨a, l, t⟩ = X := ⟨_, rfl⟩
    rw [hX] at CM HS
    clear hc q0 q1 q2 hee hX hok HI HB
    go_wp2_with fail
    refine (CM.out _ hBA.out).mono ?_
    rintro e w5 ⟨rfl, hb⟩
    have HB5 := Lib.hid (hBA2.out.trans (hb.mono hBA2.out.size))
    have HI5 := Lib.hid (ownBelow HI2.out hb)
    clear hb CM hBA hBA2 HI2 q0' q1' q2'
    cases X with
    | none =>
      have HS2 : Hid (mvL (ns.take (k + 1)) es = mvL (ns.take k) es) := by show _ = _; rw [HS.out, List.append_nil]
      have HB6 := Lib.hid (HB5.out.alloc HB5.out.size (.cells #[.int .i64 0, .int .i64 0, .string { data := #[] }] 63))
      have HI6 := Lib.hid (HI5.out.alloc (.cells #[.int .i64 0, .int .i64 0, .string { data := #[] }] 63))
      simp only [Option.getD_none, Option.isSome_none, nt0, Nt.v]
      go_wp2
      go_roundw
      case rel => exact ⟨k + 1, q, Av, cv, rfl, by omega, by go_num, by show _ = _; rw [HS2.out, HQ.out], Lib.hid (by rw [HS2.out]; exact HI6.out), HB6⟩
      case measure => simp only [intOf]; omega
    | some mm =>
      obtain ⟨ma, ml, mt⟩ := mm
      have HS2 : Hid (mvL (ns.take (k + 1)) es = mvL (ns.take k) es ++ [⟨ma, ml, mt⟩]) := HS.out
      have HB6 := Lib.hid (HB5.out.alloc HB5.out.size (.cells #[.int .i64 ma, .int .i64 ml, .string mt] 63))
      have HI6 := Lib.hid (HI5.out.alloc (.cells #[.int .i64 ma, .int .i64 ml, .string mt] 63))
      simp only [Option.getD_some, Option.isSome_some, Nt.v]
      go_upto_region 10 with fail
      have KB := Lib.hid (Bk.new w5 63 #[.int .i64 ma, .int .i64 ml, .string mt])
      obtain ⟨gb, hgb⟩ : ∃ g, w5.heap.size = g := ⟨_, rfl⟩
      obtain ⟨W6, hW6⟩ : ∃ W, w5.alloc (.cells #[.int .i64 ma, .int .i64 ml, .string mt] 63) = W := ⟨_, rfl⟩
      rw [hW6] at HB6 HI6 KB ⊢
      rw [hgb] at KB ⊢
      clear hgb hW6 HB5 HI5
      obtain ⟨p0, p1, p2, _, _, _⟩ := bk3N KB.out
      go_wp2_with (at_builtin; refine wpList_append_own _ rfl (.tmp 42) (.tmp 44) 60 rfl W3w.heap.size 63 i0 _ 3 32 Try.underlying60 hi0 hz0 hz1 hz2 rfl (by decide) _ _ _ rfl (HI6.out.alloc _) ⟨W6.heap.size, 0, none⟩ 1 1 [.int .i64 ma, .int .i64 ml, .string mt] rfl rfl (cell_three_new _ _ _ _ _) (three_one _ _ _ rfl rfl rfl) (by unfold maxLen; omega) (by omega) (by have := HB6.out.size; simp; omega) ?_)
      intro v' w7 hown' hgrow _
      obtain ⟨g', cap', rfl⟩ := ownsRow_succ hown'
      have HB7 : Hid (Below W3w.heap.size W3w w7) := ((HB6.out).alloc (HB6.out).size (.cells #[.int .i64 ma, .int .i64 ml, .string mt] 63)).grown hgrow (by have := HB6.out.size; simp; omega) (fun z e => ((HI6.out.alloc (.cells #[.int .i64 ma, .int .i64 ml, .string mt] 63)).lt z e).1)
      have HI7 : Hid (w7.ownsRow W3w.heap.size 63 3 (.slice (some ⟨g', 0, none⟩) (q + 1) cap') (q + 1) (c3 fN1 fN2 fN3 (mvL (ns.take (k + 1)) es))) := by
        show World.ownsRow _ _ _ _ _ _ _
        rw [HS2.out, c3_app]
        exact hown'
      clear hown' hgrow
      go_wp2
      go_roundw
      case rel => exact ⟨k + 1, q + 1, _, cap', rfl, by omega, by go_num, by show _ = _; rw [HS2.out, List.length_append, HQ.out]; rfl, HI7, HB7⟩
      case measure => simp only [intOf]; omega

end Go.Proofs.Ytccoflhoggpgoaa

namespace Go.Proofs.Ytccoflhoggpgoaa
open Go.RowKit

open Go.Shelf

set_option maxRecDepth 100000 in
set_option maxHeartbeats 2000000 in
theorem copyNotes_any (A : Option Addr) (n c : Nat) (ns : List Nt) (w : World) (hA : A = none → n = 0 ∧ c = 0) (hr : RdNt w A n ns) (hn : n ≤ 1000000) :
    Calls Try.prog 42 #[.slice A n c] w fun e w' => (∃ A' c', e = .returned (.slice A' n c') ∧ n ≤ c' ∧ RdNt w' A' n ns) ∧ Below w.heap.size w w' := by
  obtain ⟨i0, hi, hz0, hz1, hz2⟩ := info_parts noteInfo
  have ho : Hid ((w.alloc (.cells #[] 63)).ownsRow w.heap.size 63 3 (.slice (some ⟨w.heap.size, 0, none⟩) 0 0) 0 ([] : List Value)) := World.ownsRow_lit w #[] 0 (Nat.le_refl _) (by unfold maxLen; omega) rfl
  have HB := Lib.hid (below1 w (.cells #[] 63))
  have HL : Hid (ns.length = n) := hr.1
  cases A with
  | none =>
    obtain ⟨rfl, rfl⟩ := hA rfl
    have hl : ns = [] := List.eq_nil_of_length_eq_zero hr.1
    subst hl
    clear hA hr
    go_enter Try.func42, Try.ntmps42
    go_wp2_with (at_builtin; refine wpList_append_own_none rfl (.tmp 3) (.tmp 4) 60 rfl w.heap.size 63 i0 3 Try.underlying60 hi _ _ _ rfl ho.out rfl ?_)
    go_wp2
    go_ret
    exact ⟨⟨_, _, rfl, Nat.le_refl _, ⟨rfl, fun h => absurd h (by omega)⟩⟩, HB.out⟩
  | some ad =>
    have hr3 : Rd3 fN1 fN2 fN3 nt0 (w.alloc (.cells #[] 63)) (some ad) n ns := rdNt_iff.1 (hr.below (below1 w _))
    have hlen : Hid ((c3 fN1 fN2 fN3 ns).length = n * 3) := by show _ = _; rw [c3_len, HL.out]
    have hsrc := Lib.hid (rd3_news hr3)
    have hone : Hid (∀ u ∈ c3 fN1 fN2 fN3 ns, u.oneCell' = true) := c3_one _ _ _ (fun _ => rfl) (fun _ => rfl) (fun _ => rfl) ns
    obtain ⟨news, hnews⟩ : ∃ news, c3 fN1 fN2 fN3 ns = news := ⟨_, rfl⟩
    rw [hnews] at hlen hsrc hone
    have HNW := Lib.hid hnews
    have hbs : w.heap.size ≤ (w.alloc (.cells #[] 63)).heap.size := by simp
    clear hnews hA hr hr3
    go_enter Try.func42, Try.ntmps42
    go_wp2_with (at_builtin; refine wpList_append_own _ rfl (.tmp 3) (.tmp 4) 60 rfl w.heap.size 63 i0 _ 3 32 Try.underlying60 hi hz0 hz1 hz2 rfl (by decide) _ _ _ rfl ho.out ad n c news rfl hlen.out hsrc.out hone.out (by unfold maxLen; omega) (by omega) hbs ?_)
    intro v w2 ho2 hg2 hnil
    have b2 : Below w.heap.size w w2 := HB.out.grown hg2 (by have := HB.out.size; exact this) (fun g hg => by have := (ho.out.lt g hg).1; omega)
    have hv : ∃ g cap, v = .slice (some ⟨g, 0, none⟩) n cap ∧ n ≤ cap := by
      have h2 := ho2.2
      rcases h2 with ⟨e, h0⟩ | ⟨g, cap, cur, e, hge, _, hnc, _⟩
      · exact absurd e hnil
      · exact ⟨g, cap, by rw [e], by omega⟩
    obtain ⟨g, cap, rfl, hcap⟩ := hv
    have o2 : RdNt w2 (some ⟨g, 0, none⟩) n ns := by
      refine rdNt_iff.2 (rd3_of_own (base := w.heap.size) (t := 63) (cap := cap) ?_ HL.out)
      rw [HNW.out]
      simpa using ho2
    have O2 := Lib.hid o2
    have B2 := Lib.hid b2
    clear ho2 hg2 b2 hnil ho HB o2
    go_wp2
    go_ret
    exact ⟨⟨_, _, rfl, hcap, O2.out⟩, B2.out⟩
set_option maxRecDepth 100000 in
set_option maxHeartbeats 2000000 in
theorem copyEdits_any (A : Option Addr) (n c : Nat) (ns : List Ed) (w : World) (hA : A = none → n = 0 ∧ c = 0) (hr : RdEd w A n ns) (hn : n ≤ 1000000) :
    Calls Try.prog 43 #[.slice A n c] w fun e w' => (∃ A' c', e = .returned (.slice A' n c') ∧ n ≤ c' ∧ RdEd w' A' n ns) ∧ Below w.heap.size w w' := by
  obtain ⟨i0, hi, hz0, hz1, hz2⟩ := info_parts editInfo
  have ho : Hid ((w.alloc (.cells #[] 73)).ownsRow w.heap.size 73 3 (.slice (some ⟨w.heap.size, 0, none⟩) 0 0) 0 ([] : List Value)) := World.ownsRow_lit w #[] 0 (Nat.le_refl _) (by unfold maxLen; omega) rfl
  have HB := Lib.hid (below1 w (.cells #[] 73))
  have HL : Hid (ns.length = n) := hr.1
  cases A with
  | none =>
    obtain ⟨rfl, rfl⟩ := hA rfl
    have hl : ns = [] := List.eq_nil_of_length_eq_zero hr.1
    subst hl
    clear hA hr
    go_enter Try.func43, Try.ntmps43
    go_wp2_with (at_builtin; refine wpList_append_own_none rfl (.tmp 3) (.tmp 4) 61 rfl w.heap.size 73 i0 3 Try.underlying61 hi _ _ _ rfl ho.out rfl ?_)
    go_wp2
    go_ret
    exact ⟨⟨_, _, rfl, Nat.le_refl _, ⟨rfl, fun h => absurd h (by omega)⟩⟩, HB.out⟩
  | some ad =>
    have hr3 : Rd3 fE1 fE2 fE3 ed0 (w.alloc (.cells #[] 73)) (some ad) n ns := rdEd_iff.1 (hr.below (below1 w _))
    have hlen : Hid ((c3 fE1 fE2 fE3 ns).length = n * 3) := by show _ = _; rw [c3_len, HL.out]
    have hsrc := Lib.hid (rd3_news hr3)
    have hone : Hid (∀ u ∈ c3 fE1 fE2 fE3 ns, u.oneCell' = true) := c3_one _ _ _ (fun _ => rfl) (fun _ => rfl) (fun _ => rfl) ns
    obtain ⟨news, hnews⟩ : ∃ news, c3 fE1 fE2 fE3 ns = news := ⟨_, rfl⟩
    rw [hnews] at hlen hsrc hone
    have HNW := Lib.hid hnews
    have hbs : w.heap.size ≤ (w.alloc (.cells #[] 73)).heap.size := by simp
    clear hnews hA hr hr3
    go_enter Try.func43, Try.ntmps43
    go_wp2_with (at_builtin; refine wpList_append_own _ rfl (.tmp 3) (.tmp 4) 61 rfl w.heap.size 73 i0 _ 3 24 Try.underlying61 hi hz0 hz1 hz2 rfl (by decide) _ _ _ rfl ho.out ad n c news rfl hlen.out hsrc.out hone.out (by unfold maxLen; omega) (by omega) hbs ?_)
    intro v w2 ho2 hg2 hnil
    have b2 : Below w.heap.size w w2 := HB.out.grown hg2 (by have := HB.out.size; exact this) (fun g hg => by have := (ho.out.lt g hg).1; omega)
    have hv : ∃ g cap, v = .slice (some ⟨g, 0, none⟩) n cap ∧ n ≤ cap := by
      have h2 := ho2.2
      rcases h2 with ⟨e, h0⟩ | ⟨g, cap, cur, e, hge, _, hnc, _⟩
      · exact absurd e hnil
      · exact ⟨g, cap, by rw [e], by omega⟩
    obtain ⟨g, cap, rfl, hcap⟩ := hv
    have o2 : RdEd w2 (some ⟨g, 0, none⟩) n ns := by
      refine rdEd_iff.2 (rd3_of_own (base := w.heap.size) (t := 73) (cap := cap) ?_ HL.out)
      rw [HNW.out]
      simpa using ho2
    have O2 := Lib.hid o2
    have B2 := Lib.hid b2
    clear ho2 hg2 b2 hnil ho HB o2
    go_wp2
    go_ret
    exact ⟨⟨_, _, rfl, hcap, O2.out⟩, B2.out⟩

end Go.Proofs.Ytccoflhoggpgoaa

namespace Go.Proofs.Ytccoflhoggpgoaa
open Go.RowKit

open Go.Shelf

/-! ### the reference's list after some of the edits -/
theorem mvs_snoc (e : Ed) : ∀ (es : List Ed) (n : Nt), mvs (es ++ [e]) n = (mvs es n).bind (mvF e)
  | [], n => by
    show (match mvF e n with | none => none | some m => mvs [] m) = mvF e n
    cases mvF e n <;> rfl
  | x :: es, n => by
    show (match mvF x n with | none => none | some m => mvs (es ++ [e]) m) = (match mvF x n with | none => none | some m => mvs es m).bind (mvF e)
    cases mvF x n with
    | none => rfl
    | some m => exact mvs_snoc e es m
def stL (ns : List Nt) (es : List Ed) (k : Nat) : List Nt := mvL ns (es.take k)
theorem stL_zero (ns : List Nt) (es : List Ed) : stL ns es 0 = ns := by
  unfold stL mvL
  rw [List.take_zero]
  show ns.filterMap some = ns
  exact List.filterMap_some
theorem stL_step (ns : List Nt) (es : List Ed) (k : Nat) (h : k < es.length) : stL ns es (k + 1) = (stL ns es k).filterMap (mvF (es.getD k ed0)) := by
  unfold stL mvL
  rw [List.take_add_one, List.getD_eq_getElem?_getD, List.getElem?_eq_getElem h, Option.getD_some, Option.toList_some, List.filterMap_filterMap]
  congr 1
  funext n
  exact mvs_snoc _ _ _
theorem stL_ok {ns : List Nt} {es : List Ed} (hn : ∀ n ∈ ns, NtOk 1000000 n) (he : ∀ e ∈ es, EdOk e) : ∀ k : Nat, k ≤ es.length → ∀ n ∈ stL ns es k, NtOk (1000000 * (k + 1)) n
  | 0, _ => by rw [stL_zero]; simpa using hn
  | k + 1, hk => by
    intro n h
    rw [stL_step ns es k (by omega), List.mem_filterMap] at h
    obtain ⟨m, hm, hf⟩ := h
    have h1 := mvF_ok (he (es.getD k ed0) (by rw [List.getD_eq_getElem?_getD, List.getElem?_eq_getElem (by omega), Option.getD_some]; exact List.getElem_mem _)) (stL_ok hn he k (by omega) m hm) hf
    have e : (1000000 * ((k : Int) + 1) + 1000000) = 1000000 * (((k + 1 : Nat) : Int) + 1) := by omega
    rw [e] at h1
    exact h1
theorem NtOk.up {B C : Int} {n : Nt} (h : NtOk B n) (hc : B ≤ C) : NtOk C n := ⟨⟨h.1.1, Int.le_trans h.1.2 hc⟩, h.2.1, Int.le_trans h.2.2 hc⟩
theorem fm_step (f : Nt → Option Nt) (l : List Nt) (k : Nat) (h : k < l.length) : (l.take (k + 1)).filterMap f = (l.take k).filterMap f ++ (match f (l.getD k nt0) with | none => [] | some m => [m]) := by
  rw [List.take_add_one, List.getD_eq_getElem?_getD, List.getElem?_eq_getElem h, Option.getD_some, Option.toList_some, List.filterMap_append]
  congr 1
  rw [List.filterMap_cons]
  cases f l[k] <;> rfl
theorem rdNt_of_own {W : World} {base : Nat} {A : Option Addr} {p c : Nat} {L : List Nt} (h : W.ownsRow base 63 3 (.slice A p c) p (c3 fN1 fN2 fN3 L)) (hl : L.length = p) : RdNt W A p L := by
  rcases h.2 with ⟨e, h0'⟩ | ⟨g, cap, cur, e, _⟩
  · injection e with e1 e2 e3
    subst e1 e2
    exact ⟨hl, fun h => absurd h (by omega)⟩
  · injection e with e1 e2 e3
    subst e1
    exact rdNt_iff.2 (rd3_of_own h hl)

end Go.Proofs.Ytccoflhoggpgoaa

