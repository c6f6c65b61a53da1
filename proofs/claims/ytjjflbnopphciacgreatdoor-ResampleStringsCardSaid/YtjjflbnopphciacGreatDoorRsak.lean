import Derived.Test.YtjjflbnopphciacGreatDoorRsaj
import Derived.Test.YtjjflbnopphciacGreatDoorRsai
import Derived.Test.YtjjflbnopphciacGreatDoorRsah

namespace Go.Proofs.YtjjflbnopphciacGreatDoor
open Go.RowKit

/-- Rules that are copied. -/
def CpRul (w : World) (k d n q s : Int) (m : Nat) (ns : List (Int × Int)) (e : Ending) (w' : World) : Prop :=
  (∃ g c, e = .returned (.agg #[.int .i64 k, .int .i64 d, .int .i64 n, .int .i64 q, .int .i64 s, .slice (some ⟨g, 0, none⟩) m c]) ∧ RdN w' (some ⟨g, 0, none⟩) m ns ∧ m ≤ c) ∧ Below w.heap.size w w'
theorem bk6' {W : World} {g : Nat} {t : TypeId} {a b c d e f : Value} (h : Bk W g t #[a, b, c, d, e, f]) : (W.cell? ⟨g, 0, none⟩ = some a ∧ W.cell? ⟨g, 1, none⟩ = some b ∧ W.cell? ⟨g, 2, none⟩ = some c ∧ W.cell? ⟨g, 3, none⟩ = some d ∧ W.cell? ⟨g, 4, none⟩ = some e ∧ W.cell? ⟨g, 5, none⟩ = some f) ∧ W.frozen? ⟨g, 0, none⟩ = false ∧ W.frozen? ⟨g, 1, none⟩ = false ∧ W.frozen? ⟨g, 2, none⟩ = false ∧ W.frozen? ⟨g, 3, none⟩ = false ∧ W.frozen? ⟨g, 4, none⟩ = false ∧ W.frozen? ⟨g, 5, none⟩ = false :=
  ⟨⟨by rw [h.cell]; rfl, by rw [h.cell]; rfl, by rw [h.cell]; rfl, by rw [h.cell]; rfl, by rw [h.cell]; rfl, by rw [h.cell]; rfl⟩, h.frozen 0, h.frozen 1, h.frozen 2, h.frozen 3, h.frozen 4, h.frozen 5⟩
set_option maxRecDepth 100000 in
set_option maxHeartbeats 4000000 in
theorem copyRules_any (k d n q s : Int) (A : Option Addr) (m c : Nat) (ns : List (Int × Int)) (w : World) (hA : A = none → m = 0 ∧ c = 0) (hr : RdP w A m ns) (hm : m ≤ 1000000) :
    Calls Tryz.prog 8 #[.agg #[.int .i64 k, .int .i64 d, .int .i64 n, .int .i64 q, .int .i64 s, .slice A m c]] w (CpRul w k d n q s m ns) := by
  have B0 : Below w.heap.size w ((w.alloc (.cells #[.int .i64 k, .int .i64 d, .int .i64 n, .int .i64 q, .int .i64 s, .slice A m c] 26)).alloc (.cells #[.int .i64 0, .int .i64 0, .int .i64 0, .int .i64 0, .int .i64 0, .slice none 0 0] 26)) := below2 _ _ _
  have K0 : Bk ((w.alloc (.cells #[.int .i64 k, .int .i64 d, .int .i64 n, .int .i64 q, .int .i64 s, .slice A m c] 26)).alloc (.cells #[.int .i64 0, .int .i64 0, .int .i64 0, .int .i64 0, .int .i64 0, .slice none 0 0] 26)) w.heap.size 26 #[.int .i64 k, .int .i64 d, .int .i64 n, .int .i64 q, .int .i64 s, .slice A m c] := (Bk.new _ _ _).alloc _
  have R0 : Bk ((w.alloc (.cells #[.int .i64 k, .int .i64 d, .int .i64 n, .int .i64 q, .int .i64 s, .slice A m c] 26)).alloc (.cells #[.int .i64 0, .int .i64 0, .int .i64 0, .int .i64 0, .int .i64 0, .slice none 0 0] 26)) (w.heap.size + 1) 26 #[.int .i64 0, .int .i64 0, .int .i64 0, .int .i64 0, .int .i64 0, .slice none 0 0] := by simpa using Bk.new (w.alloc (.cells #[.int .i64 k, .int .i64 d, .int .i64 n, .int .i64 q, .int .i64 s, .slice A m c] 26)) 26 #[.int .i64 0, .int .i64 0, .int .i64 0, .int .i64 0, .int .i64 0, .slice none 0 0]
  have CC := Lib.hid (copyMap_any A m c ns ((w.alloc (.cells #[.int .i64 k, .int .i64 d, .int .i64 n, .int .i64 q, .int .i64 s, .slice A m c] 26)).alloc (.cells #[.int .i64 0, .int .i64 0, .int .i64 0, .int .i64 0, .int .i64 0, .slice none 0 0] 26)) hA (hr.below B0) hm)
  have c5 := (bk6 K0).2.2.2.2.2
  have HK := Lib.hid K0
  have HR := Lib.hid R0
  have HB := Lib.hid B0
  clear hA hr K0 R0 B0
  go_enter Tryz.func8, Tryz.ntmps8
  go_wp2_with fail
  refine CC.out.mono ?_
  rintro e w1 ⟨⟨g, c', rfl, hrd, hc', hgs⟩, hb⟩
  have hg2 : w.heap.size + 1 < g := by simp at hgs; omega
  have K1 := HK.out.later hb
  have R1 := HR.out.later hb
  have B1 := HB.out.trans (hb.mono HB.out.size)
  have hK1 := HK.out
  have hgb : ∀ m0, 0 < m → g ≠ m0 ∨ True := fun _ _ => .inr trivial
  obtain ⟨⟨d0, d1, d2, d3, d4, d5⟩, f0, f1, f2, f3, f4, f5⟩ := bk6' K1
  obtain ⟨⟨e0, e1, e2, e3, e4, e5⟩, h0, h1, h2, h3, h4, h5⟩ := bk6' R1
  have HD := Lib.hid hrd
  clear hgs hb c5 hgb hrd hK1 K1 R1
  go_wp2
  refine bodyPost_ret (v := .agg #[.int .i64 k, .int .i64 d, .int .i64 n, .int .i64 q, .int .i64 s, .slice (some ⟨g, 0, none⟩) m c']) (by simp [results, Tryz.results8, go_sem, e0, e1, e2, e3, e4, e5, h0, h1, h2, h3, h4, h5]) rfl ⟨⟨_, _, rfl, ?_, hc'⟩, ?_⟩
  · exact rdN_far (rdN_far (rdN_far (rdN_far (rdN_far (rdN_far (rdN_far HD.out _ (by simp; omega) _) _ (by simp; omega) _) _ (by simp; omega) _) _ (by simp; omega) _) _ (by simp; omega) _) _ (by simp; omega) _) _ (by simp; omega) _
  · go_grown
set_option maxRecDepth 100000 in
set_option maxHeartbeats 4000000 in
theorem PositionsOf_err (k d n q s : Int) (A : Option Addr) (m c : Nat) (cnt : Int) (E1 F : Int) (w : World) (hF : firstNZ [E1, rngE 0 400 [cnt]] = F) (hne : ¬ F = 0)
    (hcr : ∀ W, Below w.heap.size w W → Calls Tryz.prog 34 #[.agg #[.int .i64 k, .int .i64 d, .int .i64 n, .int .i64 q, .int .i64 s, .slice A m c]] W fun e w' => e = .returned (.int .i64 E1) ∧ Below W.heap.size W w') :
    Calls Tryz.prog 52 #[.agg #[.int .i64 k, .int .i64 d, .int .i64 n, .int .i64 q, .int .i64 s, .slice A m c], .int .i64 cnt] w (OwnRes w F []) := by
  have HCR := Lib.hid hcr
  have C3 := Lib.hid (fun x y w h1 h2 => from1_any cnt 0 400 x y w h1 h2)
  obtain ⟨E2, hE2⟩ : ∃ E, rngE 0 400 [cnt] = E := ⟨_, rfl⟩
  rw [hE2] at C3 hF
  have HF := Lib.hid hF
  have hFT := neT hne
  clear hcr hF hE2 hne
  go_enter Tryz.func52, Tryz.ntmps52
  go_wp2_with fail
  refine (HCR.out _ (by go_grown)).mono ?_
  rintro e w1 ⟨rfl, hb1⟩
  have R0 := Lib.hid (OneB.later hb1 (((OneB.start w 26 #[.int .i64 k, .int .i64 d, .int .i64 n, .int .i64 q, .int .i64 s, .slice A m c]).alloc (.cells #[.slice none 0 0] 27)).alloc (.cells #[.int .i64 0] 37)))
  have K4 : Hid (Bk w1 (w.heap.size + 1) 27 #[.slice none 0 0]) := Bk.later (by have h := (Bk.new (w.alloc (.cells #[.int .i64 k, .int .i64 d, .int .i64 n, .int .i64 q, .int .i64 s, .slice A m c] 26)) 27 #[.slice none 0 0]).alloc (.cells #[.int .i64 0] 37); simpa using h) hb1
  have K5 : Hid (Bk w1 (w.heap.size + 2) 37 #[.int .i64 0]) := Bk.later (by have h := Bk.new ((w.alloc (.cells #[.int .i64 k, .int .i64 d, .int .i64 n, .int .i64 q, .int .i64 s, .slice A m c] 26)).alloc (.cells #[.slice none 0 0] 27)) 37 #[.int .i64 0]; simpa using h) hb1
  clear hb1
  obtain ⟨c0, c1, c2, c3, c4, c5⟩ := R0.out.six
  go_wp2_with (first
    | (go_at_call 49; refine (from_any _ _ _).mono ?_; rintro e w' ⟨rfl, rfl⟩)
    | (go_at_call 81; refine (C3.out _ _ _ ?_ ?_).mono ?_; (focus (simp [go_sem])); (focus (simp [go_sem])); rintro e w' ⟨rfl, rfl⟩))
  refine (firstError2 HF.out _ _ ?_ ?_).mono ?_
  · simp [go_sem]
  · simp [go_sem]
  rintro e w' ⟨rfl, rfl⟩
  have R3 := Lib.hid (((R0.out.alloc (.cells #[.int .i64 0] 3)).alloc (.cells #[.int .i64 400] 3)).alloc (.cells #[.int .i64 E1, .int .i64 E2] 37))
  have K43 := Lib.hid (((K4.out.alloc (.cells #[.int .i64 0] 3)).alloc (.cells #[.int .i64 400] 3)).alloc (.cells #[.int .i64 E1, .int .i64 E2] 37))
  have K53 := Lib.hid (((K5.out.alloc (.cells #[.int .i64 0] 3)).alloc (.cells #[.int .i64 400] 3)).alloc (.cells #[.int .i64 E1, .int .i64 E2] 37))
  obtain ⟨W3, hW3⟩ : ∃ W3, (((w1.alloc (.cells #[.int .i64 0] 3)).alloc (.cells #[.int .i64 400] 3)).alloc (.cells #[.int .i64 E1, .int .i64 E2] 37)) = W3 := ⟨_, rfl⟩
  rw [hW3] at R3 K43 K53 ⊢
  clear hW3 R0 K4 K5 c0 c1 c2 c3 c4 c5
  obtain ⟨k4, f4⟩ := bk1 K43.out
  obtain ⟨k5, f5⟩ := bk1 K53.out
  have B3 := R3.out.b
  go_wp2
  refine bodyPost_ret (v := .tuple #[.slice none 0 0, .int .i64 F]) (by simp [results, Tryz.results52, go_sem, k4, f4, k5, f5]) rfl ⟨⟨_, rfl, World.ownsRow_nil _ _ _ _⟩, ?_⟩
  go_grown

end Go.Proofs.YtjjflbnopphciacGreatDoor

namespace Go.Proofs.YtjjflbnopphciacGreatDoor
open Go.RowKit

structure Rul where
  (k d nu q s : Int)
  ns : List (Int × Int)
def rul0 : Rul := ⟨0, 0, 0, 0, 0, []⟩
def RulRes (w : World) (r : Rul × Int) (e : Ending) (w' : World) : Prop :=
  (∃ A c, e = .returned (.tuple #[.agg #[.int .i64 r.1.k, .int .i64 r.1.d, .int .i64 r.1.nu, .int .i64 r.1.q, .int .i64 r.1.s, .slice A r.1.ns.length c], .int .i64 r.2]) ∧ RdN w' A r.1.ns.length r.1.ns ∧ (A = none → r.1.ns.length = 0 ∧ c = 0) ∧ (∀ a, A = some a → w.heap.size ≤ a.block)) ∧ Below w.heap.size w w'
theorem rulNil {w w' : World} {r : Rul × Int} {k d nu q s E : Int} (hb : Below w.heap.size w w') (h : r = (⟨k, d, nu, q, s, []⟩, E)) : RulRes w r (.returned (.tuple #[.agg #[.int .i64 k, .int .i64 d, .int .i64 nu, .int .i64 q, .int .i64 s, .slice none 0 0], .int .i64 E])) w' := by
  subst h
  exact ⟨⟨none, 0, rfl, ⟨rfl, fun h => absurd h (by simp)⟩, (fun _ => ⟨rfl, rfl⟩), fun a e => (by cases e)⟩, hb⟩
theorem rulOk {w w' : World} {r : Rul × Int} {k d nu q s E : Int} {A : Option Addr} {m c : Nat} {ns : List (Int × Int)} (hb : Below w.heap.size w w') (h : r = (⟨k, d, nu, q, s, ns⟩, E)) (hl : ns.length = m) (hr : RdN w' A m ns) (hA : A = none → m = 0 ∧ c = 0) (hF : ∀ a, A = some a → w.heap.size ≤ a.block) : RulRes w r (.returned (.tuple #[.agg #[.int .i64 k, .int .i64 d, .int .i64 nu, .int .i64 q, .int .i64 s, .slice A m c], .int .i64 E])) w' := by
  subst h; subst hl
  exact ⟨⟨A, c, rfl, hr, hA, hF⟩, hb⟩
theorem below6 {n b : Nat} {w W : World} (h : Below n w W) (hb : n ≤ b) (v0 v1 v2 v3 v4 v5 : Value) : Below n w ((((((W.setCell ⟨b, 0, none⟩ v0).setCell ⟨b, 1, none⟩ v1).setCell ⟨b, 2, none⟩ v2).setCell ⟨b, 3, none⟩ v3).setCell ⟨b, 4, none⟩ v4).setCell ⟨b, 5, none⟩ v5) :=
  (((((h.setCell hb _).setCell hb _).setCell hb _).setCell hb _).setCell hb _).setCell hb _
def ratioV : Bool → Option Int → Option Int → Option Int → Rul × Int
  | true, some d, some n, some q => (⟨0, d, n, q, 0, []⟩, 0)
  | _, _, _, _ => (rul0, 7)
def mapV (r : List (Int × Int) × Int) : Bool → Option Int → Option Int → Rul × Int
  | true, some d, some s => (⟨1, d, 0, 0, s, r.1⟩, r.2)
  | _, _, _ => (rul0, 7)
/-- Two words and the rest, or nothing. -/
def Parts (ps : List (List UInt8)) (X Y Z : ByteArray) (ok : Bool) : Prop :=
  (ok = true ∧ p3 ps = [X.data.toList, Y.data.toList, Z.data.toList]) ∨ (ok = false ∧ X = (⟨#[]⟩ : ByteArray) ∧ Y = (⟨#[]⟩ : ByteArray) ∧ Z = (⟨#[]⟩ : ByteArray) ∧ ps.length ≤ 2)
theorem p3_cases (ps : List (List UInt8)) : (∃ a b c m, ps = a :: b :: c :: m) ∨ ps.length ≤ 2 := by
  match ps with
  | [] => exact .inr (by simp)
  | [_] => exact .inr (by simp)
  | [_, _] => exact .inr (by simp)
  | a :: b :: c :: m => exact .inl ⟨a, b, c, m, rfl⟩

set_option maxRecDepth 100000 in
set_option maxHeartbeats 4000000 in
theorem partsOf_no (s : ByteArray) (w : World) (hl : LaidG w) (hs : s.size ≤ 1000000) (n : Nat) (hn : (p3 (pcs 32 s.data.toList)).length = n) (h3 : n ≠ 3) :
    Calls Tryz.prog 90 #[.string s] w fun e w' => e = .returned (.tuple #[.agg #[.string ⟨#[]⟩, .string ⟨#[]⟩, .string ⟨#[]⟩], .bool false]) ∧ Below w.heap.size w w' := by
  obtain ⟨w1, hw1⟩ : ∃ W, w.alloc (.cells #[.string ⟨#[]⟩, .string ⟨#[]⟩, .string ⟨#[]⟩] 130) = W := ⟨_, rfl⟩
  have HB1 : Hid (Below w.heap.size w w1) := by show Below _ _ _; rw [← hw1]; exact (Below.refl _ _).alloc (Nat.le_refl _) _
  have K1 : Hid (Bk w1 w.heap.size 130 #[.string ⟨#[]⟩, .string ⟨#[]⟩, .string ⟨#[]⟩]) := by show Bk _ _ _ _; rw [← hw1]; exact Bk.new _ _ _
  have C := splitN_form s w1 (hl.later HB1.out) hs
  rw [hn] at C
  have CC := Lib.hid C
  have HW1 := Lib.hid hw1
  have h3I : ((n : Int) != 3) = true := by rw [bne_iff_ne]; omega
  clear C hl hw1 hn h3
  go_enter Tryz.func90, Tryz.ntmps90
  go_upto_region 1 with fail
  rw [show w.alloc (.cells #[.string ⟨#[]⟩, .string ⟨#[]⟩, .string ⟨#[]⟩] 130) = w1 from HW1.out]
  go_wp2_with fail
  refine CC.out.mono ?_
  rintro e w2 ⟨⟨cp, rfl, _⟩, _, hb⟩
  have K2 := K1.out.later hb
  have r0 : w2.cell? ⟨w.heap.size, 0, none⟩ = some (.string ⟨#[]⟩) := by rw [K2.cell]; rfl
  have r1 : w2.cell? ⟨w.heap.size, 1, none⟩ = some (.string ⟨#[]⟩) := by rw [K2.cell]; rfl
  have r2 : w2.cell? ⟨w.heap.size, 2, none⟩ = some (.string ⟨#[]⟩) := by rw [K2.cell]; rfl
  have f0 : w2.frozen? ⟨w.heap.size, 0, none⟩ = false := K2.frozen 0
  have f1 : w2.frozen? ⟨w.heap.size, 1, none⟩ = false := K2.frozen 1
  have f2 : w2.frozen? ⟨w.heap.size, 2, none⟩ = false := K2.frozen 2
  have HB2 : Hid (Below w.heap.size w w2) := HB1.out.trans (hb.mono HB1.out.size)
  clear hb K2 CC
  go_wp2
  refine bodyPost_ret (v := .tuple #[.agg #[.string ⟨#[]⟩, .string ⟨#[]⟩, .string ⟨#[]⟩], .bool false]) (by simp [results, Tryz.results90, go_sem, r0, r1, r2, f0, f1, f2]) rfl ?_
  refine ⟨rfl, ?_⟩
  exact ((HB2.out.setCell (Nat.le_refl _) _).setCell (Nat.le_refl _) _).setCell (Nat.le_refl _) _

theorem partsOf_any (s : ByteArray) (hs : s.size ≤ 1000000) : ∃ X Y Z ok, Parts (pcs 32 s.data.toList) X Y Z ok ∧ X.size ≤ s.size ∧ Y.size ≤ s.size ∧ Z.size ≤ s.size ∧
    ∀ w, LaidG w → Calls Tryz.prog 90 #[.string s] w fun e w' => e = .returned (.tuple #[.agg #[.string X, .string Y, .string Z], .bool ok]) ∧ Below w.heap.size w w' := by
  rcases p3_cases (pcs 32 s.data.toList) with ⟨a, b, c, m, hp⟩ | hp
  · have hz : s.data.toList.length = s.size := by simp
    have hj := join_pcs 32 s.data.toList
    rw [hp] at hj
    have hj2 : Lib.join (a :: b :: c :: m) [32] = a ++ 32 :: (b ++ 32 :: Lib.join (c :: m) [32]) := by simp [Lib.join_cons, Lib.joinTail]
    rw [hj2] at hj
    have hlen := congrArg List.length hj
    simp only [List.length_append, List.length_cons, hz] at hlen
    refine ⟨⟨a.toArray⟩, ⟨b.toArray⟩, ⟨(Lib.join (c :: m) [32]).toArray⟩, true, .inl ⟨rfl, by rw [hp]; rfl⟩, ?_, ?_, ?_, fun w hl => partsOf_ok s w hl hs a b c m hp _ _ _ rfl rfl rfl⟩
    · rw [bytes_size]; omega
    · rw [bytes_size]; omega
    · rw [bytes_size]; omega
  · refine ⟨⟨#[]⟩, ⟨#[]⟩, ⟨#[]⟩, false, .inr ⟨rfl, rfl, rfl, rfl, hp⟩, Nat.zero_le _, Nat.zero_le _, Nat.zero_le _, fun w hl => partsOf_no s w hl hs _ rfl ?_⟩
    rw [p3_small hp]; omega

end Go.Proofs.YtjjflbnopphciacGreatDoor

namespace Go.Proofs.YtjjflbnopphciacGreatDoor
open Go.RowKit

set_option maxRecDepth 100000 in
set_option maxHeartbeats 8000000 in
theorem ratioIn_any (s : ByteArray) (w : World) (hl : LaidG w) (X Y Z : ByteArray) (ok : Bool) (hX : X.size ≤ 1000000) (hY : Y.size ≤ 1000000) (hZ : Z.size ≤ 1000000)
    (hC : ∀ w, LaidG w → Calls Tryz.prog 90 #[.string s] w fun e w' => e = .returned (.tuple #[.agg #[.string X, .string Y, .string Z], .bool ok]) ∧ Below w.heap.size w w') :
    Calls Tryz.prog 63 #[.string s] w (RulRes w (ratioV ok (numU X.data.toList 4) (numU Y.data.toList 4) (numU Z.data.toList 4))) := by
  obtain ⟨w1, hw1⟩ : ∃ W, w.alloc (.cells #[.int .i64 0, .int .i64 0, .int .i64 0, .int .i64 0, .int .i64 0, .slice none 0 0] 26) = W := ⟨_, rfl⟩
  have HB1 : Hid (Below w.heap.size w w1) := by show Below _ _ _; rw [← hw1]; exact (Below.refl _ _).alloc (Nat.le_refl _) _
  have K1 : Hid (Bk w1 w.heap.size 26 #[.int .i64 0, .int .i64 0, .int .i64 0, .int .i64 0, .int .i64 0, .slice none 0 0]) := by show Bk _ _ _ _; rw [← hw1]; exact Bk.new _ _ _
  have HLX : Hid (∀ W, Below w.heap.size w W → LaidG W) := fun W hW => hl.later hW
  have CP := Lib.hid (hC w1 (hl.later HB1.out))
  have HW1 := Lib.hid hw1
  obtain ⟨o1, ho1⟩ : ∃ o, numU X.data.toList 4 = o := ⟨_, rfl⟩
  have CX : Hid (∀ W, LaidG W → _) := Lib.hid fun W h => numberR_any X 4 W h (by omega) (by omega) (by omega)
  rw [ho1] at CX ⊢
  clear ho1
  obtain ⟨o2, ho2⟩ : ∃ o, numU Y.data.toList 4 = o := ⟨_, rfl⟩
  have CY : Hid (∀ W, LaidG W → _) := Lib.hid fun W h => numberR_any Y 4 W h (by omega) (by omega) (by omega)
  rw [ho2] at CY ⊢
  clear ho2
  obtain ⟨o3, ho3⟩ : ∃ o, numU Z.data.toList 4 = o := ⟨_, rfl⟩
  have CZ : Hid (∀ W, LaidG W → _) := Lib.hid fun W h => numberR_any Z 4 W h (by omega) (by omega) (by omega)
  rw [ho3] at CZ ⊢
  clear ho3
  clear hl hw1 hC
  go_enter Tryz.func63, Tryz.ntmps63
  go_upto_region 1 with fail
  rw [show w.alloc (.cells #[.int .i64 0, .int .i64 0, .int .i64 0, .int .i64 0, .int .i64 0, .slice none 0 0] 26) = w1 from HW1.out]
  go_wp2_with fail
  refine CP.out.mono ?_
  rintro e w2 ⟨rfl, hb⟩
  obtain ⟨w3, hw3⟩ : ∃ W, w2.alloc (.cells #[.string X, .string Y, .string Z] 130) = W := ⟨_, rfl⟩
  have B2 := HB1.out.trans (hb.mono HB1.out.size)
  have HB3 : Hid (Below w.heap.size w w3) := by show Below _ _ _; rw [← hw3]; exact B2.alloc B2.size _
  have KW : Hid (Bk w3 w2.heap.size 130 #[.string X, .string Y, .string Z]) := by show Bk _ _ _ _; rw [← hw3]; exact Bk.new _ _ _
  have K3 : Hid (Bk w3 w.heap.size 26 #[.int .i64 0, .int .i64 0, .int .i64 0, .int .i64 0, .int .i64 0, .slice none 0 0]) := by show Bk _ _ _ _; rw [← hw3]; exact (K1.out.later hb).alloc _
  have HW3 := Lib.hid hw3
  clear hb B2 hw3 CP
  go_upto_region 2 with fail
  rw [show w2.alloc (.cells #[.string X, .string Y, .string Z] 130) = w3 from HW3.out]
  have k0 : w3.cell? ⟨w2.heap.size, 0, none⟩ = some (.string X) := by rw [KW.out.cell]; rfl
  go_wp2_with fail
  refine (CX.out _ (HLX.out _ HB3.out)).mono ?_
  rintro e w4 ⟨⟨v1, rfl, hv1, _, _⟩, hb⟩
  have HB4 : Hid (Below w.heap.size w w4) := HB3.out.trans (hb.mono HB3.out.size)
  have KW4 : Hid (Bk w4 w2.heap.size 130 #[.string X, .string Y, .string Z]) := KW.out.later hb
  have K4 : Hid (Bk w4 w.heap.size 26 #[.int .i64 0, .int .i64 0, .int .i64 0, .int .i64 0, .int .i64 0, .slice none 0 0]) := K3.out.later hb
  have Hv1 := Lib.hid hv1
  clear hb hv1 k0
  have k1 : w4.cell? ⟨w2.heap.size, 1, none⟩ = some (.string Y) := by rw [KW4.out.cell]; rfl
  go_wp2_with fail
  refine (CY.out _ (HLX.out _ HB4.out)).mono ?_
  rintro e w5 ⟨⟨v2, rfl, hv2, _, _⟩, hb⟩
  have HB5 : Hid (Below w.heap.size w w5) := HB4.out.trans (hb.mono HB4.out.size)
  have KW5 : Hid (Bk w5 w2.heap.size 130 #[.string X, .string Y, .string Z]) := KW4.out.later hb
  have K5 : Hid (Bk w5 w.heap.size 26 #[.int .i64 0, .int .i64 0, .int .i64 0, .int .i64 0, .int .i64 0, .slice none 0 0]) := K4.out.later hb
  have Hv2 := Lib.hid hv2
  clear hb hv2 k1
  have k2 : w5.cell? ⟨w2.heap.size, 2, none⟩ = some (.string Z) := by rw [KW5.out.cell]; rfl
  go_wp2_with fail
  refine (CZ.out _ (HLX.out _ HB5.out)).mono ?_
  rintro e w6 ⟨⟨v3, rfl, hv3, _, _⟩, hb⟩
  have HB6 : Hid (Below w.heap.size w w6) := HB5.out.trans (hb.mono HB5.out.size)
  have KW6 : Hid (Bk w6 w2.heap.size 130 #[.string X, .string Y, .string Z]) := KW5.out.later hb
  have K6 : Hid (Bk w6 w.heap.size 26 #[.int .i64 0, .int .i64 0, .int .i64 0, .int .i64 0, .int .i64 0, .slice none 0 0]) := K5.out.later hb
  have Hv3 := Lib.hid hv3
  clear hb hv3 k2
  obtain ⟨⟨e0, e1, e2, e3, e4, e5⟩, h0, h1, h2, h3, h4, h5⟩ := bk6' K6.out
  cases ok with
  | false =>
    go_wp2
    refine bodyPost_ret (v := .tuple #[.agg #[.int .i64 0, .int .i64 0, .int .i64 0, .int .i64 0, .int .i64 0, .slice none 0 0], .int .i64 7]) (by simp [results, Tryz.results63, go_sem, e0, e1, e2, e3, e4, e5, h0, h1, h2, h3, h4, h5]) rfl ?_
    exact rulNil (below6 HB6.out (Nat.le_refl _) _ _ _ _ _ _) (by cases o1 <;> cases o2 <;> cases o3 <;> rfl)
  | true =>
    cases o1 with
    | none =>
      go_wp2
      refine bodyPost_ret (v := .tuple #[.agg #[.int .i64 0, .int .i64 0, .int .i64 0, .int .i64 0, .int .i64 0, .slice none 0 0], .int .i64 7]) (by simp [results, Tryz.results63, go_sem, e0, e1, e2, e3, e4, e5, h0, h1, h2, h3, h4, h5]) rfl ?_
      exact rulNil (below6 HB6.out (Nat.le_refl _) _ _ _ _ _ _) (by cases o2 <;> cases o3 <;> rfl)
    | some x1 =>
      cases o2 with
      | none =>
        go_wp2
        refine bodyPost_ret (v := .tuple #[.agg #[.int .i64 0, .int .i64 0, .int .i64 0, .int .i64 0, .int .i64 0, .slice none 0 0], .int .i64 7]) (by simp [results, Tryz.results63, go_sem, e0, e1, e2, e3, e4, e5, h0, h1, h2, h3, h4, h5]) rfl ?_
        exact rulNil (below6 HB6.out (Nat.le_refl _) _ _ _ _ _ _) (by cases o3 <;> rfl)
      | some x2 =>
        cases o3 with
        | none =>
          go_wp2
          refine bodyPost_ret (v := .tuple #[.agg #[.int .i64 0, .int .i64 0, .int .i64 0, .int .i64 0, .int .i64 0, .slice none 0 0], .int .i64 7]) (by simp [results, Tryz.results63, go_sem, e0, e1, e2, e3, e4, e5, h0, h1, h2, h3, h4, h5]) rfl ?_
          exact rulNil (below6 HB6.out (Nat.le_refl _) _ _ _ _ _ _) (by rfl)
        | some x3 =>
          have g1 : v1 = x1 := Hv1.out rfl
          have g2 : v2 = x2 := Hv2.out rfl
          have g3 : v3 = x3 := Hv3.out rfl
          subst g1; subst g2; subst g3
          go_wp2
          refine bodyPost_ret (v := .tuple #[.agg #[.int .i64 0, .int .i64 v1, .int .i64 v2, .int .i64 v3, .int .i64 0, .slice none 0 0], .int .i64 0]) (by simp [results, Tryz.results63, go_sem, e0, e1, e2, e3, e4, e5, h0, h1, h2, h3, h4, h5]) rfl ?_
          exact rulNil (below6 HB6.out (Nat.le_refl _) _ _ _ _ _ _) (rfl)
end Go.Proofs.YtjjflbnopphciacGreatDoor

namespace Go.Proofs.YtjjflbnopphciacGreatDoor
open Go.RowKit

theorem rdn6 {w : World} {A : Option Addr} {n b : Nat} {xs : List (Int × Int)} (h : RdN w A n xs) (hb : ∀ a, A = some a → a.block ≠ b) (v0 v1 v2 v3 v4 v5 : Value) : RdN ((((((w.setCell ⟨b, 0, none⟩ v0).setCell ⟨b, 1, none⟩ v1).setCell ⟨b, 2, none⟩ v2).setCell ⟨b, 3, none⟩ v3).setCell ⟨b, 4, none⟩ v4).setCell ⟨b, 5, none⟩ v5) A n xs :=
  rdnFar (rdnFar (rdnFar (rdnFar (rdnFar (rdnFar h _ _ fun a e _ => hb a e) _ _ fun a e _ => hb a e) _ _ fun a e _ => hb a e) _ _ fun a e _ => hb a e) _ _ fun a e _ => hb a e) _ _ fun a e _ => hb a e

set_option maxRecDepth 100000 in
set_option maxHeartbeats 8000000 in
theorem rmapIn_any (s : ByteArray) (w : World) (hl : LaidG w) (X Y Z : ByteArray) (ok : Bool) (hX : X.size ≤ 1000000) (hY : Y.size ≤ 1000000) (hZ : Z.size ≤ 1000000)
    (hC : ∀ w, LaidG w → Calls Tryz.prog 90 #[.string s] w fun e w' => e = .returned (.tuple #[.agg #[.string X, .string Y, .string Z], .bool ok]) ∧ Below w.heap.size w w') :
    Calls Tryz.prog 64 #[.string s] w (RulRes w (mapV (mapS Z) ok (numU X.data.toList 4) (numU Y.data.toList 13))) := by
  obtain ⟨w1, hw1⟩ : ∃ W, w.alloc (.cells #[.int .i64 0, .int .i64 0, .int .i64 0, .int .i64 0, .int .i64 0, .slice none 0 0] 26) = W := ⟨_, rfl⟩
  have HB1 : Hid (Below w.heap.size w w1) := by show Below _ _ _; rw [← hw1]; exact (Below.refl _ _).alloc (Nat.le_refl _) _
  have K1 : Hid (Bk w1 w.heap.size 26 #[.int .i64 0, .int .i64 0, .int .i64 0, .int .i64 0, .int .i64 0, .slice none 0 0]) := by show Bk _ _ _ _; rw [← hw1]; exact Bk.new _ _ _
  have HLX : Hid (∀ W, Below w.heap.size w W → LaidG W) := fun W hW => hl.later hW
  have CP := Lib.hid (hC w1 (hl.later HB1.out))
  have HW1 := Lib.hid hw1
  obtain ⟨o1, ho1⟩ : ∃ o, numU X.data.toList 4 = o := ⟨_, rfl⟩
  have CX : Hid (∀ W, LaidG W → _) := Lib.hid fun W h => numberR_any X 4 W h (by omega) (by omega) (by omega)
  rw [ho1] at CX ⊢
  clear ho1
  obtain ⟨o2, ho2⟩ : ∃ o, numU Y.data.toList 13 = o := ⟨_, rfl⟩
  have CY : Hid (∀ W, LaidG W → _) := Lib.hid fun W h => numberR_any Y 13 W h (by omega) (by omega) (by omega)
  rw [ho2] at CY ⊢
  clear ho2
  have CM : Hid (∀ W, LaidG W → _) := Lib.hid fun W h => parseMap_any Z W h (by omega)
  obtain ⟨⟨ns, E⟩, hr⟩ : ∃ r, mapS Z = r := ⟨_, rfl⟩
  rw [hr] at CM ⊢
  clear hr
  clear hl hw1 hC
  go_enter Tryz.func64, Tryz.ntmps64
  go_upto_region 1 with fail
  rw [show w.alloc (.cells #[.int .i64 0, .int .i64 0, .int .i64 0, .int .i64 0, .int .i64 0, .slice none 0 0] 26) = w1 from HW1.out]
  go_wp2_with fail
  refine CP.out.mono ?_
  rintro e w2 ⟨rfl, hb⟩
  obtain ⟨w3, hw3⟩ : ∃ W, w2.alloc (.cells #[.string X, .string Y, .string Z] 130) = W := ⟨_, rfl⟩
  have B2 := HB1.out.trans (hb.mono HB1.out.size)
  have HB3 : Hid (Below w.heap.size w w3) := by show Below _ _ _; rw [← hw3]; exact B2.alloc B2.size _
  have KW : Hid (Bk w3 w2.heap.size 130 #[.string X, .string Y, .string Z]) := by show Bk _ _ _ _; rw [← hw3]; exact Bk.new _ _ _
  have K3 : Hid (Bk w3 w.heap.size 26 #[.int .i64 0, .int .i64 0, .int .i64 0, .int .i64 0, .int .i64 0, .slice none 0 0]) := by show Bk _ _ _ _; rw [← hw3]; exact (K1.out.later hb).alloc _
  have HW3 := Lib.hid hw3
  clear hb B2 hw3 CP
  go_upto_region 2 with fail
  rw [show w2.alloc (.cells #[.string X, .string Y, .string Z] 130) = w3 from HW3.out]
  have k0 : w3.cell? ⟨w2.heap.size, 0, none⟩ = some (.string X) := by rw [KW.out.cell]; rfl
  go_wp2_with fail
  refine (CX.out _ (HLX.out _ HB3.out)).mono ?_
  rintro e w4 ⟨⟨v1, rfl, hv1, _, _⟩, hb⟩
  have HB4 : Hid (Below w.heap.size w w4) := HB3.out.trans (hb.mono HB3.out.size)
  have KW4 : Hid (Bk w4 w2.heap.size 130 #[.string X, .string Y, .string Z]) := KW.out.later hb
  have K4 : Hid (Bk w4 w.heap.size 26 #[.int .i64 0, .int .i64 0, .int .i64 0, .int .i64 0, .int .i64 0, .slice none 0 0]) := K3.out.later hb
  have Hv1 := Lib.hid hv1
  clear hb hv1 k0
  have k1 : w4.cell? ⟨w2.heap.size, 1, none⟩ = some (.string Y) := by rw [KW4.out.cell]; rfl
  go_wp2_with fail
  refine (CY.out _ (HLX.out _ HB4.out)).mono ?_
  rintro e w5 ⟨⟨v2, rfl, hv2, _, _⟩, hb⟩
  have HB5 : Hid (Below w.heap.size w w5) := HB4.out.trans (hb.mono HB4.out.size)
  have KW5 : Hid (Bk w5 w2.heap.size 130 #[.string X, .string Y, .string Z]) := KW4.out.later hb
  have K5 : Hid (Bk w5 w.heap.size 26 #[.int .i64 0, .int .i64 0, .int .i64 0, .int .i64 0, .int .i64 0, .slice none 0 0]) := K4.out.later hb
  have Hv2 := Lib.hid hv2
  clear hb hv2 k1
  have k2 : w5.cell? ⟨w2.heap.size, 2, none⟩ = some (.string Z) := by rw [KW5.out.cell]; rfl
  cases ok with
  | false =>
    obtain ⟨⟨e0, e1, e2, e3, e4, e5⟩, h0, h1, h2, h3, h4, h5⟩ := bk6' K5.out
    go_wp2
    refine bodyPost_ret (v := .tuple #[.agg #[.int .i64 0, .int .i64 0, .int .i64 0, .int .i64 0, .int .i64 0, .slice none 0 0], .int .i64 7]) (by simp [results, Tryz.results64, go_sem, e0, e1, e2, e3, e4, e5, h0, h1, h2, h3, h4, h5]) rfl ?_
    exact rulNil (below6 HB5.out (Nat.le_refl _) _ _ _ _ _ _) (by cases o1 <;> cases o2 <;> rfl)
  | true =>
    cases o1 with
    | none =>
      obtain ⟨⟨e0, e1, e2, e3, e4, e5⟩, h0, h1, h2, h3, h4, h5⟩ := bk6' K5.out
      go_wp2
      refine bodyPost_ret (v := .tuple #[.agg #[.int .i64 0, .int .i64 0, .int .i64 0, .int .i64 0, .int .i64 0, .slice none 0 0], .int .i64 7]) (by simp [results, Tryz.results64, go_sem, e0, e1, e2, e3, e4, e5, h0, h1, h2, h3, h4, h5]) rfl ?_
      exact rulNil (below6 HB5.out (Nat.le_refl _) _ _ _ _ _ _) (by cases o2 <;> rfl)
    | some x1 =>
      cases o2 with
      | none =>
        obtain ⟨⟨e0, e1, e2, e3, e4, e5⟩, h0, h1, h2, h3, h4, h5⟩ := bk6' K5.out
        go_wp2
        refine bodyPost_ret (v := .tuple #[.agg #[.int .i64 0, .int .i64 0, .int .i64 0, .int .i64 0, .int .i64 0, .slice none 0 0], .int .i64 7]) (by simp [results, Tryz.results64, go_sem, e0, e1, e2, e3, e4, e5, h0, h1, h2, h3, h4, h5]) rfl ?_
        exact rulNil (below6 HB5.out (Nat.le_refl _) _ _ _ _ _ _) (by rfl)
      | some x2 =>
        have g1 : v1 = x1 := Hv1.out rfl
        have g2 : v2 = x2 := Hv2.out rfl
        subst g1; subst g2
        go_wp2_with fail
        refine (CM.out _ (HLX.out _ HB5.out)).mono ?_
        rintro e w6 ⟨⟨A, c, rfl, hrd, hnil, hfr⟩, hb⟩
        dsimp only at hrd hnil
        obtain ⟨m, hm⟩ : ∃ m, ns.length = m := ⟨_, rfl⟩
        obtain ⟨w7, hw7⟩ : ∃ W, w6.alloc (.cells #[.slice A m c] 24) = W := ⟨_, rfl⟩
        have B6 := HB5.out.trans (hb.mono HB5.out.size)
        have HB7 : Hid (Below w.heap.size w w7) := by show Below _ _ _; rw [← hw7]; exact B6.alloc B6.size _
        have K7 : Hid (Bk w7 w.heap.size 26 #[.int .i64 0, .int .i64 0, .int .i64 0, .int .i64 0, .int .i64 0, .slice none 0 0]) := by show Bk _ _ _ _; rw [← hw7]; exact (K5.out.later hb).alloc _
        have m0 : w7.cell? ⟨w6.heap.size, 0, none⟩ = some (.slice A m c) := by rw [← hw7, (Bk.new w6 24 #[.slice A m c]).cell]; rfl
        have hlt5 : w.heap.size < w5.heap.size := K5.out.lt
        have HRD : Hid (RdN w7 A m ns) := by show RdN _ _ _ _; rw [← hw7, ← hm]; exact hrd.below ((Below.refl _ _).alloc (Nat.le_refl _) _)
        have HNIL : Hid (A = none → m = 0 ∧ c = 0) := by rw [← hm]; exact hnil
        have HFR := Lib.hid hfr
        have HW7 := Lib.hid hw7
        have HM := Lib.hid hm
        rw [hm]
        clear hb B6 hw7 hrd hnil hfr hm k2
        go_upto_region 7 with fail
        rw [show w6.alloc (.cells #[.slice A m c] 24) = w7 from HW7.out]
        obtain ⟨⟨e0, e1, e2, e3, e4, e5⟩, h0, h1, h2, h3, h4, h5⟩ := bk6' K7.out
        go_wp2
        refine bodyPost_ret (v := .tuple #[.agg #[.int .i64 1, .int .i64 v1, .int .i64 0, .int .i64 0, .int .i64 v2, .slice A m c], .int .i64 E]) (by simp [results, Tryz.results64, go_sem, e0, e1, e2, e3, e4, e5, h0, h1, h2, h3, h4, h5]) rfl ?_
        exact rulOk (below6 HB7.out (Nat.le_refl _) _ _ _ _ _ _) rfl HM.out (rdn6 HRD.out (fun a e => by have := HFR.out a e; omega) _ _ _ _ _ _) HNIL.out (fun a e => by have := HFR.out a e; omega)

def ratioW : List (List UInt8) → Rul × Int
  | a :: b :: c :: m => ratioV true (numU a 4) (numU b 4) (numU (Lib.join (c :: m) [32]) 4)
  | _ => (rul0, 7)
def mapW : List (List UInt8) → Rul × Int
  | a :: b :: c :: m => mapV (mapS ⟨(Lib.join (c :: m) [32]).toArray⟩) true (numU a 4) (numU b 13)
  | _ => (rul0, 7)
theorem ratioW_small {l : List (List UInt8)} (h : l.length ≤ 2) : ratioW l = (rul0, 7) := by
  match l, h with
  | [], _ => rfl
  | [_], _ => rfl
  | [_, _], _ => rfl
theorem mapW_small {l : List (List UInt8)} (h : l.length ≤ 2) : mapW l = (rul0, 7) := by
  match l, h with
  | [], _ => rfl
  | [_], _ => rfl
  | [_, _], _ => rfl
theorem baExt {X : ByteArray} {l : List UInt8} (h : X.data.toList = l) : X = ⟨l.toArray⟩ := by
  apply ByteArray.ext; rw [← h]
theorem ratioW_of {ps : List (List UInt8)} {X Y Z : ByteArray} {ok : Bool} (h : Parts ps X Y Z ok) : ratioW ps = ratioV ok (numU X.data.toList 4) (numU Y.data.toList 4) (numU Z.data.toList 4) := by
  rcases h with ⟨rfl, h⟩ | ⟨rfl, _, _, _, h⟩
  · rcases p3_cases ps with ⟨a, b, c, m, rfl⟩ | hl
    · simp only [p3, List.cons.injEq, and_true] at h
      obtain ⟨h1, h2, h3⟩ := h
      rw [← h1, ← h2, ← h3]; rfl
    · rw [p3_small hl] at h
      rw [h] at hl
      simp at hl
  · rw [ratioW_small h]
    cases numU X.data.toList 4 <;> cases numU Y.data.toList 4 <;> cases numU Z.data.toList 4 <;> rfl
theorem mapW_of {ps : List (List UInt8)} {X Y Z : ByteArray} {ok : Bool} (h : Parts ps X Y Z ok) : mapW ps = mapV (mapS Z) ok (numU X.data.toList 4) (numU Y.data.toList 13) := by
  rcases h with ⟨rfl, h⟩ | ⟨rfl, _, _, _, h⟩
  · rcases p3_cases ps with ⟨a, b, c, m, rfl⟩ | hl
    · simp only [p3, List.cons.injEq, and_true] at h
      obtain ⟨h1, h2, h3⟩ := h
      rw [← h1, ← h2, baExt h3.symm]; rfl
    · rw [p3_small hl] at h
      rw [h] at hl
      simp at hl
  · rw [mapW_small h]
    cases numU X.data.toList 4 <;> cases numU Y.data.toList 13 <;> rfl
theorem ratioIn_full (s : ByteArray) (w : World) (hl : LaidG w) (hs : s.size ≤ 1000000) : Calls Tryz.prog 63 #[.string s] w (RulRes w (ratioW (pcs 32 s.data.toList))) := by
  obtain ⟨X, Y, Z, ok, hP, h1, h2, h3, hC⟩ := partsOf_any s hs
  rw [ratioW_of hP]
  exact ratioIn_any s w hl X Y Z ok (by omega) (by omega) (by omega) hC
theorem mapIn_full (s : ByteArray) (w : World) (hl : LaidG w) (hs : s.size ≤ 1000000) : Calls Tryz.prog 64 #[.string s] w (RulRes w (mapW (pcs 32 s.data.toList))) := by
  obtain ⟨X, Y, Z, ok, hP, h1, h2, h3, hC⟩ := partsOf_any s hs
  rw [mapW_of hP]
  exact rmapIn_any s w hl X Y Z ok (by omega) (by omega) (by omega) hC
end Go.Proofs.YtjjflbnopphciacGreatDoor

namespace Go.Proofs.YtjjflbnopphciacGreatDoor
open Go.RowKit

def ratioL : List UInt8 := [114, 97, 116, 105, 111]
def mapL : List UInt8 := [109, 97, 112]
/-- What the words of a string give. -/
def rulesP : List (List UInt8) → Rul × Int
  | kw :: rest => if kw = ratioL then ratioW rest else if kw = mapL then mapW rest else (rul0, 7)
  | [] => (rul0, 7)
def rulesW (l : List UInt8) : Rul × Int := rulesP (pcs 32 l)
theorem rules_cut {l x z : List UInt8} {f : Bool} (h : Lib.cut l [32] = (x, z, f)) : rulesW l = if x = ratioL then ratioW (pcs 32 z) else if x = mapL then mapW (pcs 32 z) else (rul0, 7) := by
  unfold rulesW
  rcases cut_casesG 32 l with ⟨h1, h2⟩ | ⟨x', z', h1, h2, _⟩
  · rw [h1]
    rw [h2] at h
    injection h with e1 h
    injection h with e2 e3
    subst e1; subst e2
    rfl
  · rw [h2]
    rw [h1] at h
    injection h with e1 h
    injection h with e2 e3
    subst e1; subst e2
    rfl
theorem cut_lens {l x z : List UInt8} {f : Bool} (h : Lib.cut l [32] = (x, z, f)) : x.length ≤ l.length ∧ z.length ≤ l.length := by
  rcases cut_casesG 32 l with ⟨h1, h2⟩ | ⟨x', z', h1, h2, _⟩
  · rw [h2] at h
    injection h with e1 h
    injection h with e2 e3
    subst e1; subst e2
    exact ⟨Nat.le_refl _, Nat.zero_le _⟩
  · rw [h1] at h
    injection h with e1 h
    injection h with e2 e3
    subst e1; subst e2
    have hj := join_pcs 32 l
    have hz := join_pcs 32 z'
    rw [h2] at hj
    cases hp : pcs 32 z' with
    | nil => exact absurd hp (pcs_ne _ _)
    | cons p ps =>
      rw [hp] at hj hz
      have e : Lib.join (x' :: p :: ps) [32] = x' ++ 32 :: Lib.join (p :: ps) [32] := by simp [Lib.join_cons, Lib.joinTail]
      rw [e, hz] at hj
      have := congrArg List.length hj
      simp only [List.length_append, List.length_cons] at this
      omega
theorem mapS_len (s : ByteArray) : (mapS s).1.length ≤ 60001 := by
  unfold mapS
  split
  · simp
  · rename_i hs
    cases h : allO nodeO (pcs 32 s.data.toList) with
    | none => simp [mapQ]
    | some ns =>
      have h1 := allO_len nodeO _ _ h
      have h4 := pcs_len_le 32 s.data.toList
      have h5 : s.data.toList.length = s.size := by simp
      unfold mapQ
      dsimp only
      split
      · show ns.length ≤ _
        omega
      · simp
theorem mapV_len (r : List (Int × Int) × Int) (hr : r.1.length ≤ 60001) (ok : Bool) (o1 o2 : Option Int) : (mapV r ok o1 o2).1.ns.length ≤ 60001 := by
  cases ok <;> cases o1 <;> cases o2 <;> simp [mapV, rul0] <;> exact hr
theorem ratioV_len (ok : Bool) (o1 o2 o3 : Option Int) : (ratioV ok o1 o2 o3).1.ns.length ≤ 60001 := by
  cases ok <;> cases o1 <;> cases o2 <;> cases o3 <;> simp [ratioV, rul0]
theorem rulesP_len (ps : List (List UInt8)) : (rulesP ps).1.ns.length ≤ 60001 := by
  cases ps with
  | nil => simp [rulesP, rul0]
  | cons kw rest =>
    unfold rulesP
    dsimp only
    split
    · rcases p3_cases rest with ⟨a, b, c, m, rfl⟩ | hl
      · exact ratioV_len _ _ _ _
      · rw [ratioW_small hl]; simp [rul0]
    · split
      · rcases p3_cases rest with ⟨a, b, c, m, rfl⟩ | hl
        · exact mapV_len _ (mapS_len _) _ _ _
        · rw [mapW_small hl]; simp [rul0]
      · simp [rul0]

set_option maxRecDepth 100000 in
set_option maxHeartbeats 8000000 in
theorem rulesIn_any (s : ByteArray) (w : World) (hl : LaidG w) (hs : s.size ≤ 60000) :
    Calls Tryz.prog 32 #[.string s] w (RulRes w (rulesW s.data.toList)) := by
  obtain ⟨x, z, f, hcut⟩ : ∃ x z f, Lib.cut s.data.toList [32] = (x, z, f) := ⟨_, _, _, rfl⟩
  obtain ⟨X, hX⟩ : ∃ X : ByteArray, (⟨x.toArray⟩ : ByteArray) = X := ⟨_, rfl⟩
  obtain ⟨Z, hZ'⟩ : ∃ X : ByteArray, (⟨z.toArray⟩ : ByteArray) = X := ⟨_, rfl⟩
  have hXl : X.data.toList = x := by rw [← hX]
  have hZl : Z.data.toList = z := by rw [← hZ']
  have hlz := cut_lens hcut
  have hz : s.data.toList.length = s.size := by simp
  have hZ : Z.size ≤ 1000000 := by rw [← hZ', bytes_size]; omega
  have HCUT := Lib.hid (rules_cut hcut)
  rw [← hXl, ← hZl] at hcut HCUT
  obtain ⟨w1, hw1⟩ : ∃ W, w.alloc (.cells #[.int .i64 0, .int .i64 0, .int .i64 0, .int .i64 0, .int .i64 0, .slice none 0 0] 26) = W := ⟨_, rfl⟩
  have HB1 : Hid (Below w.heap.size w w1) := by show Below _ _ _; rw [← hw1]; exact (Below.refl _ _).alloc (Nat.le_refl _) _
  have K1 : Hid (Bk w1 w.heap.size 26 #[.int .i64 0, .int .i64 0, .int .i64 0, .int .i64 0, .int .i64 0, .slice none 0 0]) := by show Bk _ _ _ _; rw [← hw1]; exact Bk.new _ _ _
  have HLX : Hid (∀ W, Below w.heap.size w W → LaidG W) := fun W hW => hl.later hW
  have CP := Lib.hid (cutG_form 32 s X Z f w1 (hl.later HB1.out) (by omega) hcut)
  have HW1 := Lib.hid hw1
  clear hl hw1 hcut hX hZ' hlz hz hXl hZl
  go_enter Tryz.func32, Tryz.ntmps32
  go_upto_region 1 with fail
  rw [show w.alloc (.cells #[.int .i64 0, .int .i64 0, .int .i64 0, .int .i64 0, .int .i64 0, .slice none 0 0] 26) = w1 from HW1.out]
  go_wp2_with fail
  refine CP.out.mono ?_
  rintro e w2 ⟨rfl, hb⟩
  have HB2 : Hid (Below w.heap.size w w2) := HB1.out.trans (hb.mono HB1.out.size)
  have K2 : Hid (Bk w2 w.heap.size 26 #[.int .i64 0, .int .i64 0, .int .i64 0, .int .i64 0, .int .i64 0, .slice none 0 0]) := K1.out.later hb
  have kk0 := (HLX.out _ HB2.out).k0
  have kk1 := (HLX.out _ HB2.out).k1
  clear hb CP
  by_cases hR : X = kwRatio
  · have heq := strEq X kwRatio hR
    have hif : X.data.toList = ratioL := by rw [hR]; rfl
    clear hR
    obtain ⟨⟨⟨k, d, nu, q, s', ns⟩, E⟩, hr⟩ : ∃ r, ratioW (pcs 32 Z.data.toList) = r := ⟨_, rfl⟩
    have CR := ratioIn_full Z w2 (HLX.out _ HB2.out) hZ
    rw [hr] at CR
    have HRR : Hid (rulesW s.data.toList = (⟨k, d, nu, q, s', ns⟩, E)) := by show _ = _; rw [HCUT.out]; rw [if_pos hif]; exact hr
    have CC := Lib.hid CR
    clear CR hr
    go_wp2_with fail
    refine CC.out.mono ?_
    rintro e w3 ⟨⟨A, c, rfl, hrd, hnil, hfr⟩, hb⟩
    dsimp only at hrd hnil
    obtain ⟨m, hm⟩ : ∃ m, ns.length = m := ⟨_, rfl⟩
    rw [hm] at hrd hnil
    have HB3 : Hid (Below w.heap.size w w3) := HB2.out.trans (hb.mono HB2.out.size)
    have K3 : Hid (Bk w3 w.heap.size 26 #[.int .i64 0, .int .i64 0, .int .i64 0, .int .i64 0, .int .i64 0, .slice none 0 0]) := K2.out.later hb
    have hlt2 : w.heap.size < w2.heap.size := K2.out.lt
    have HRD := Lib.hid hrd
    have HNIL := Lib.hid hnil
    have HFR := Lib.hid hfr
    have HM := Lib.hid hm
    obtain ⟨⟨e0, e1, e2, e3, e4, e5⟩, h0, h1, h2, h3, h4, h5⟩ := bk6' K3.out
    rw [hm]
    clear hb hrd hnil hfr CC hm kk0 kk1
    go_wp2
    refine bodyPost_ret (v := .tuple #[.agg #[.int .i64 k, .int .i64 d, .int .i64 nu, .int .i64 q, .int .i64 s', .slice A m c], .int .i64 E]) (by simp [results, Tryz.results32, go_sem, e0, e1, e2, e3, e4, e5, h0, h1, h2, h3, h4, h5]) rfl ?_
    exact rulOk (below6 HB3.out (Nat.le_refl _) _ _ _ _ _ _) HRR.out HM.out (rdn6 HRD.out (fun a e => by have := HFR.out a e; omega) _ _ _ _ _ _) HNIL.out (fun a e => by have := HFR.out a e; omega)
  · have hne := strNe X kwRatio hR
    have hif : ¬ X.data.toList = ratioL := fun h => hR (by rw [baExt h]; rfl)
    clear hR
    by_cases hM : X = kwMap
    · have heq := strEq X kwMap hM
      have hif2 : X.data.toList = mapL := by rw [hM]; rfl
      clear hM
      obtain ⟨⟨⟨k, d, nu, q, s', ns⟩, E⟩, hr⟩ : ∃ r, mapW (pcs 32 Z.data.toList) = r := ⟨_, rfl⟩
      have CR := mapIn_full Z w2 (HLX.out _ HB2.out) hZ
      rw [hr] at CR
      have HRR : Hid (rulesW s.data.toList = (⟨k, d, nu, q, s', ns⟩, E)) := by show _ = _; rw [HCUT.out]; rw [if_neg hif, if_pos hif2]; exact hr
      have CC := Lib.hid CR
      clear CR hr
      go_wp2_with fail
      refine CC.out.mono ?_
      rintro e w3 ⟨⟨A, c, rfl, hrd, hnil, hfr⟩, hb⟩
      dsimp only at hrd hnil
      obtain ⟨m, hm⟩ : ∃ m, ns.length = m := ⟨_, rfl⟩
      rw [hm] at hrd hnil
      have HB3 : Hid (Below w.heap.size w w3) := HB2.out.trans (hb.mono HB2.out.size)
      have K3 : Hid (Bk w3 w.heap.size 26 #[.int .i64 0, .int .i64 0, .int .i64 0, .int .i64 0, .int .i64 0, .slice none 0 0]) := K2.out.later hb
      have hlt2 : w.heap.size < w2.heap.size := K2.out.lt
      have HRD := Lib.hid hrd
      have HNIL := Lib.hid hnil
      have HFR := Lib.hid hfr
      have HM := Lib.hid hm
      obtain ⟨⟨e0, e1, e2, e3, e4, e5⟩, h0, h1, h2, h3, h4, h5⟩ := bk6' K3.out
      rw [hm]
      clear hb hrd hnil hfr CC hm kk0 kk1
      go_wp2
      refine bodyPost_ret (v := .tuple #[.agg #[.int .i64 k, .int .i64 d, .int .i64 nu, .int .i64 q, .int .i64 s', .slice A m c], .int .i64 E]) (by simp [results, Tryz.results32, go_sem, e0, e1, e2, e3, e4, e5, h0, h1, h2, h3, h4, h5]) rfl ?_
      exact rulOk (below6 HB3.out (Nat.le_refl _) _ _ _ _ _ _) HRR.out HM.out (rdn6 HRD.out (fun a e => by have := HFR.out a e; omega) _ _ _ _ _ _) HNIL.out (fun a e => by have := HFR.out a e; omega)
    · have hne2 := strNe X kwMap hM
      have hif2 : ¬ X.data.toList = mapL := fun h => hM (by rw [baExt h]; rfl)
      clear hM
      have HRR : Hid (rulesW s.data.toList = (rul0, 7)) := by show _ = _; rw [HCUT.out]; rw [if_neg hif, if_neg hif2]
      obtain ⟨⟨e0, e1, e2, e3, e4, e5⟩, h0, h1, h2, h3, h4, h5⟩ := bk6' K2.out
      go_wp2
      refine bodyPost_ret (v := .tuple #[.agg #[.int .i64 0, .int .i64 0, .int .i64 0, .int .i64 0, .int .i64 0, .slice none 0 0], .int .i64 7]) (by simp [results, Tryz.results32, go_sem, e0, e1, e2, e3, e4, e5, h0, h1, h2, h3, h4, h5]) rfl ?_
      exact rulNil (below6 HB2.out (Nat.le_refl _) _ _ _ _ _ _) HRR.out
end Go.Proofs.YtjjflbnopphciacGreatDoor

namespace Go.Proofs.YtjjflbnopphciacGreatDoor
open Go.RowKit

/-- The rules of a string and the error. -/
def rulFin (r : Rul × Int) : Rul × Int :=
  if firstNZ [r.2, rulC r.1.k r.1.d r.1.nu r.1.q r.1.s r.1.ns.length r.1.ns] = 0 then (r.1, 0) else (rul0, firstNZ [r.2, rulC r.1.k r.1.d r.1.nu r.1.q r.1.s r.1.ns.length r.1.ns])
def rulesS (s : ByteArray) : Rul × Int := if 60000 < s.size then (rul0, 8) else rulFin (rulesW s.data.toList)

set_option maxRecDepth 100000 in
set_option maxHeartbeats 8000000 in
theorem parseRules_any (s : ByteArray) (w : World) (hl : LaidG w) (hs : s.size ≤ 1000000) :
    Calls Tryz.prog 11 #[.string s] w (RulRes w (rulesS s)) := by
  obtain ⟨w1, hw1⟩ : ∃ W, w.alloc (.cells #[.int .i64 0, .int .i64 0, .int .i64 0, .int .i64 0, .int .i64 0, .slice none 0 0] 26) = W := ⟨_, rfl⟩
  have HB1 : Hid (Below w.heap.size w w1) := by show Below _ _ _; rw [← hw1]; exact (Below.refl _ _).alloc (Nat.le_refl _) _
  have K1 : Hid (Bk w1 w.heap.size 26 #[.int .i64 0, .int .i64 0, .int .i64 0, .int .i64 0, .int .i64 0, .slice none 0 0]) := by show Bk _ _ _ _; rw [← hw1]; exact Bk.new _ _ _
  have HW1 := Lib.hid hw1
  by_cases hbig : 60000 < s.size
  · have HR : Hid (rulesS s = (rul0, 8)) := if_pos hbig
    have hI : (60000 : Int) < (s.size : Int) := by omega
    obtain ⟨⟨e0, e1, e2, e3, e4, e5⟩, h0, h1, h2, h3, h4, h5⟩ := bk6' K1.out
    clear hl hbig hs hw1
    go_enter Tryz.func11, Tryz.ntmps11
    go_upto_region 1 with fail
    rw [show w.alloc (.cells #[.int .i64 0, .int .i64 0, .int .i64 0, .int .i64 0, .int .i64 0, .slice none 0 0] 26) = w1 from HW1.out]
    go_wp2
    refine bodyPost_ret (v := .tuple #[.agg #[.int .i64 0, .int .i64 0, .int .i64 0, .int .i64 0, .int .i64 0, .slice none 0 0], .int .i64 8]) (by simp [results, Tryz.results11, go_sem, e0, e1, e2, e3, e4, e5, h0, h1, h2, h3, h4, h5]) rfl ?_
    exact rulNil (below6 HB1.out (Nat.le_refl _) _ _ _ _ _ _) HR.out
  · have CR := rulesIn_any s w1 (hl.later HB1.out) (by omega)
    have hI : ¬ (60000 : Int) < (s.size : Int) := by omega
    have HS : Hid (rulesS s = rulFin (rulesW s.data.toList)) := if_neg hbig
    have hlen : (rulesW s.data.toList).1.ns.length ≤ 60001 := rulesP_len _
    obtain ⟨⟨⟨k, d, nu, q, s', ns⟩, E⟩, hr⟩ : ∃ r, rulesW s.data.toList = r := ⟨_, rfl⟩
    rw [hr] at CR HS hlen
    have CC := Lib.hid CR
    clear CR hr hl hw1 hbig hs
    dsimp only at hlen
    go_enter Tryz.func11, Tryz.ntmps11
    go_upto_region 1 with fail
    rw [show w.alloc (.cells #[.int .i64 0, .int .i64 0, .int .i64 0, .int .i64 0, .int .i64 0, .slice none 0 0] 26) = w1 from HW1.out]
    go_wp2_with fail
    refine CC.out.mono ?_
    rintro e w2 ⟨⟨A, c, rfl, hrd, hnil, hfr⟩, hb⟩
    dsimp only at hrd hnil
    obtain ⟨C, hC⟩ : ∃ C, rulC k d nu q s' ns.length ns = C := ⟨_, rfl⟩
    obtain ⟨m, hm⟩ : ∃ m, ns.length = m := ⟨_, rfl⟩
    rw [hm] at hrd hnil hC hlen
    obtain ⟨w3, hw3⟩ : ∃ W, w2.alloc (.cells #[.int .i64 k, .int .i64 d, .int .i64 nu, .int .i64 q, .int .i64 s', .slice A m c] 26) = W := ⟨_, rfl⟩
    have B2 := HB1.out.trans (hb.mono HB1.out.size)
    have B23 : Below w2.heap.size w2 w3 := by rw [← hw3]; exact (Below.refl _ _).alloc (Nat.le_refl _) _
    have HB3 : Hid (Below w.heap.size w w3) := B2.trans (B23.mono B2.size)
    have K3 : Hid (Bk w3 w.heap.size 26 #[.int .i64 0, .int .i64 0, .int .i64 0, .int .i64 0, .int .i64 0, .slice none 0 0]) := (K1.out.later hb).later B23
    have KR : Hid (Bk w3 w2.heap.size 26 #[.int .i64 k, .int .i64 d, .int .i64 nu, .int .i64 q, .int .i64 s', .slice A m c]) := by show Bk _ _ _ _; rw [← hw3]; exact Bk.new _ _ _
    have hr3 : RdN w3 A m ns := hrd.below B23
    have CK := Lib.hid (CheckRules_all k d nu q s' A m c ns w3 hr3 (by omega))
    rw [hC] at CK
    have hlt1 : w.heap.size < w1.heap.size := K1.out.lt
    have HRD := Lib.hid hr3
    have HNIL := Lib.hid hnil
    have HFR := Lib.hid hfr
    have HM := Lib.hid hm
    have HC := Lib.hid hC
    have HW3 := Lib.hid hw3
    have hlt12 : w1.heap.size ≤ w2.heap.size := hb.size
    rw [hm]
    clear hb hrd hnil hfr CC hm hC hw3 B2 B23 hr3
    go_upto_region 4 with fail
    rw [show w2.alloc (.cells #[.int .i64 k, .int .i64 d, .int .i64 nu, .int .i64 q, .int .i64 s', .slice A m c] 26) = w3 from HW3.out]
    obtain ⟨⟨r0, r1, r2, r3, r4, r5⟩, _⟩ := bk6' KR.out
    go_wp2_with fail
    refine CK.out.mono ?_
    rintro e w4 ⟨rfl, hb⟩
    have HB4 : Hid (Below w.heap.size w w4) := HB3.out.trans (hb.mono HB3.out.size)
    have K4 : Hid (Bk w4 w.heap.size 26 #[.int .i64 0, .int .i64 0, .int .i64 0, .int .i64 0, .int .i64 0, .slice none 0 0]) := K3.out.later hb
    have KR4 : Hid (Bk w4 w2.heap.size 26 #[.int .i64 k, .int .i64 d, .int .i64 nu, .int .i64 q, .int .i64 s', .slice A m c]) := KR.out.later hb
    have HR4 := Lib.hid (HRD.out.below hb)
    have CF : Hid (∀ W : World, W.cell? ⟨w4.heap.size, 0, none⟩ = some (Value.int .i64 E) → W.cell? ⟨w4.heap.size, 1, none⟩ = some (Value.int .i64 C) → _) := Lib.hid fun W a b => firstError_any (some ⟨w4.heap.size, 0, none⟩) 2 2 [E, C] W (rdTwo W w4.heap.size E C a b) (by omega)
    obtain ⟨F, hF⟩ : ∃ F, firstNZ [E, C] = F := ⟨_, rfl⟩
    rw [hF] at CF
    have HF := Lib.hid hF
    clear hb CK r0 r1 r2 r3 r4 r5 hF
    go_wp2_with fail
    refine (CF.out _ (by simp [go_sem]) (by simp [go_sem])).mono ?_
    rintro e w5 ⟨rfl, hw5⟩
    have B45 : Below w4.heap.size w4 w5 := by rw [← hw5]; first | exact ((Below.refl _ _).alloc (Nat.le_refl _) _) | exact ((Below.refl _ _).drew.alloc (Nat.le_refl _) _)
    have HB5 : Hid (Below w.heap.size w w5) := HB4.out.trans (B45.mono HB4.out.size)
    have K5 : Hid (Bk w5 w.heap.size 26 #[.int .i64 0, .int .i64 0, .int .i64 0, .int .i64 0, .int .i64 0, .slice none 0 0]) := K4.out.later B45
    have KR5 : Hid (Bk w5 w2.heap.size 26 #[.int .i64 k, .int .i64 d, .int .i64 nu, .int .i64 q, .int .i64 s', .slice A m c]) := KR4.out.later B45
    have HR5 := Lib.hid (HR4.out.below B45)
    clear B45 CF
    try rw [hw5]
    clear hw5
    obtain ⟨⟨e0, e1, e2, e3, e4, e5⟩, h0, h1, h2, h3, h4, h5⟩ := bk6' K5.out
    by_cases hF0 : F = 0
    · have HR : Hid (rulesS s = (⟨k, d, nu, q, s', ns⟩, 0)) := by
        show _ = _
        rw [HS.out]
        unfold rulFin
        dsimp only
        rw [HM.out, HC.out, HF.out, if_pos hF0]
      subst hF0
      obtain ⟨⟨r0, r1, r2, r3, r4, r5⟩, _⟩ := bk6' KR5.out
      go_wp2
      refine bodyPost_ret (v := .tuple #[.agg #[.int .i64 k, .int .i64 d, .int .i64 nu, .int .i64 q, .int .i64 s', .slice A m c], .int .i64 0]) (by simp [results, Tryz.results11, go_sem, e0, e1, e2, e3, e4, e5, h0, h1, h2, h3, h4, h5]) rfl ?_
      exact rulOk (below6 HB5.out (Nat.le_refl _) _ _ _ _ _ _) HR.out HM.out (rdn6 HR5.out (fun a e => by have := HFR.out a e; omega) _ _ _ _ _ _) HNIL.out (fun a e => by have := HFR.out a e; omega)
    · have HR : Hid (rulesS s = (rul0, F)) := by
        show _ = _
        rw [HS.out]
        unfold rulFin
        dsimp only
        rw [HM.out, HC.out, HF.out, if_neg hF0]
      have hne : (F != 0) = true := by simpa using hF0
      clear hF0
      go_wp2
      refine bodyPost_ret (v := .tuple #[.agg #[.int .i64 0, .int .i64 0, .int .i64 0, .int .i64 0, .int .i64 0, .slice none 0 0], .int .i64 F]) (by simp [results, Tryz.results11, go_sem, e0, e1, e2, e3, e4, e5, h0, h1, h2, h3, h4, h5]) rfl ?_
      exact rulNil (below6 HB5.out (Nat.le_refl _) _ _ _ _ _ _) HR.out
end Go.Proofs.YtjjflbnopphciacGreatDoor

namespace Go.Proofs.YtjjflbnopphciacGreatDoor
open Go.RowKit

def bRatio : ByteArray := ⟨#[114, 97, 116, 105, 111]⟩
set_option maxRecDepth 100000 in
set_option maxHeartbeats 8000000 in
theorem refPR_big (s : ByteArray) (w : World) (hs : 60000 < s.size) :
    Calls Tryz.prog 13 #[.string s] w (RulRes w (rul0, 8)) := by
  obtain ⟨w1, hw1⟩ : ∃ W, (w.alloc (.cells #[.int .i64 0, .int .i64 0, .int .i64 0, .int .i64 0, .int .i64 0, .slice none 0 0] 26)).alloc (.cells #[.int .i64 0, .int .i64 0, .int .i64 0, .int .i64 0, .int .i64 0, .slice none 0 0] 26) = W := ⟨_, rfl⟩
  have HB1 : Hid (Below w.heap.size w w1) := by show Below _ _ _; rw [← hw1]; exact below2 _ _ _
  have K1 : Hid (Bk w1 w.heap.size 26 #[.int .i64 0, .int .i64 0, .int .i64 0, .int .i64 0, .int .i64 0, .slice none 0 0]) := by show Bk _ _ _ _; rw [← hw1]; exact (Bk.new _ _ _).alloc _
  have N1 : Hid (Bk w1 (w.heap.size + 1) 26 #[.int .i64 0, .int .i64 0, .int .i64 0, .int .i64 0, .int .i64 0, .slice none 0 0]) := by show Bk _ _ _ _; rw [← hw1]; simpa using Bk.new (w.alloc (.cells #[.int .i64 0, .int .i64 0, .int .i64 0, .int .i64 0, .int .i64 0, .slice none 0 0] 26)) 26 #[.int .i64 0, .int .i64 0, .int .i64 0, .int .i64 0, .int .i64 0, .slice none 0 0]
  have HW1 := Lib.hid hw1
  have hI : (60000 : Int) < (s.size : Int) := by omega
  clear hw1 hs
  go_enter Tryz.func13, Tryz.ntmps13
  go_upto_region 2 with fail
  rw [show (w.alloc (.cells #[.int .i64 0, .int .i64 0, .int .i64 0, .int .i64 0, .int .i64 0, .slice none 0 0] 26)).alloc (.cells #[.int .i64 0, .int .i64 0, .int .i64 0, .int .i64 0, .int .i64 0, .slice none 0 0] 26) = w1 from HW1.out]
  obtain ⟨⟨e0, e1, e2, e3, e4, e5⟩, h0, h1, h2, h3, h4, h5⟩ := bk6' K1.out
  obtain ⟨⟨n0, n1, n2, n3, n4, n5⟩, _⟩ := bk6' N1.out
  go_wp2
  refine bodyPost_ret (v := .tuple #[.agg #[.int .i64 0, .int .i64 0, .int .i64 0, .int .i64 0, .int .i64 0, .slice none 0 0], .int .i64 8]) (by simp [results, Tryz.results13, go_sem, e0, e1, e2, e3, e4, e5, h0, h1, h2, h3, h4, h5]) rfl ?_
  exact rulNil (below6 HB1.out (Nat.le_refl _) _ _ _ _ _ _) rfl

set_option maxRecDepth 100000 in
set_option maxHeartbeats 8000000 in
theorem refPR_none (s : ByteArray) (w : World) (hs : s.size ≤ 60000) (kw : List UInt8) (ps : List (List UInt8)) (q : Nat) (hps : pcs 32 s.data.toList = kw :: ps) (hq : (kw :: ps).length = q) (h1 : kw ≠ ratioL) (h2 : kw ≠ mapL) :
    Calls Tryz.prog 13 #[.string s] w (RulRes w (rul0, 7)) := by
  obtain ⟨w1, hw1⟩ : ∃ W, (w.alloc (.cells #[.int .i64 0, .int .i64 0, .int .i64 0, .int .i64 0, .int .i64 0, .slice none 0 0] 26)).alloc (.cells #[.int .i64 0, .int .i64 0, .int .i64 0, .int .i64 0, .int .i64 0, .slice none 0 0] 26) = W := ⟨_, rfl⟩
  have HB1 : Hid (Below w.heap.size w w1) := by show Below _ _ _; rw [← hw1]; exact below2 _ _ _
  have K1 : Hid (Bk w1 w.heap.size 26 #[.int .i64 0, .int .i64 0, .int .i64 0, .int .i64 0, .int .i64 0, .slice none 0 0]) := by show Bk _ _ _ _; rw [← hw1]; exact (Bk.new _ _ _).alloc _
  have N1 : Hid (Bk w1 (w.heap.size + 1) 26 #[.int .i64 0, .int .i64 0, .int .i64 0, .int .i64 0, .int .i64 0, .slice none 0 0]) := by show Bk _ _ _ _; rw [← hw1]; simpa using Bk.new (w.alloc (.cells #[.int .i64 0, .int .i64 0, .int .i64 0, .int .i64 0, .int .i64 0, .slice none 0 0] 26)) 26 #[.int .i64 0, .int .i64 0, .int .i64 0, .int .i64 0, .int .i64 0, .slice none 0 0]
  have HW1 := Lib.hid hw1
  have CC := Lib.hid (cut_form s 32 32 rfl w1 (by omega) (kw :: ps) q hps hq)
  have hI : ¬ (60000 : Int) < (s.size : Int) := by omega
  obtain ⟨X, hX⟩ : ∃ X : ByteArray, (⟨kw.toArray⟩ : ByteArray) = X := ⟨_, rfl⟩
  have HX := Lib.hid hX
  have HXL : Hid (X.data.toList = kw) := by show _ = _; rw [← hX]
  have HQ := Lib.hid hq
  have hq0 : 0 < q := by rw [← hq]; simp
  have hq0I : (0 : Int) < (q : Int) := by omega
  clear hw1 hX hs hps hq
  go_enter Tryz.func13, Tryz.ntmps13
  go_upto_region 2 with fail
  rw [show (w.alloc (.cells #[.int .i64 0, .int .i64 0, .int .i64 0, .int .i64 0, .int .i64 0, .slice none 0 0] 26)).alloc (.cells #[.int .i64 0, .int .i64 0, .int .i64 0, .int .i64 0, .int .i64 0, .slice none 0 0] 26) = w1 from HW1.out]
  go_wp2_with fail
  refine CC.out.mono ?_
  rintro e w2 ⟨g, cp, rfl, hg1, hg2, hc, hb⟩
  obtain ⟨w3, hw3⟩ : ∃ W, w2.alloc (.cells #[.int .i64 0, .int .i64 0, .int .i64 0, .int .i64 0, .int .i64 0, .slice none 0 0] 26) = W := ⟨_, rfl⟩
  have B23 : Below w2.heap.size w2 w3 := by rw [← hw3]; exact (Below.refl _ _).alloc (Nat.le_refl _) _
  have B2 := HB1.out.trans (hb.mono HB1.out.size)
  have HB3 : Hid (Below w.heap.size w w3) := B2.trans (B23.mono B2.size)
  have K3 : Hid (Bk w3 w.heap.size 26 #[.int .i64 0, .int .i64 0, .int .i64 0, .int .i64 0, .int .i64 0, .slice none 0 0]) := (K1.out.later hb).later B23
  have N3 : Hid (Bk w3 (w.heap.size + 1) 26 #[.int .i64 0, .int .i64 0, .int .i64 0, .int .i64 0, .int .i64 0, .slice none 0 0]) := (N1.out.later hb).later B23
  have R3 : Hid (Bk w3 w2.heap.size 26 #[.int .i64 0, .int .i64 0, .int .i64 0, .int .i64 0, .int .i64 0, .slice none 0 0]) := by show Bk _ _ _ _; rw [← hw3]; exact Bk.new _ _ _
  have HWD2 : WordsAt w2 g (kw :: ps) := ⟨hg2, hc⟩
  have HWD : Hid (WordsAt w3 g (kw :: ps)) := HWD2.later B23
  have HW3 := Lib.hid hw3
  have hgl : w.heap.size + 1 < g := Nat.lt_of_lt_of_le N1.out.lt hg1
  clear hg1 hc hb B23 B2 HWD2 hw3 CC
  go_upto_region 6 with fail
  rw [show w2.alloc (.cells #[.int .i64 0, .int .i64 0, .int .i64 0, .int .i64 0, .int .i64 0, .slice none 0 0] 26) = w3 from HW3.out]
  have k0 : w3.cell? ⟨g, 0, none⟩ = some (.string X) := by rw [HWD.out.2 0 kw rfl, ← HX.out]; rfl
  have ne1 : (X.toList == [114, 97, 116, 105, 111]) = false := by rw [Lib.toList_data, HXL.out]; exact beq_eq_false_iff_ne.2 h1
  have ne2 : (X.toList == [109, 97, 112]) = false := by rw [Lib.toList_data, HXL.out]; exact beq_eq_false_iff_ne.2 h2
  clear h1 h2
  obtain ⟨⟨e0, e1, e2, e3, e4, e5⟩, h0, h1, h2, h3, h4, h5⟩ := bk6' K3.out
  obtain ⟨⟨n0, n1, n2, n3, n4, n5⟩, _⟩ := bk6' N3.out
  go_wp2
  refine bodyPost_ret (v := .tuple #[.agg #[.int .i64 0, .int .i64 0, .int .i64 0, .int .i64 0, .int .i64 0, .slice none 0 0], .int .i64 7]) (by simp [results, Tryz.results13, go_sem, e0, e1, e2, e3, e4, e5, h0, h1, h2, h3, h4, h5]) rfl ?_
  exact rulNil (below6 HB3.out (Nat.le_refl _) _ _ _ _ _ _) rfl

set_option maxRecDepth 100000 in
set_option maxHeartbeats 8000000 in
theorem refPR_ratioN (s : ByteArray) (w : World) (hs : s.size ≤ 60000) (kw : List UInt8) (ps : List (List UInt8)) (q : Nat) (hps : pcs 32 s.data.toList = kw :: ps) (hq : (kw :: ps).length = q) (h1 : kw = ratioL) (h4 : q ≠ 4) :
    Calls Tryz.prog 13 #[.string s] w (RulRes w (rul0, 7)) := by
  obtain ⟨w1, hw1⟩ : ∃ W, (w.alloc (.cells #[.int .i64 0, .int .i64 0, .int .i64 0, .int .i64 0, .int .i64 0, .slice none 0 0] 26)).alloc (.cells #[.int .i64 0, .int .i64 0, .int .i64 0, .int .i64 0, .int .i64 0, .slice none 0 0] 26) = W := ⟨_, rfl⟩
  have HB1 : Hid (Below w.heap.size w w1) := by show Below _ _ _; rw [← hw1]; exact below2 _ _ _
  have K1 : Hid (Bk w1 w.heap.size 26 #[.int .i64 0, .int .i64 0, .int .i64 0, .int .i64 0, .int .i64 0, .slice none 0 0]) := by show Bk _ _ _ _; rw [← hw1]; exact (Bk.new _ _ _).alloc _
  have N1 : Hid (Bk w1 (w.heap.size + 1) 26 #[.int .i64 0, .int .i64 0, .int .i64 0, .int .i64 0, .int .i64 0, .slice none 0 0]) := by show Bk _ _ _ _; rw [← hw1]; simpa using Bk.new (w.alloc (.cells #[.int .i64 0, .int .i64 0, .int .i64 0, .int .i64 0, .int .i64 0, .slice none 0 0] 26)) 26 #[.int .i64 0, .int .i64 0, .int .i64 0, .int .i64 0, .int .i64 0, .slice none 0 0]
  have HW1 := Lib.hid hw1
  have CC := Lib.hid (cut_form s 32 32 rfl w1 (by omega) (kw :: ps) q hps hq)
  have hI : ¬ (60000 : Int) < (s.size : Int) := by omega
  obtain ⟨X, hX⟩ : ∃ X : ByteArray, (⟨kw.toArray⟩ : ByteArray) = X := ⟨_, rfl⟩
  have HX := Lib.hid hX
  have HXL : Hid (X.data.toList = kw) := by show _ = _; rw [← hX]
  have HQ := Lib.hid hq
  have hq0 : 0 < q := by rw [← hq]; simp
  have hq0I : (0 : Int) < (q : Int) := by omega
  clear hw1 hX hs hps hq
  go_enter Tryz.func13, Tryz.ntmps13
  go_upto_region 2 with fail
  rw [show (w.alloc (.cells #[.int .i64 0, .int .i64 0, .int .i64 0, .int .i64 0, .int .i64 0, .slice none 0 0] 26)).alloc (.cells #[.int .i64 0, .int .i64 0, .int .i64 0, .int .i64 0, .int .i64 0, .slice none 0 0] 26) = w1 from HW1.out]
  go_wp2_with fail
  refine CC.out.mono ?_
  rintro e w2 ⟨g, cp, rfl, hg1, hg2, hc, hb⟩
  obtain ⟨w3, hw3⟩ : ∃ W, w2.alloc (.cells #[.int .i64 0, .int .i64 0, .int .i64 0, .int .i64 0, .int .i64 0, .slice none 0 0] 26) = W := ⟨_, rfl⟩
  have B23 : Below w2.heap.size w2 w3 := by rw [← hw3]; exact (Below.refl _ _).alloc (Nat.le_refl _) _
  have B2 := HB1.out.trans (hb.mono HB1.out.size)
  have HB3 : Hid (Below w.heap.size w w3) := B2.trans (B23.mono B2.size)
  have K3 : Hid (Bk w3 w.heap.size 26 #[.int .i64 0, .int .i64 0, .int .i64 0, .int .i64 0, .int .i64 0, .slice none 0 0]) := (K1.out.later hb).later B23
  have N3 : Hid (Bk w3 (w.heap.size + 1) 26 #[.int .i64 0, .int .i64 0, .int .i64 0, .int .i64 0, .int .i64 0, .slice none 0 0]) := (N1.out.later hb).later B23
  have R3 : Hid (Bk w3 w2.heap.size 26 #[.int .i64 0, .int .i64 0, .int .i64 0, .int .i64 0, .int .i64 0, .slice none 0 0]) := by show Bk _ _ _ _; rw [← hw3]; exact Bk.new _ _ _
  have HWD2 : WordsAt w2 g (kw :: ps) := ⟨hg2, hc⟩
  have HWD : Hid (WordsAt w3 g (kw :: ps)) := HWD2.later B23
  have HW3 := Lib.hid hw3
  have hgl : w.heap.size + 1 < g := Nat.lt_of_lt_of_le N1.out.lt hg1
  clear hg1 hc hb B23 B2 HWD2 hw3 CC
  go_upto_region 6 with fail
  rw [show w2.alloc (.cells #[.int .i64 0, .int .i64 0, .int .i64 0, .int .i64 0, .int .i64 0, .slice none 0 0] 26) = w3 from HW3.out]
  have k0 : w3.cell? ⟨g, 0, none⟩ = some (.string X) := by rw [HWD.out.2 0 kw rfl, ← HX.out]; rfl
  have eq1 : (X.toList == [114, 97, 116, 105, 111]) = true := by rw [Lib.toList_data, HXL.out]; exact beq_iff_eq.2 h1
  have ne2 : (X.toList == [109, 97, 112]) = false := by rw [Lib.toList_data, HXL.out]; exact beq_eq_false_iff_ne.2 (fun e => by rw [h1] at e; exact absurd e (by decide))
  have q4 : ((q : Int) == 4) = false := by rw [beq_eq_false_iff_ne]; omega
  clear h1 h4
  obtain ⟨⟨e0, e1, e2, e3, e4, e5⟩, h0, h1, h2, h3, h4, h5⟩ := bk6' K3.out
  obtain ⟨⟨n0, n1, n2, n3, n4, n5⟩, _⟩ := bk6' N3.out
  go_wp2
  refine bodyPost_ret (v := .tuple #[.agg #[.int .i64 0, .int .i64 0, .int .i64 0, .int .i64 0, .int .i64 0, .slice none 0 0], .int .i64 7]) (by simp [results, Tryz.results13, go_sem, e0, e1, e2, e3, e4, e5, h0, h1, h2, h3, h4, h5]) rfl ?_
  exact rulNil (below6 HB3.out (Nat.le_refl _) _ _ _ _ _ _) rfl

set_option maxRecDepth 100000 in
set_option maxHeartbeats 8000000 in
theorem refPR_mapN (s : ByteArray) (w : World) (hs : s.size ≤ 60000) (kw : List UInt8) (ps : List (List UInt8)) (q : Nat) (hps : pcs 32 s.data.toList = kw :: ps) (hq : (kw :: ps).length = q) (h1 : kw = mapL) (h4 : q < 4) :
    Calls Tryz.prog 13 #[.string s] w (RulRes w (rul0, 7)) := by
  obtain ⟨w1, hw1⟩ : ∃ W, (w.alloc (.cells #[.int .i64 0, .int .i64 0, .int .i64 0, .int .i64 0, .int .i64 0, .slice none 0 0] 26)).alloc (.cells #[.int .i64 0, .int .i64 0, .int .i64 0, .int .i64 0, .int .i64 0, .slice none 0 0] 26) = W := ⟨_, rfl⟩
  have HB1 : Hid (Below w.heap.size w w1) := by show Below _ _ _; rw [← hw1]; exact below2 _ _ _
  have K1 : Hid (Bk w1 w.heap.size 26 #[.int .i64 0, .int .i64 0, .int .i64 0, .int .i64 0, .int .i64 0, .slice none 0 0]) := by show Bk _ _ _ _; rw [← hw1]; exact (Bk.new _ _ _).alloc _
  have N1 : Hid (Bk w1 (w.heap.size + 1) 26 #[.int .i64 0, .int .i64 0, .int .i64 0, .int .i64 0, .int .i64 0, .slice none 0 0]) := by show Bk _ _ _ _; rw [← hw1]; simpa using Bk.new (w.alloc (.cells #[.int .i64 0, .int .i64 0, .int .i64 0, .int .i64 0, .int .i64 0, .slice none 0 0] 26)) 26 #[.int .i64 0, .int .i64 0, .int .i64 0, .int .i64 0, .int .i64 0, .slice none 0 0]
  have HW1 := Lib.hid hw1
  have CC := Lib.hid (cut_form s 32 32 rfl w1 (by omega) (kw :: ps) q hps hq)
  have hI : ¬ (60000 : Int) < (s.size : Int) := by omega
  obtain ⟨X, hX⟩ : ∃ X : ByteArray, (⟨kw.toArray⟩ : ByteArray) = X := ⟨_, rfl⟩
  have HX := Lib.hid hX
  have HXL : Hid (X.data.toList = kw) := by show _ = _; rw [← hX]
  have HQ := Lib.hid hq
  have hq0 : 0 < q := by rw [← hq]; simp
  have hq0I : (0 : Int) < (q : Int) := by omega
  clear hw1 hX hs hps hq
  go_enter Tryz.func13, Tryz.ntmps13
  go_upto_region 2 with fail
  rw [show (w.alloc (.cells #[.int .i64 0, .int .i64 0, .int .i64 0, .int .i64 0, .int .i64 0, .slice none 0 0] 26)).alloc (.cells #[.int .i64 0, .int .i64 0, .int .i64 0, .int .i64 0, .int .i64 0, .slice none 0 0] 26) = w1 from HW1.out]
  go_wp2_with fail
  refine CC.out.mono ?_
  rintro e w2 ⟨g, cp, rfl, hg1, hg2, hc, hb⟩
  obtain ⟨w3, hw3⟩ : ∃ W, w2.alloc (.cells #[.int .i64 0, .int .i64 0, .int .i64 0, .int .i64 0, .int .i64 0, .slice none 0 0] 26) = W := ⟨_, rfl⟩
  have B23 : Below w2.heap.size w2 w3 := by rw [← hw3]; exact (Below.refl _ _).alloc (Nat.le_refl _) _
  have B2 := HB1.out.trans (hb.mono HB1.out.size)
  have HB3 : Hid (Below w.heap.size w w3) := B2.trans (B23.mono B2.size)
  have K3 : Hid (Bk w3 w.heap.size 26 #[.int .i64 0, .int .i64 0, .int .i64 0, .int .i64 0, .int .i64 0, .slice none 0 0]) := (K1.out.later hb).later B23
  have N3 : Hid (Bk w3 (w.heap.size + 1) 26 #[.int .i64 0, .int .i64 0, .int .i64 0, .int .i64 0, .int .i64 0, .slice none 0 0]) := (N1.out.later hb).later B23
  have R3 : Hid (Bk w3 w2.heap.size 26 #[.int .i64 0, .int .i64 0, .int .i64 0, .int .i64 0, .int .i64 0, .slice none 0 0]) := by show Bk _ _ _ _; rw [← hw3]; exact Bk.new _ _ _
  have HWD2 : WordsAt w2 g (kw :: ps) := ⟨hg2, hc⟩
  have HWD : Hid (WordsAt w3 g (kw :: ps)) := HWD2.later B23
  have HW3 := Lib.hid hw3
  have hgl : w.heap.size + 1 < g := Nat.lt_of_lt_of_le N1.out.lt hg1
  clear hg1 hc hb B23 B2 HWD2 hw3 CC
  go_upto_region 6 with fail
  rw [show w2.alloc (.cells #[.int .i64 0, .int .i64 0, .int .i64 0, .int .i64 0, .int .i64 0, .slice none 0 0] 26) = w3 from HW3.out]
  have k0 : w3.cell? ⟨g, 0, none⟩ = some (.string X) := by rw [HWD.out.2 0 kw rfl, ← HX.out]; rfl
  have ne1 : (X.toList == [114, 97, 116, 105, 111]) = false := by rw [Lib.toList_data, HXL.out]; exact beq_eq_false_iff_ne.2 (fun e => by rw [h1] at e; exact absurd e (by decide))
  have eq2 : (X.toList == [109, 97, 112]) = true := by rw [Lib.toList_data, HXL.out]; exact beq_iff_eq.2 h1
  have q4 : ¬ (4 : Int) ≤ (q : Int) := by omega
  clear h1 h4
  obtain ⟨⟨e0, e1, e2, e3, e4, e5⟩, h0, h1, h2, h3, h4, h5⟩ := bk6' K3.out
  obtain ⟨⟨n0, n1, n2, n3, n4, n5⟩, _⟩ := bk6' N3.out
  go_wp2
  refine bodyPost_ret (v := .tuple #[.agg #[.int .i64 0, .int .i64 0, .int .i64 0, .int .i64 0, .int .i64 0, .slice none 0 0], .int .i64 7]) (by simp [results, Tryz.results13, go_sem, e0, e1, e2, e3, e4, e5, h0, h1, h2, h3, h4, h5]) rfl ?_
  exact rulNil (below6 HB3.out (Nat.le_refl _) _ _ _ _ _ _) rfl
end Go.Proofs.YtjjflbnopphciacGreatDoor

namespace Go.Proofs.YtjjflbnopphciacGreatDoor
open Go.RowKit

theorem joinTail_app (sep : List UInt8) (a b : List (List UInt8)) : Lib.joinTail sep (a ++ b) = Lib.joinTail sep a ++ Lib.joinTail sep b := by
  induction a with
  | nil => simp [Lib.joinTail]
  | cons x t ih => simp [Lib.joinTail]
theorem join_app (c : List UInt8) (a b : List (List UInt8)) : Lib.join (c :: (a ++ b)) [32] = Lib.join (c :: a) [32] ++ Lib.joinTail [32] b := by
  rw [Lib.join_cons, Lib.join_cons, joinTail_app, List.append_assoc]
theorem join_take_len (c : List UInt8) (m : List (List UInt8)) (t : Nat) : (Lib.join (c :: m.take t) [32]).length ≤ (Lib.join (c :: m) [32]).length := by
  have h := join_app c (m.take t) (m.drop t)
  rw [List.take_append_drop] at h
  rw [h, List.length_append]
  omega
theorem join_take_snoc (c : List UInt8) (m : List (List UInt8)) (t : Nat) (p : List UInt8) (h : m[t]? = some p) : Lib.join (c :: m.take (t + 1)) [32] = Lib.join (c :: m.take t) [32] ++ 32 :: p := by
  rw [List.take_add_one, h]
  rw [show (some p).toList = [p] from rfl, join_app]
  simp [Lib.joinTail]
theorem join_rest_len {l : List UInt8} {kw a b c : List UInt8} {m : List (List UInt8)} (h : pcs 32 l = kw :: a :: b :: c :: m) : (Lib.join (c :: m) [32]).length ≤ l.length := by
  have hj := join_pcs 32 l
  rw [h] at hj
  have e : Lib.join (kw :: a :: b :: c :: m) [32] = kw ++ 32 :: (a ++ 32 :: (b ++ 32 :: Lib.join (c :: m) [32])) := by simp [Lib.join_cons, Lib.joinTail]
  rw [e] at hj
  have := congrArg List.length hj
  simp only [List.length_append, List.length_cons] at this
  omega
/-- The answer for a map. -/
def mapFin (Z : ByteArray) (o1 o2 : Option Int) : Rul × Int := rulFin (mapV (mapS Z) true o1 o2)
theorem rulFin_bad (r : Rul × Int) (h : r.2 ≠ 0) : rulFin r = (rul0, r.2) := by
  unfold rulFin
  have e : ∀ C, firstNZ [r.2, C] = r.2 := fun C => by simp [firstNZ, h]
  rw [e, if_neg h]
theorem rulFin_good (r : Rul) (C : Int) (h : rulC r.k r.d r.nu r.q r.s r.ns.length r.ns = C) : rulFin (r, 0) = if C = 0 then (r, 0) else (rul0, C) := by
  unfold rulFin
  dsimp only
  rw [h]
  have e : firstNZ [0, C] = C := by by_cases hc : C = 0 <;> simp [firstNZ, hc]
  rw [e]
theorem bkfar6 {w : World} {g b : Nat} {t : TypeId} {cs : Array Value} (h : Bk w g t cs) (hb : g ≠ b) (v0 v1 v2 v3 v4 v5 : Value) : Bk ((((((w.setCell ⟨b, 0, none⟩ v0).setCell ⟨b, 1, none⟩ v1).setCell ⟨b, 2, none⟩ v2).setCell ⟨b, 3, none⟩ v3).setCell ⟨b, 4, none⟩ v4).setCell ⟨b, 5, none⟩ v5) g t cs :=
  (((((h.far _ hb _).far _ hb _).far _ hb _).far _ hb _).far _ hb _).far _ hb _
theorem rulFin_err (E : Int) (h : E ≠ 0) : rulFin (rul0, E) = (rul0, E) := by
  unfold rulFin
  dsimp only
  have e : ∀ C, firstNZ [E, C] = E := fun C => by simp [firstNZ, h]
  rw [e, if_neg h]

set_option maxRecDepth 100000 in
set_option maxHeartbeats 8000000 in
theorem refPR_map (s : ByteArray) (w : World) (hs : s.size ≤ 60000) (kw a b c : List UInt8) (m : List (List UInt8)) (q : Nat) (hps : pcs 32 s.data.toList = kw :: a :: b :: c :: m) (hq : (kw :: a :: b :: c :: m).length = q) (h1 : kw = mapL) :
    Calls Tryz.prog 13 #[.string s] w (RulRes w (mapFin ⟨(Lib.join (c :: m) [32]).toArray⟩ (numU a 4) (numU b 13))) := by
  have hz : s.data.toList.length = s.size := by simp
  have hrest := join_rest_len hps
  have hsum := pcs_sum 32 s.data.toList
  rw [hps] at hsum
  have hal := hsum a (by simp)
  have hbl := hsum b (by simp)
  have hml : ∀ p ∈ m, p.length ≤ 60000 := fun p hp => by have := hsum p (by simp [hp]); omega
  have HML := Lib.hid hml
  have hZl : (Lib.join (c :: m) [32]).length ≤ 60000 := by omega
  have hcl : (Lib.join (c :: m.take 0) [32]).length ≤ 60000 := Nat.le_trans (join_take_len c m 0) hZl
  obtain ⟨XA, hXA⟩ : ∃ X : ByteArray, (⟨a.toArray⟩ : ByteArray) = X := ⟨_, rfl⟩
  obtain ⟨XB, hXB⟩ : ∃ X : ByteArray, (⟨b.toArray⟩ : ByteArray) = X := ⟨_, rfl⟩
  obtain ⟨XC, hXC⟩ : ∃ X : ByteArray, (⟨c.toArray⟩ : ByteArray) = X := ⟨_, rfl⟩
  obtain ⟨Z, hZ⟩ : ∃ X : ByteArray, (⟨(Lib.join (c :: m) [32]).toArray⟩ : ByteArray) = X := ⟨_, rfl⟩
  have CA := Lib.hid (fun W => refNum4_any XA 4 W (by rw [← hXA, bytes_size]; omega) (by omega) (by omega))
  have CB := Lib.hid (fun W => refNum4_any XB 13 W (by rw [← hXB, bytes_size]; omega) (by omega) (by omega))
  have hZz : Z.size ≤ 60000 := by rw [← hZ, bytes_size]; exact hZl
  have CM := Lib.hid (fun W => refParseMap_any Z W (by omega))
  obtain ⟨o1, ho1⟩ : ∃ o, numU a 4 = o := ⟨_, rfl⟩
  obtain ⟨o2, ho2⟩ : ∃ o, numU b 13 = o := ⟨_, rfl⟩
  rw [show XA.data.toList = a by rw [← hXA], ho1] at CA
  rw [show XB.data.toList = b by rw [← hXB], ho2] at CB
  rw [hZ, ho1, ho2]
  have HXA := Lib.hid hXA
  have HXB := Lib.hid hXB
  have HXC := Lib.hid hXC
  have HZ := Lib.hid hZ
  have HZL := Lib.hid hZl
  have HQB : Hid (q ≤ 60002) := by
    show _ ≤ _
    have := pcs_len_le 32 s.data.toList
    rw [hps, hq, hz] at this
    omega
  clear hXA hXB hXC hZ ho1 ho2 hrest hsum hal hbl hml hcl hz hZl
  obtain ⟨w1, hw1⟩ : ∃ W, (w.alloc (.cells #[.int .i64 0, .int .i64 0, .int .i64 0, .int .i64 0, .int .i64 0, .slice none 0 0] 26)).alloc (.cells #[.int .i64 0, .int .i64 0, .int .i64 0, .int .i64 0, .int .i64 0, .slice none 0 0] 26) = W := ⟨_, rfl⟩
  have HB1 : Hid (Below w.heap.size w w1) := by show Below _ _ _; rw [← hw1]; exact below2 _ _ _
  have K1 : Hid (Bk w1 w.heap.size 26 #[.int .i64 0, .int .i64 0, .int .i64 0, .int .i64 0, .int .i64 0, .slice none 0 0]) := by show Bk _ _ _ _; rw [← hw1]; exact (Bk.new _ _ _).alloc _
  have N1 : Hid (Bk w1 (w.heap.size + 1) 26 #[.int .i64 0, .int .i64 0, .int .i64 0, .int .i64 0, .int .i64 0, .slice none 0 0]) := by show Bk _ _ _ _; rw [← hw1]; simpa using Bk.new (w.alloc (.cells #[.int .i64 0, .int .i64 0, .int .i64 0, .int .i64 0, .int .i64 0, .slice none 0 0] 26)) 26 #[.int .i64 0, .int .i64 0, .int .i64 0, .int .i64 0, .int .i64 0, .slice none 0 0]
  have HW1 := Lib.hid hw1
  have CC := Lib.hid (cut_form s 32 32 rfl w1 (by omega) (kw :: a :: b :: c :: m) q hps hq)
  have hI : ¬ (60000 : Int) < (s.size : Int) := by omega
  obtain ⟨X, hX⟩ : ∃ X : ByteArray, (⟨kw.toArray⟩ : ByteArray) = X := ⟨_, rfl⟩
  have HX := Lib.hid hX
  have HXL : Hid (X.data.toList = kw) := by show _ = _; rw [← hX]
  have HQ := Lib.hid hq
  have hq0 : 0 < q := by rw [← hq]; simp
  have hq0I : (0 : Int) < (q : Int) := by omega
  clear hw1 hX hs hps hq
  go_enter Tryz.func13, Tryz.ntmps13
  go_upto_region 2 with fail
  rw [show (w.alloc (.cells #[.int .i64 0, .int .i64 0, .int .i64 0, .int .i64 0, .int .i64 0, .slice none 0 0] 26)).alloc (.cells #[.int .i64 0, .int .i64 0, .int .i64 0, .int .i64 0, .int .i64 0, .slice none 0 0] 26) = w1 from HW1.out]
  go_wp2_with fail
  refine CC.out.mono ?_
  rintro e w2 ⟨g, cp, rfl, hg1, hg2, hc, hb⟩
  obtain ⟨w3, hw3⟩ : ∃ W, w2.alloc (.cells #[.int .i64 0, .int .i64 0, .int .i64 0, .int .i64 0, .int .i64 0, .slice none 0 0] 26) = W := ⟨_, rfl⟩
  have B23 : Below w2.heap.size w2 w3 := by rw [← hw3]; exact (Below.refl _ _).alloc (Nat.le_refl _) _
  have B2 := HB1.out.trans (hb.mono HB1.out.size)
  have HB3 : Hid (Below w.heap.size w w3) := B2.trans (B23.mono B2.size)
  have K3 : Hid (Bk w3 w.heap.size 26 #[.int .i64 0, .int .i64 0, .int .i64 0, .int .i64 0, .int .i64 0, .slice none 0 0]) := (K1.out.later hb).later B23
  have N3 : Hid (Bk w3 (w.heap.size + 1) 26 #[.int .i64 0, .int .i64 0, .int .i64 0, .int .i64 0, .int .i64 0, .slice none 0 0]) := (N1.out.later hb).later B23
  have R3 : Hid (Bk w3 w2.heap.size 26 #[.int .i64 0, .int .i64 0, .int .i64 0, .int .i64 0, .int .i64 0, .slice none 0 0]) := by show Bk _ _ _ _; rw [← hw3]; exact Bk.new _ _ _
  have HWD2 : WordsAt w2 g (kw :: a :: b :: c :: m) := ⟨hg2, hc⟩
  have HWD : Hid (WordsAt w3 g (kw :: a :: b :: c :: m)) := HWD2.later B23
  have HW3 := Lib.hid hw3
  have hgl : w.heap.size + 1 < g := Nat.lt_of_lt_of_le N1.out.lt hg1
  clear hg1 hc hb B23 B2 HWD2 hw3 CC
  go_upto_region 6 with fail
  rw [show w2.alloc (.cells #[.int .i64 0, .int .i64 0, .int .i64 0, .int .i64 0, .int .i64 0, .slice none 0 0] 26) = w3 from HW3.out]
  have k0 : w3.cell? ⟨g, 0, none⟩ = some (.string X) := by rw [HWD.out.2 0 kw rfl, ← HX.out]; rfl
  have ne1 : (X.toList == [114, 97, 116, 105, 111]) = false := by rw [Lib.toList_data, HXL.out]; exact beq_eq_false_iff_ne.2 (fun e => by rw [h1] at e; exact absurd e (by decide))
  have eq2 : (X.toList == [109, 97, 112]) = true := by rw [Lib.toList_data, HXL.out]; exact beq_iff_eq.2 h1
  have hq4 : 4 ≤ q := by have := HQ.out; simp only [List.length_cons] at this; omega
  have q4 : (4 : Int) ≤ (q : Int) := by omega
  have q1 : (1 : Int) < (q : Int) := by omega
  have q2 : (2 : Int) < (q : Int) := by omega
  have q3 : (3 : Int) < (q : Int) := by omega
  clear h1
  have k1 : w3.cell? ⟨g, 1, none⟩ = some (.string XA) := by rw [HWD.out.2 1 a rfl, ← HXA.out]; rfl
  go_wp2_with fail
  refine (CA.out _).mono ?_
  rintro e w4 ⟨⟨v1, rfl, hv1⟩, hb⟩
  have HB4 : Hid (Below w.heap.size w w4) := HB3.out.trans (hb.mono HB3.out.size)
  have K4 : Hid (Bk w4 w.heap.size 26 #[.int .i64 0, .int .i64 0, .int .i64 0, .int .i64 0, .int .i64 0, .slice none 0 0]) := K3.out.later hb
  have N4 : Hid (Bk w4 (w.heap.size + 1) 26 #[.int .i64 0, .int .i64 0, .int .i64 0, .int .i64 0, .int .i64 0, .slice none 0 0]) := N3.out.later hb
  have R4 : Hid (Bk w4 w2.heap.size 26 #[.int .i64 0, .int .i64 0, .int .i64 0, .int .i64 0, .int .i64 0, .slice none 0 0]) := R3.out.later hb
  have HWD4 : Hid (WordsAt w4 g (kw :: a :: b :: c :: m)) := HWD.out.later hb
  have Hv1 := Lib.hid hv1
  clear hb hv1 k1
  clear k0
  have k2 : w4.cell? ⟨g, 2, none⟩ = some (.string XB) := by rw [HWD4.out.2 2 b rfl, ← HXB.out]; rfl
  go_wp2_with fail
  refine (CB.out _).mono ?_
  rintro e w5 ⟨⟨v2, rfl, hv2⟩, hb⟩
  have HB5 : Hid (Below w.heap.size w w5) := HB4.out.trans (hb.mono HB4.out.size)
  have K5 : Hid (Bk w5 w.heap.size 26 #[.int .i64 0, .int .i64 0, .int .i64 0, .int .i64 0, .int .i64 0, .slice none 0 0]) := K4.out.later hb
  have N5 : Hid (Bk w5 (w.heap.size + 1) 26 #[.int .i64 0, .int .i64 0, .int .i64 0, .int .i64 0, .int .i64 0, .slice none 0 0]) := N4.out.later hb
  have R5 : Hid (Bk w5 w2.heap.size 26 #[.int .i64 0, .int .i64 0, .int .i64 0, .int .i64 0, .int .i64 0, .slice none 0 0]) := R4.out.later hb
  have HWD5 : Hid (WordsAt w5 g (kw :: a :: b :: c :: m)) := HWD4.out.later hb
  have Hv2 := Lib.hid hv2
  clear hb hv2 k2
  cases o1 with
  | none =>
    have HR : Hid (mapFin Z none o2 = (rul0, 7)) := by show _ = _; unfold mapFin; cases o2 <;> exact rulFin_err 7 (by omega)
    obtain ⟨⟨e0, e1, e2, e3, e4, e5⟩, h0, h1, h2, h3, h4, h5⟩ := bk6' K5.out
    obtain ⟨⟨n0, n1, n2, n3, n4, n5⟩, _⟩ := bk6' N5.out
    go_wp2
    refine bodyPost_ret (v := .tuple #[.agg #[.int .i64 0, .int .i64 0, .int .i64 0, .int .i64 0, .int .i64 0, .slice none 0 0], .int .i64 7]) (by simp [results, Tryz.results13, go_sem, e0, e1, e2, e3, e4, e5, h0, h1, h2, h3, h4, h5]) rfl ?_
    exact rulNil (below6 HB5.out (Nat.le_refl _) _ _ _ _ _ _) HR.out
  | some x1 =>
    cases o2 with
    | none =>
      have HR : Hid (mapFin Z (some x1) none = (rul0, 7)) := rulFin_err 7 (by omega)
      obtain ⟨⟨e0, e1, e2, e3, e4, e5⟩, h0, h1, h2, h3, h4, h5⟩ := bk6' K5.out
      obtain ⟨⟨n0, n1, n2, n3, n4, n5⟩, _⟩ := bk6' N5.out
      go_wp2
      refine bodyPost_ret (v := .tuple #[.agg #[.int .i64 0, .int .i64 0, .int .i64 0, .int .i64 0, .int .i64 0, .slice none 0 0], .int .i64 7]) (by simp [results, Tryz.results13, go_sem, e0, e1, e2, e3, e4, e5, h0, h1, h2, h3, h4, h5]) rfl ?_
      exact rulNil (below6 HB5.out (Nat.le_refl _) _ _ _ _ _ _) HR.out
    | some x2 =>
      have g1 : v1 = x1 := Hv1.out rfl
      have g2 : v2 = x2 := Hv2.out rfl
      subst g1; subst g2
      have k3 : w5.cell? ⟨g, 3, none⟩ = some (.string XC) := by rw [HWD5.out.2 3 c rfl, ← HXC.out]; rfl
      have HXC2 : Hid (XC.data.toList = Lib.join (c :: m.take 0) [32]) := by show _ = _; rw [← HXC.out]; simp [Lib.join_cons, Lib.joinTail]
      go_wp2
      clear k3
      go_loop [15, 16] (fun sv i => ∃ (j t : Nat) (Y : ByteArray), Hid (j = t + 4) ∧ t ≤ m.length ∧ i = .int .i64 (j : Int) ∧ sv = .string Y ∧ Hid (Y.data.toList = Lib.join (c :: m.take t) [32])) (fun _ i => q - (intOf i).toNat)
      case atStart => exact ⟨4, 0, XC, rfl, Nat.zero_le _, rfl, rfl, HXC2.out⟩
      case round =>
        obtain ⟨j, t, Y, HJ, ht, rfl, rfl, HY⟩ := hrel
        have hqm : q = m.length + 4 := by have := HQ.out; simp only [List.length_cons] at this; omega
        by_cases hlt : t < m.length
        · obtain ⟨p, hp⟩ : ∃ p, m[t]? = some p := ⟨_, List.getElem?_eq_getElem hlt⟩
          obtain ⟨P, hP⟩ : ∃ P : ByteArray, (⟨p.toArray⟩ : ByteArray) = P := ⟨_, rfl⟩
          have hcj : w5.cell? ⟨g, j, none⟩ = some (.string P) := by rw [HJ.out, HWD5.out.2 (t + 4) p (by simpa using hp), ← hP]; rfl
          have hPz : P.size ≤ 60000 := by rw [← hP, bytes_size]; exact HML.out p (List.mem_of_getElem? hp)
          have hYz : Y.size ≤ 60000 := by
            have e : Y.size = Y.data.toList.length := by simp
            rw [e, HY.out]
            exact Nat.le_trans (join_take_len c m t) HZL.out
          have HN : Hid ((Y ++ (⟨#[32]⟩ : ByteArray) ++ P).data.toList = Lib.join (c :: m.take (t + 1)) [32]) := by
            show _ = _
            rw [join_take_snoc c m t p hp, ← HY.out, ← hP]
            simp
          have hjq : j < q := by have := HJ.out; omega
          have hltI : (j : Int) < (q : Int) := by omega
          have hj4 : (j : Int) ≤ 70000 ∨ True := .inr trivial
          have z1 : ¬ 9223372036854775807 < Y.size + 1 := by omega
          have z2 : ¬ 9223372036854775807 < Y.size + 1 + P.size := by omega
          have HLT := Lib.hid hlt
          have hqb : q ≤ 60005 := by
            have h1 := HQ.out
            have := HQB.out
            omega
          clear hp hP hj4
          go_wp2
          go_round
          case rel => exact ⟨j + 1, t + 1, _, by have := HJ.out; show j + 1 = t + 1 + 4; omega, HLT.out, by go_num, rfl, HN.out⟩
          case measure => simp [intOf]; omega
        · obtain rfl : t = m.length := by omega
          have hjq : j = q := by have := HJ.out; omega
          subst hjq
          have hYZ : Y = Z := by
            rw [baExt HY.out, ← HZ.out, List.take_length]
          subst hYZ
          clear hlt
          go_wp2_with fail
          refine (CM.out _).mono ?_
          rintro e w6 ⟨⟨A, cc, rfl, hrd, hnil, hfr⟩, hb⟩
          obtain ⟨⟨ns, E⟩, hr⟩ : ∃ r, mapS Y = r := ⟨_, rfl⟩
          rw [hr] at hrd hnil ⊢
          dsimp only at hrd hnil ⊢
          have HMS := Lib.hid hr
          have hnl : ns.length ≤ 60001 := by have := mapS_len Y; rw [hr] at this; exact this
          obtain ⟨mm, hm⟩ : ∃ m, ns.length = m := ⟨_, rfl⟩
          rw [hm] at hrd hnil hnl ⊢
          obtain ⟨w7, hw7⟩ : ∃ W, w6.alloc (.cells #[.slice A mm cc] 24) = W := ⟨_, rfl⟩
          have B57 : Below w5.heap.size w5 w7 := by rw [← hw7]; exact hb.alloc hb.size _
          have B67 : Below w6.heap.size w6 w7 := by rw [← hw7]; exact (Below.refl _ _).alloc (Nat.le_refl _) _
          have HB7 : Hid (Below w.heap.size w w7) := HB5.out.trans (B57.mono HB5.out.size)
          have K7 : Hid (Bk w7 w.heap.size 26 #[.int .i64 0, .int .i64 0, .int .i64 0, .int .i64 0, .int .i64 0, .slice none 0 0]) := K5.out.later B57
          have N7 : Hid (Bk w7 (w.heap.size + 1) 26 #[.int .i64 0, .int .i64 0, .int .i64 0, .int .i64 0, .int .i64 0, .slice none 0 0]) := N5.out.later B57
          have R7 : Hid (Bk w7 w2.heap.size 26 #[.int .i64 0, .int .i64 0, .int .i64 0, .int .i64 0, .int .i64 0, .slice none 0 0]) := R5.out.later B57
          have HRD := Lib.hid (hrd.below B67)
          have HNIL := Lib.hid hnil
          have HFR := Lib.hid hfr
          have HMM := Lib.hid hm
          have hl25 : w2.heap.size < w5.heap.size := R5.out.lt
          have m0 : w7.cell? ⟨w6.heap.size, 0, none⟩ = some (.slice A mm cc) := by rw [← hw7, (Bk.new w6 24 #[.slice A mm cc]).cell]; rfl
          have HW7 := Lib.hid hw7
          clear hb B57 B67 hw7 hrd hnil hfr hm hr
          go_upto_region 27 with fail
          rw [show w6.alloc (.cells #[.slice A mm cc] 24) = w7 from HW7.out]
          by_cases hE : E = 0
          · subst hE
            obtain ⟨C, hC⟩ : ∃ C, rulC 1 v1 0 0 v2 mm ns = C := ⟨_, rfl⟩
            have HF : Hid (mapFin Y (some v1) (some v2) = if C = 0 then (⟨1, v1, 0, 0, v2, ns⟩, 0) else (rul0, C)) := by
              show _ = _
              unfold mapFin mapV
              rw [HMS.out]
              exact rulFin_good ⟨1, v1, 0, 0, v2, ns⟩ C (by rw [← hC, ← HMM.out])
            obtain ⟨w8, hw8⟩ : ∃ W, ((((((w7.setCell ⟨w2.heap.size, 0, none⟩ (.int .i64 1)).setCell ⟨w2.heap.size, 1, none⟩ (.int .i64 v1)).setCell ⟨w2.heap.size, 2, none⟩ (.int .i64 0)).setCell ⟨w2.heap.size, 3, none⟩ (.int .i64 0)).setCell ⟨w2.heap.size, 4, none⟩ (.int .i64 v2)).setCell ⟨w2.heap.size, 5, none⟩ (.slice A mm cc)) = W := ⟨_, rfl⟩
            have hl02 : w.heap.size ≠ w2.heap.size := by omega
            have hl12 : w.heap.size + 1 ≠ w2.heap.size := by omega
            have HB8 : Hid (Below w.heap.size w w8) := by show Below _ _ _; rw [← hw8]; exact below6 HB7.out (by omega) _ _ _ _ _ _
            have K8 : Hid (Bk w8 w.heap.size 26 #[.int .i64 0, .int .i64 0, .int .i64 0, .int .i64 0, .int .i64 0, .slice none 0 0]) := by show Bk _ _ _ _; rw [← hw8]; exact bkfar6 K7.out hl02 _ _ _ _ _ _
            have N8 : Hid (Bk w8 (w.heap.size + 1) 26 #[.int .i64 0, .int .i64 0, .int .i64 0, .int .i64 0, .int .i64 0, .slice none 0 0]) := by show Bk _ _ _ _; rw [← hw8]; exact bkfar6 N7.out hl12 _ _ _ _ _ _
            have R8 : Hid (Bk w8 w2.heap.size 26 #[.int .i64 1, .int .i64 v1, .int .i64 0, .int .i64 0, .int .i64 v2, .slice A mm cc]) := by show Bk _ _ _ _; rw [← hw8]; exact (((((R7.out.set_ 0 _).set_ 1 _).set_ 2 _).set_ 3 _).set_ 4 _).set_ 5 _
            have HR8 : Hid (RdN w8 A mm ns) := by show RdN _ _ _ _; rw [← hw8]; exact rdn6 HRD.out (fun a e => by have := HFR.out a e; omega) _ _ _ _ _ _
            have CE := Lib.hid (refRulesErr_any 1 v1 0 0 v2 A mm cc ns w8 HR8.out.toP (by omega))
            rw [hC] at CE
            have HW8 := Lib.hid hw8
            obtain ⟨⟨r0, r1, r2, r3, r4, r5⟩, f0, f1, f2, f3, f4, f5⟩ := bk6' R7.out
            clear hw8 hC
            go_upto_region 31 with fail
            rw [show ((((((w7.setCell ⟨w2.heap.size, 0, none⟩ (.int .i64 1)).setCell ⟨w2.heap.size, 1, none⟩ (.int .i64 v1)).setCell ⟨w2.heap.size, 2, none⟩ (.int .i64 0)).setCell ⟨w2.heap.size, 3, none⟩ (.int .i64 0)).setCell ⟨w2.heap.size, 4, none⟩ (.int .i64 v2)).setCell ⟨w2.heap.size, 5, none⟩ (.slice A mm cc)) = w8 from HW8.out]
            clear r0 r1 r2 r3 r4 r5 f0 f1 f2 f3 f4 f5 m0
            obtain ⟨⟨r0, r1, r2, r3, r4, r5⟩, f0, f1, f2, f3, f4, f5⟩ := bk6' R8.out
            go_wp2_with fail
            refine CE.out.mono ?_
            rintro e w9 ⟨rfl, hb⟩
            have HB9 : Hid (Below w.heap.size w w9) := HB8.out.trans (hb.mono HB8.out.size)
            have K9 : Hid (Bk w9 w.heap.size 26 #[.int .i64 0, .int .i64 0, .int .i64 0, .int .i64 0, .int .i64 0, .slice none 0 0]) := K8.out.later hb
            have N9 : Hid (Bk w9 (w.heap.size + 1) 26 #[.int .i64 0, .int .i64 0, .int .i64 0, .int .i64 0, .int .i64 0, .slice none 0 0]) := N8.out.later hb
            have R9 : Hid (Bk w9 w2.heap.size 26 #[.int .i64 1, .int .i64 v1, .int .i64 0, .int .i64 0, .int .i64 v2, .slice A mm cc]) := R8.out.later hb
            have HR9 := Lib.hid (HR8.out.below hb)
            clear hb CE r0 r1 r2 r3 r4 r5 f0 f1 f2 f3 f4 f5
            by_cases hC0 : C = 0
            · have HF2 : Hid (mapFin Y (some v1) (some v2) = (⟨1, v1, 0, 0, v2, ns⟩, 0)) := HF.out.trans (if_pos hC0)
              subst hC0
              obtain ⟨⟨r0, r1, r2, r3, r4, r5⟩, _⟩ := bk6' R9.out
              obtain ⟨⟨e0, e1, e2, e3, e4, e5⟩, h0, h1, h2, h3, h4, h5⟩ := bk6' K9.out
              go_wp2
              refine bodyPost_ret (v := .tuple #[.agg #[.int .i64 1, .int .i64 v1, .int .i64 0, .int .i64 0, .int .i64 v2, .slice A mm cc], .int .i64 0]) (by simp [results, Tryz.results13, go_sem, e0, e1, e2, e3, e4, e5, h0, h1, h2, h3, h4, h5]) rfl ?_
              exact rulOk (below6 HB9.out (Nat.le_refl _) _ _ _ _ _ _) HF2.out HMM.out (rdn6 HR9.out (fun a e => by have := HFR.out a e; omega) _ _ _ _ _ _) HNIL.out (fun a e => by have := HFR.out a e; omega)
            · have HF2 : Hid (mapFin Y (some v1) (some v2) = (rul0, C)) := HF.out.trans (if_neg hC0)
              have hne : (C != 0) = true := by simpa using hC0
              clear hC0
              obtain ⟨⟨e0, e1, e2, e3, e4, e5⟩, h0, h1, h2, h3, h4, h5⟩ := bk6' K9.out
              obtain ⟨⟨n0, n1, n2, n3, n4, n5⟩, _⟩ := bk6' N9.out
              go_wp2
              refine bodyPost_ret (v := .tuple #[.agg #[.int .i64 0, .int .i64 0, .int .i64 0, .int .i64 0, .int .i64 0, .slice none 0 0], .int .i64 C]) (by simp [results, Tryz.results13, go_sem, e0, e1, e2, e3, e4, e5, h0, h1, h2, h3, h4, h5]) rfl ?_
              exact rulNil (below6 HB9.out (Nat.le_refl _) _ _ _ _ _ _) HF2.out
          · have HF2 : Hid (mapFin Y (some v1) (some v2) = (rul0, E)) := by
              show _ = _
              unfold mapFin mapV
              rw [HMS.out]
              exact rulFin_bad (⟨1, v1, 0, 0, v2, ns⟩, E) hE
            have hne : (E != 0) = true := by simpa using hE
            clear hE
            obtain ⟨⟨e0, e1, e2, e3, e4, e5⟩, h0, h1, h2, h3, h4, h5⟩ := bk6' K7.out
            obtain ⟨⟨n0, n1, n2, n3, n4, n5⟩, _⟩ := bk6' N7.out
            go_wp2
            refine bodyPost_ret (v := .tuple #[.agg #[.int .i64 0, .int .i64 0, .int .i64 0, .int .i64 0, .int .i64 0, .slice none 0 0], .int .i64 E]) (by simp [results, Tryz.results13, go_sem, e0, e1, e2, e3, e4, e5, h0, h1, h2, h3, h4, h5]) rfl ?_
            exact rulNil (below6 HB7.out (Nat.le_refl _) _ _ _ _ _ _) HF2.out
end Go.Proofs.YtjjflbnopphciacGreatDoor

