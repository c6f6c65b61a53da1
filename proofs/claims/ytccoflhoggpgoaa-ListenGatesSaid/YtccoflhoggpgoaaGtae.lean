import Derived.Test.YtccoflhoggpgoaaGtad
import Derived.Test.YtccoflhoggpgoaaGtaa
import Derived.Test.YtccoflhoggpgoaaRows
import Derived.ProofKit
import Derived.OpenShut
import Derived.Deep.Slices
namespace Go.Proofs.Ytccoflhoggpgoaa
open Go.RowKit

open Go.Shelf

theorem maxB (a b : Int) : ∀ ts t W, (Builtin.max_ ts t #[.int .i64 a, .int .i64 b]).run Try.prog W = .ok (.int .i64 (max a b)) W := by
  intro ts t W
  simp [Builtin.max_, Builtin.max2, go_sem]
  first
  | done
  | (by_cases h : a < b
     · rw [Int.max_eq_right (by omega)]; simp_all; (try (intro _; omega))
     · rw [Int.max_eq_left (by omega)]; simp_all; (try (intro _; omega)))
theorem own_rd {w : World} {base : Nat} {A : Option Addr} {n c : Nat} {xs : List Int} (h : w.ownsRow base 3 1 (.slice A n c) n (xs.map (Value.int .i64))) : RdI w A n xs := by
  obtain ⟨A', c', e, _, hr⟩ := rd_of_own h
  injection e with e1 e2 e3
  rw [e1]; exact hr
theorem own_far {w : World} {base : Nat} {A : Option Addr} {n c : Nat} {xs : List Int} (h : w.ownsRow base 3 1 (.slice A n c) n (xs.map (Value.int .i64))) {p : Addr} (hp : p.block < base) (v : Value) : RdI (w.setCell p v) A n xs :=
  own_rd (own_same h (fun g hg => heap_setCell_other w p g v (by have := (h.lt g hg).1; omega)))
theorem idx_at {ids : List Nat} {j : Nat} (h : j < ids.length) : (ids.map fun (i : Nat) => (i : Int)).getD j 0 = ((ids.getD j 0 : Nat) : Int) := map_getD_cast ids j h

set_option maxRecDepth 100000 in
set_option maxHeartbeats 8000000 in
theorem gates_1 (L H G P : Int) (B : Option Addr) (n c : Nat) (more : Int) (w : World) (hn : 60 < n) :
    Calls Try.prog 6 #[.agg #[.int .i64 L, .int .i64 H, .int .i64 G, .int .i64 P], .slice B n c, .int .i64 more] w fun e w' => e = .returned (.bool true) ∧ Below w.heap.size w w' := by
  have hnI : (60 : Int) < (n : Int) := by omega
  have R0 := Lib.hid (OneB.start w 42 #[.int .i64 L, .int .i64 H, .int .i64 G, .int .i64 P])
  go_enter Try.func6, Try.ntmps6
  go_wp2_with fail
  refine (awake_any _).mono ?_
  rintro e w1 ⟨rfl, hb1⟩
  have R1 := Lib.hid (OneB.later hb1 R0.out)
  clear hb1 R0
  go_wp2
  go_ret
  exact ⟨rfl, R1.out.b⟩
set_option maxRecDepth 100000 in
set_option maxHeartbeats 8000000 in
theorem gates_2 (L H G P : Int) (B : Option Addr) (n c : Nat) (more : Int) (w : World) (hn : ¬ 60 < n) (M : Int) (hM : M ≠ 0) (CM : Hid (∀ w, Calls Try.prog 33 #[.agg #[.int .i64 L, .int .i64 H, .int .i64 G, .int .i64 P]] w fun e w' => e = .returned (.int .i64 M) ∧ Below w.heap.size w w')) :
    Calls Try.prog 6 #[.agg #[.int .i64 L, .int .i64 H, .int .i64 G, .int .i64 P], .slice B n c, .int .i64 more] w fun e w' => e = .returned (.bool true) ∧ Below w.heap.size w w' := by
  have hnI : ¬ (60 : Int) < (n : Int) := by omega
  have hM1 : (M == 0) = false := by rw [beq_eq_false_iff_ne]; exact hM
  have hM2 : (M != 0) = true := by rw [bne_iff_ne]; exact hM
  clear hM
  have R0 := Lib.hid (OneB.start w 42 #[.int .i64 L, .int .i64 H, .int .i64 G, .int .i64 P])
  go_enter Try.func6, Try.ntmps6
  go_wp2_with fail
  refine (awake_any _).mono ?_
  rintro e w1 ⟨rfl, hb1⟩
  have R1 := Lib.hid (OneB.later hb1 R0.out)
  clear hb1 R0
  obtain ⟨c0, c1, c2, c3⟩ := four R1.out.k
  go_wp2_with fail
  clear c0 c1 c2 c3
  refine (CM.out _).mono ?_
  rintro e w2 ⟨rfl, hb⟩
  have R2 := Lib.hid (OneB.later hb R1.out)
  clear hb R1
  go_wp2
  go_ret
  exact ⟨rfl, R2.out.b⟩
set_option maxRecDepth 100000 in
set_option maxHeartbeats 8000000 in
theorem gates_3 (L H G P : Int) (B : Option Addr) (n c : Nat) (more : Int) (w : World) (hn : ¬ 60 < n) (CM : Hid (∀ w, Calls Try.prog 33 #[.agg #[.int .i64 L, .int .i64 H, .int .i64 G, .int .i64 P]] w fun e w' => e = .returned (.int .i64 0) ∧ Below w.heap.size w w')) (S : Int) (hS : S ≠ 0) (CS : Hid (∀ W, Below w.heap.size w W → Calls Try.prog 35 #[.slice B n c] W fun e w' => e = .returned (.int .i64 S) ∧ W = w')) :
    Calls Try.prog 6 #[.agg #[.int .i64 L, .int .i64 H, .int .i64 G, .int .i64 P], .slice B n c, .int .i64 more] w fun e w' => e = .returned (.bool true) ∧ Below w.heap.size w w' := by
  have hnI : ¬ (60 : Int) < (n : Int) := by omega
  have hM1 : (S == 0) = false := by rw [beq_eq_false_iff_ne]; exact hS
  have hM2 : (S != 0) = true := by rw [bne_iff_ne]; exact hS
  clear hS
  have R0 := Lib.hid (OneB.start w 42 #[.int .i64 L, .int .i64 H, .int .i64 G, .int .i64 P])
  go_enter Try.func6, Try.ntmps6
  go_wp2_with fail
  refine (awake_any _).mono ?_
  rintro e w1 ⟨rfl, hb1⟩
  have R1 := Lib.hid (OneB.later hb1 R0.out)
  clear hb1 R0
  obtain ⟨c0, c1, c2, c3⟩ := four R1.out.k
  go_wp2_with fail
  clear c0 c1 c2 c3
  refine (CM.out _).mono ?_
  rintro e w2 ⟨rfl, hb⟩
  have R2 := Lib.hid (OneB.later hb R1.out)
  clear hb R1
  go_wp2_with fail
  refine (CS.out _ R2.out.b).mono ?_
  rintro e w' ⟨rfl, rfl⟩
  go_wp2
  go_ret
  exact ⟨rfl, R2.out.b⟩
set_option maxRecDepth 100000 in
set_option maxHeartbeats 8000000 in
theorem gates_4 (L H G P : Int) (B : Option Addr) (n c : Nat) (more : Int) (w : World) (hn : ¬ 60 < n) (CM : Hid (∀ w, Calls Try.prog 33 #[.agg #[.int .i64 L, .int .i64 H, .int .i64 G, .int .i64 P]] w fun e w' => e = .returned (.int .i64 0) ∧ Below w.heap.size w w')) (CS : Hid (∀ W, Below w.heap.size w W → Calls Try.prog 35 #[.slice B n c] W fun e w' => e = .returned (.int .i64 0) ∧ W = w')) (hG : 0 ≤ G ∧ G ≤ 1073676289) (CW : Hid (∀ w, Calls Try.prog 28 #[.int .i64 more, .int .i64 0, .int .i64 (1073676289 - G)] w fun e w' => e = .returned (.bool false) ∧ w = w')) :
    Calls Try.prog 6 #[.agg #[.int .i64 L, .int .i64 H, .int .i64 G, .int .i64 P], .slice B n c, .int .i64 more] w fun e w' => e = .returned (.bool true) ∧ Below w.heap.size w w' := by
  have hnI : ¬ (60 : Int) < (n : Int) := by omega
  have hwG : IntKind.i64.wrap (1073676289 - G) = 1073676289 - G := IntWalk.i64_in _ (by omega)
  have R0 := Lib.hid (OneB.start w 42 #[.int .i64 L, .int .i64 H, .int .i64 G, .int .i64 P])
  go_enter Try.func6, Try.ntmps6
  go_wp2_with fail
  refine (awake_any _).mono ?_
  rintro e w1 ⟨rfl, hb1⟩
  have R1 := Lib.hid (OneB.later hb1 R0.out)
  clear hb1 R0
  obtain ⟨c0, c1, c2, c3⟩ := four R1.out.k
  go_wp2_with fail
  clear c0 c1 c2 c3
  refine (CM.out _).mono ?_
  rintro e w2 ⟨rfl, hb⟩
  have R2 := Lib.hid (OneB.later hb R1.out)
  clear hb R1
  go_wp2_with fail
  refine (CS.out _ R2.out.b).mono ?_
  rintro e w' ⟨rfl, rfl⟩
  obtain ⟨c0, c1, c2, c3⟩ := four R2.out.k
  go_wp2_with fail
  refine (CW.out _).mono ?_
  rintro e w' ⟨rfl, rfl⟩
  go_wp2
  go_ret
  exact ⟨rfl, R2.out.b⟩
set_option maxRecDepth 100000 in
set_option maxHeartbeats 8000000 in
theorem gates_f (N D : Int) (l h K : Nat) (G P : Int) (B : Option Addr) (n c : Nat) (xs : List Int) (more : Int) (w : World) (hr : RdI w B n xs) (hnn : B = none → n = 0 ∧ c = 0) (hn : ¬ 60 < n)
    (hl : 1 ≤ l ∧ l ≤ 50) (hh : 1 ≤ h ∧ h ≤ l) (hG : 0 ≤ G ∧ G ≤ 1073676289) (hP : 0 ≤ P ∧ P ≤ 100) (hmo : 0 ≤ more ∧ more ≤ 1073676289 - G) (hsm : small xs)
    (ga gs gf : List Int) (ids : List Nat) (hga : ga.length = K) (hgs : gs.length ≤ 60) (hgf : gf.length ≤ 60) (hid : ids.length ≤ 60)
    (HK : Hid (∀ k, k < K ↔ k * h + l ≤ n)) (HKn : Hid (K ≤ n)) (HFS : Hid (∀ x ∈ gf, x ∈ gs)) (HLS : Hid (∀ i ∈ ids, (i : Int) ∈ gs ∧ i < K))
    (CM : Hid (∀ w, Calls Try.prog 33 #[.agg #[.int .i64 l, .int .i64 h, .int .i64 (G), .int .i64 (P)]] w fun e w' => e = .returned (.int .i64 0) ∧ Below w.heap.size w w'))
    (CS : Hid (∀ W, Below w.heap.size w W → Calls Try.prog 35 #[.slice B n c] W fun e w' => e = .returned (.int .i64 0) ∧ W = w'))
    (CW : Hid (∀ w, Calls Try.prog 28 #[.int .i64 more, .int .i64 0, .int .i64 (1073676289 - G)] w fun e w' => e = .returned (.bool true) ∧ w = w'))
    (CGa : Hid (∀ A d W, RdI W A n xs → n ≤ d → Calls Try.prog 30 #[.agg #[.int .i64 l, .int .i64 h, .int .i64 (0), .int .i64 (0)], .slice A n d] W (OwnRes W 0 ga)))
    (CGs : Hid (∀ A d W, RdI W A n xs → n ≤ d → Calls Try.prog 30 #[.agg #[.int .i64 l, .int .i64 h, .int .i64 (G), .int .i64 (0)], .slice A n d] W (OwnRes W 0 gs)))
    (CGf : Hid (∀ A d W, RdI W A n xs → n ≤ d → Calls Try.prog 30 #[.agg #[.int .i64 l, .int .i64 h, .int .i64 (G + more), .int .i64 (0)], .slice A n d] W (OwnRes W 0 gf)))
    (CGl : Hid (∀ A d W, RdI W A n xs → n ≤ d → Calls Try.prog 30 #[.agg #[.int .i64 l, .int .i64 h, .int .i64 (G), .int .i64 (P)], .slice A n d] W (OwnRes W 0 (ids.map fun (i : Nat) => (i : Int)))))
    (CLx : Hid (∀ A d W, RdI W A n xs → n ≤ d → Calls Try.prog 32 #[.agg #[.int .i64 l, .int .i64 h, .int .i64 (G), .int .i64 (P)], .slice A n d] W fun e w' => e = .returned (.tuple #[.agg #[.int .i64 (N), .int .i64 (D)], .int .i64 0]) ∧ Below W.heap.size W w'))
    (CLo : Hid (∀ A d W, RdI W A n (xs.map fun x => -x) → n ≤ d → Calls Try.prog 32 #[.agg #[.int .i64 l, .int .i64 h, .int .i64 (G), .int .i64 (P)], .slice A n d] W fun e w' => e = .returned (.tuple #[.agg #[.int .i64 (N), .int .i64 (D)], .int .i64 0]) ∧ Below W.heap.size W w'))
    (hN : 0 ≤ N ∧ N ≤ 4611686018427387904) (hD : 0 < D ∧ D ≤ 4611686018427387904) (hids : 0 < ids.length) (HLW : Hid (lowB N D = true))
    (HLO : Hid (∀ lo, (∀ i ∈ ids, lo ≤ sqS ((xs.drop (i * h)).take l)) → lo * D ≤ N * l)) (HHI : Hid (∀ hi, (∀ i ∈ ids, sqS ((xs.drop (i * h)).take l) ≤ hi) → N * l ≤ hi * D)) :
    Calls Try.prog 6 #[.agg #[.int .i64 l, .int .i64 h, .int .i64 (G), .int .i64 (P)], .slice B n c, .int .i64 more] w fun e w' => e = .returned (.bool true) ∧ Below w.heap.size w w' := by
  obtain ⟨i0, hi0, hza, hzb, hzc⟩ := info_parts intInfo'
  have HR := Lib.hid hr
  have HNN := Lib.hid hnn
  have hln := hr.1
  have hnI : ¬ (60 : Int) < (n : Int) := by omega
  have hwG : IntKind.i64.wrap (1073676289 - G) = 1073676289 - G := IntWalk.i64_in _ (by omega)
  have hwM : IntKind.i64.wrap (G + more) = G + more := IntWalk.i64_in _ (by omega)
  clear hr hnn
  have R0 := Lib.hid (OneB.start w 42 #[.int .i64 l, .int .i64 h, .int .i64 (G), .int .i64 (P)])
  go_enter Try.func6, Try.ntmps6
  go_wp2_with fail
  refine (awake_any _).mono ?_
  rintro e w1 ⟨rfl, hb1⟩
  have R1 := Lib.hid (OneB.later hb1 R0.out)
  clear hb1 R0
  obtain ⟨c0, c1, c2, c3⟩ := four R1.out.k
  go_wp2_with fail
  clear c0 c1 c2 c3
  refine (CM.out _).mono ?_
  rintro e w2 ⟨rfl, hb⟩
  have R2 := Lib.hid (OneB.later hb R1.out)
  clear hb R1
  go_wp2_with fail
  refine (CS.out _ R2.out.b).mono ?_
  rintro e w' ⟨rfl, rfl⟩
  obtain ⟨c0, c1, c2, c3⟩ := four R2.out.k
  go_wp2_with fail
  refine (CW.out _).mono ?_
  rintro e w' ⟨rfl, rfl⟩
  clear CM CS CW
  go_wp2
  clear c0 c1 c2 c3
  have hgs7 := R2.out.k.lt
  have K70 := Lib.hid (Bk.new w2 42 #[.int .i64 l, .int .i64 h, .int .i64 (0), .int .i64 (0)])
  have RA := Lib.hid (OneB.alloc R2.out (.cells #[.int .i64 l, .int .i64 h, .int .i64 (0), .int .i64 (0)] 42))
  obtain ⟨g7, hg7e⟩ : ∃ g, w2.heap.size = g := ⟨_, rfl⟩
  obtain ⟨wA, hwA⟩ : ∃ W, w2.alloc (.cells #[.int .i64 l, .int .i64 h, .int .i64 (0), .int .i64 (0)] 42) = W := ⟨_, rfl⟩
  rw [hwA] at K70 RA ⊢
  rw [hg7e] at K70 hgs7 ⊢
  have hg7s : w.heap.size < g7 := hgs7
  have hg7 : w.heap.size ≤ g7 := Nat.le_of_lt hgs7
  clear hwA hg7e hgs7 R2
  have HB1 := Lib.hid (RA.out.b)
  have K31 := Lib.hid (RA.out.k)
  have K71 := Lib.hid (K70.out)
  clear RA K70
  obtain ⟨m0, m1, m2, m3⟩ := four K31.out
  go_loop [8, 9] (fun b a => ∃ k s : Nat, k ≤ K ∧ Hid (s = k * h) ∧ b = .int .i64 k ∧ a = .int .i64 s ∧ s ≤ 10000) (fun _ a => n + 1 - (intOf a).toNat)
  case atStart => exact ⟨0, 0, Nat.zero_le _, by show _ = _; omega, rfl, rfl, by omega⟩
  case round =>
    obtain ⟨k, s, hk, HS, rfl, rfl, hs4⟩ := hrel
    have hKn := HKn.out
    have w1 : IntKind.i64.wrap ((s : Int) + l) = ((s + l : Nat) : Int) := by rw [show (s : Int) + l = ((s + l : Nat) : Int) by omega]; exact IntWalk.i64_in _ (by omega)
    have w2 : IntKind.i64.wrap ((s : Int) + h) = ((s + h : Nat) : Int) := by rw [show (s : Int) + h = ((s + h : Nat) : Int) by omega]; exact IntWalk.i64_in _ (by omega)
    by_cases hlt : k < K
    case pos =>
      have hc := (HK.out k).1 hlt
      rw [← HS.out] at hc
      have hcI : ((s + l : Nat) : Int) ≤ (n : Int) := by omega
      have hsh : s + h ≤ 10000 := by omega
      have hsn : s ≤ n := by omega
      have HS2 : Hid (s + h = (k + 1) * h) := by show _ = _; rw [HS.out, Nat.add_mul, Nat.one_mul]
      obtain ⟨sL, hsL⟩ : ∃ t : Nat, s + l = t := ⟨_, rfl⟩
      rw [hsL] at w1 hc hcI
      obtain ⟨sH, hsH⟩ : ∃ t : Nat, s + h = t := ⟨_, rfl⟩
      rw [hsH] at w2 hsh HS2
      have HSH := Lib.hid hsH
      clear hsL hsH
      go_wp2
      go_round
      case rel => exact ⟨k + 1, sH, by omega, HS2, by go_num, rfl, hsh⟩
      case measure => have := HSH.out; simp [intOf]; omega
    obtain rfl : K = k := by omega
    have hc : ¬ K * h + l ≤ n := fun hc => hlt ((HK.out K).2 hc)
    rw [← HS.out] at hc
    have hcI : ¬ ((s + l : Nat) : Int) ≤ (n : Int) := by omega
    obtain ⟨sL, hsL⟩ : ∃ t : Nat, s + l = t := ⟨_, rfl⟩
    rw [hsL] at w1 hcI
    clear hsL hc w2 hlt
    have hBB : Below wA.heap.size wA wA := Below.refl _ _
    have HC : Hid (∀ V, Below wA.heap.size wA V → (V.cell? ⟨g7, 0, none⟩ = some (.int .i64 l) ∧ V.cell? ⟨g7, 1, none⟩ = some (.int .i64 h) ∧ V.cell? ⟨g7, 2, none⟩ = some (.int .i64 (0)) ∧ V.cell? ⟨g7, 3, none⟩ = some (.int .i64 (0)))) := fun V hb => four (K71.out.later hb)
    have CC : Hid (∀ V, Below wA.heap.size wA V → Calls Try.prog 31 #[.slice B n c] V (OwnS V xs)) := fun V hb => copyInts_any B n c xs V HNN.out ((HR.out.below HB1.out).below hb) (by omega)
    have hsz := K71.out.lt
    go_wp2
    first | (go_region_held3 (fun w' : World => (w'.cell? ⟨g7, 0, none⟩ = some (.int .i64 l) ∧ w'.cell? ⟨g7, 1, none⟩ = some (.int .i64 h) ∧ w'.cell? ⟨g7, 2, none⟩ = some (.int .i64 (0)) ∧ w'.cell? ⟨g7, 3, none⟩ = some (.int .i64 (0))) ∧ Below wA.heap.size wA w') (((refine (fun hI => ⟨HC.out _ hI, hI⟩) ?_; repeat (first | with_reducible assumption | (go_split_ands; with_reducible assumption) | with_reducible refine belowA ?_ _ | with_reducible refine Below.drew ?_ | (with_reducible refine Below.setCell ?_ ?_ _) | exact Nat.le_refl _ | (show _ ≤ _; simp; omega) | (simp; omega) | omega)))) (first
      | (go_at_call 31; ((with_reducible refine (CC.out _ ?_).mono ?_)); (focus (first | assumption | (go_split_ands; assumption))); rintro e wa ⟨⟨va, rfl, hoa⟩, hba⟩; obtain ⟨Aa, ca, rfl, hca, hra⟩ := rd_of_own hoa; clear hoa; rw [hln] at hra hca ⊢; have hba' : Below wA.heap.size wA wa := Below.trans (by first | assumption | (go_split_ands; assumption)) (hba.mono (Below.size (by first | assumption | (go_split_ands; assumption)))); have sza := hba'.size; clear hba)
      | (go_at_call 30; ((with_reducible refine (CGa.out _ _ _ hra hca).mono ?_)); rintro e w1 ⟨⟨vb, rfl, hob⟩, hbb⟩; obtain ⟨A1, c1, rfl, hcb, hrb⟩ := rd_of_own hob; have hbb' : Below wA.heap.size wA w1 := Below.trans (by first | assumption | (go_split_ands; assumption)) (hbb.mono (Below.size (by first | assumption | (go_split_ands; assumption)))); clear hbb hca hra))) | fail
    have hbn := Lib.hid hbb'
    have hrn := Lib.hid hrb
    clear hbb' hba' hBB HC CC hrb hcb hob sza hsz
    have HB2 := Lib.hid (HB1.out.trans (hbn.out.mono HB1.out.size))
    have K32 := Lib.hid (K31.out.later hbn.out)
    have K72 := Lib.hid (K71.out.later hbn.out)
    clear HB1 K31 K71
    clear hbn hrn
    obtain ⟨m0, m1, m2, m3⟩ := four K32.out
    obtain ⟨n0, n1, n2, n3, f0, f1, f2, f3⟩ := bk4 K72.out
    go_wp2
    clear m0 m1 m2 m3 n0 n1 n2 n3 f0 f1 f2 f3
    have HB3 := Lib.hid (Below.setCell (p := ⟨g7, 2, none⟩) HB2.out hg7 (.int .i64 (G)))
    have K33 := Lib.hid (K32.out.far ⟨g7, 2, none⟩ (Nat.ne_of_lt hg7s) (.int .i64 (G)))
    have K73 : Hid (Bk (w1.setCell ⟨g7, 2, none⟩ (.int .i64 (G))) g7 42 #[.int .i64 l, .int .i64 h, .int .i64 (G), .int .i64 (0)]) := K72.out.set_ 2 _
    clear HB2 K32 K72
    obtain ⟨v1, hnw⟩ : ∃ W, w1.setCell ⟨g7, 2, none⟩ (.int .i64 (G)) = W := ⟨_, rfl⟩
    rw [hnw] at HB3 K33 K73 ⊢
    clear hnw
    have hBB : Below v1.heap.size v1 v1 := Below.refl _ _
    have HC : Hid (∀ V, Below v1.heap.size v1 V → (V.cell? ⟨g7, 0, none⟩ = some (.int .i64 l) ∧ V.cell? ⟨g7, 1, none⟩ = some (.int .i64 h) ∧ V.cell? ⟨g7, 2, none⟩ = some (.int .i64 (G)) ∧ V.cell? ⟨g7, 3, none⟩ = some (.int .i64 (0)))) := fun V hb => four (K73.out.later hb)
    have CC : Hid (∀ V, Below v1.heap.size v1 V → Calls Try.prog 31 #[.slice B n c] V (OwnS V xs)) := fun V hb => copyInts_any B n c xs V HNN.out ((HR.out.below HB3.out).below hb) (by omega)
    have hsz := K73.out.lt
    first | (go_region_held3 (fun w' : World => (w'.cell? ⟨g7, 0, none⟩ = some (.int .i64 l) ∧ w'.cell? ⟨g7, 1, none⟩ = some (.int .i64 h) ∧ w'.cell? ⟨g7, 2, none⟩ = some (.int .i64 (G)) ∧ w'.cell? ⟨g7, 3, none⟩ = some (.int .i64 (0))) ∧ Below v1.heap.size v1 w') (((refine (fun hI => ⟨HC.out _ hI, hI⟩) ?_; repeat (first | with_reducible assumption | (go_split_ands; with_reducible assumption) | with_reducible refine belowA ?_ _ | with_reducible refine Below.drew ?_ | (with_reducible refine Below.setCell ?_ ?_ _) | exact Nat.le_refl _ | (show _ ≤ _; simp; omega) | (simp; omega) | omega)))) (first
      | (go_at_call 31; ((with_reducible refine (CC.out _ ?_).mono ?_)); (focus (first | assumption | (go_split_ands; assumption))); rintro e wa ⟨⟨va, rfl, hoa⟩, hba⟩; obtain ⟨Aa, ca, rfl, hca, hra⟩ := rd_of_own hoa; clear hoa; rw [hln] at hra hca ⊢; have hba' : Below v1.heap.size v1 wa := Below.trans (by first | assumption | (go_split_ands; assumption)) (hba.mono (Below.size (by first | assumption | (go_split_ands; assumption)))); have sza := hba'.size; clear hba)
      | (go_at_call 30; ((with_reducible refine (CGs.out _ _ _ hra hca).mono ?_)); rintro e w2 ⟨⟨vb, rfl, hob⟩, hbb⟩; obtain ⟨A2, c2, rfl, hcb, hrb⟩ := rd_of_own hob; have hbb' : Below v1.heap.size v1 w2 := Below.trans (by first | assumption | (go_split_ands; assumption)) (hbb.mono (Below.size (by first | assumption | (go_split_ands; assumption)))); clear hbb hca hra))) | fail
    have hbn := Lib.hid hbb'
    have hrn := Lib.hid hrb
    have hon := Lib.hid hob
    have hgo : g7 < wa.heap.size := by omega
    clear hbb' hba' hBB HC CC hrb hcb hob sza hsz
    have HB4 := Lib.hid (HB3.out.trans (hbn.out.mono HB3.out.size))
    have K34 := Lib.hid (K33.out.later hbn.out)
    have K74 := Lib.hid (K73.out.later hbn.out)
    clear HB3 K33 K73
    clear hbn hrn
    obtain ⟨m0, m1, m2, m3⟩ := four K34.out
    obtain ⟨n0, n1, n2, n3, f0, f1, f2, f3⟩ := bk4 K74.out
    go_wp2
    clear m0 m1 m2 m3 n0 n1 n2 n3 f0 f1 f2 f3
    have HB5 := Lib.hid (Below.setCell (p := ⟨g7, 2, none⟩) HB4.out hg7 (.int .i64 (G + more)))
    have K35 := Lib.hid (K34.out.far ⟨g7, 2, none⟩ (Nat.ne_of_lt hg7s) (.int .i64 (G + more)))
    have K75 : Hid (Bk (w2.setCell ⟨g7, 2, none⟩ (.int .i64 (G + more))) g7 42 #[.int .i64 l, .int .i64 h, .int .i64 (G + more), .int .i64 (0)]) := K74.out.set_ 2 _
    have HS5 := Lib.hid (own_far hon.out (p := ⟨g7, 2, none⟩) hgo (.int .i64 (G + more)))
    clear hon hgo
    clear HB4 K34 K74
    obtain ⟨v2, hnw⟩ : ∃ W, w2.setCell ⟨g7, 2, none⟩ (.int .i64 (G + more)) = W := ⟨_, rfl⟩
    rw [hnw] at HB5 K35 K75 HS5 ⊢
    clear hnw
    have hBB : Below v2.heap.size v2 v2 := Below.refl _ _
    have HC : Hid (∀ V, Below v2.heap.size v2 V → (V.cell? ⟨g7, 0, none⟩ = some (.int .i64 l) ∧ V.cell? ⟨g7, 1, none⟩ = some (.int .i64 h) ∧ V.cell? ⟨g7, 2, none⟩ = some (.int .i64 (G + more)) ∧ V.cell? ⟨g7, 3, none⟩ = some (.int .i64 (0)))) := fun V hb => four (K75.out.later hb)
    have CC : Hid (∀ V, Below v2.heap.size v2 V → Calls Try.prog 31 #[.slice B n c] V (OwnS V xs)) := fun V hb => copyInts_any B n c xs V HNN.out ((HR.out.below HB5.out).below hb) (by omega)
    have hsz := K75.out.lt
    first | (go_region_held3 (fun w' : World => (w'.cell? ⟨g7, 0, none⟩ = some (.int .i64 l) ∧ w'.cell? ⟨g7, 1, none⟩ = some (.int .i64 h) ∧ w'.cell? ⟨g7, 2, none⟩ = some (.int .i64 (G + more)) ∧ w'.cell? ⟨g7, 3, none⟩ = some (.int .i64 (0))) ∧ Below v2.heap.size v2 w') (((refine (fun hI => ⟨HC.out _ hI, hI⟩) ?_; repeat (first | with_reducible assumption | (go_split_ands; with_reducible assumption) | with_reducible refine belowA ?_ _ | with_reducible refine Below.drew ?_ | (with_reducible refine Below.setCell ?_ ?_ _) | exact Nat.le_refl _ | (show _ ≤ _; simp; omega) | (simp; omega) | omega)))) (first
      | (go_at_call 31; ((with_reducible refine (CC.out _ ?_).mono ?_)); (focus (first | assumption | (go_split_ands; assumption))); rintro e wa ⟨⟨va, rfl, hoa⟩, hba⟩; obtain ⟨Aa, ca, rfl, hca, hra⟩ := rd_of_own hoa; clear hoa; rw [hln] at hra hca ⊢; have hba' : Below v2.heap.size v2 wa := Below.trans (by first | assumption | (go_split_ands; assumption)) (hba.mono (Below.size (by first | assumption | (go_split_ands; assumption)))); have sza := hba'.size; clear hba)
      | (go_at_call 30; ((with_reducible refine (CGf.out _ _ _ hra hca).mono ?_)); rintro e w3 ⟨⟨vb, rfl, hob⟩, hbb⟩; obtain ⟨A3, c3, rfl, hcb, hrb⟩ := rd_of_own hob; have hbb' : Below v2.heap.size v2 w3 := Below.trans (by first | assumption | (go_split_ands; assumption)) (hbb.mono (Below.size (by first | assumption | (go_split_ands; assumption)))); clear hbb hca hra))) | fail
    have hbn := Lib.hid hbb'
    have hrn := Lib.hid hrb
    clear hbb' hba' hBB HC CC hrb hcb hob sza hsz
    have HB6 := Lib.hid (HB5.out.trans (hbn.out.mono HB5.out.size))
    have K36 := Lib.hid (K35.out.later hbn.out)
    have K76 := Lib.hid (K75.out.later hbn.out)
    have HS6 := Lib.hid (HS5.out.below hbn.out)
    clear HB5 K35 K75 HS5
    have HF6 := Lib.hid (hrn.out)
    clear hbn hrn
    have hBB : Below w3.heap.size w3 w3 := Below.refl _ _
    have HC : Hid (∀ V, Below w3.heap.size w3 V → (V.cell? ⟨w.heap.size, 0, none⟩ = some (.int .i64 l) ∧ V.cell? ⟨w.heap.size, 1, none⟩ = some (.int .i64 h) ∧ V.cell? ⟨w.heap.size, 2, none⟩ = some (.int .i64 (G)) ∧ V.cell? ⟨w.heap.size, 3, none⟩ = some (.int .i64 (P)))) := fun V hb => four (K36.out.later hb)
    have CC : Hid (∀ V, Below w3.heap.size w3 V → Calls Try.prog 31 #[.slice B n c] V (OwnS V xs)) := fun V hb => copyInts_any B n c xs V HNN.out ((HR.out.below HB6.out).below hb) (by omega)
    have hsz := K76.out.lt
    go_wp2
    first | (go_region_held3 (fun w' : World => (w'.cell? ⟨w.heap.size, 0, none⟩ = some (.int .i64 l) ∧ w'.cell? ⟨w.heap.size, 1, none⟩ = some (.int .i64 h) ∧ w'.cell? ⟨w.heap.size, 2, none⟩ = some (.int .i64 (G)) ∧ w'.cell? ⟨w.heap.size, 3, none⟩ = some (.int .i64 (P))) ∧ Below w3.heap.size w3 w') (((refine (fun hI => ⟨HC.out _ hI, hI⟩) ?_; repeat (first | with_reducible assumption | (go_split_ands; with_reducible assumption) | with_reducible refine belowA ?_ _ | with_reducible refine Below.drew ?_ | (with_reducible refine Below.setCell ?_ ?_ _) | exact Nat.le_refl _ | (show _ ≤ _; simp; omega) | (simp; omega) | omega)))) (first
      | (go_at_call 31; ((with_reducible refine (CC.out _ ?_).mono ?_)); (focus (first | assumption | (go_split_ands; assumption))); rintro e wa ⟨⟨va, rfl, hoa⟩, hba⟩; obtain ⟨Aa, ca, rfl, hca, hra⟩ := rd_of_own hoa; clear hoa; rw [hln] at hra hca ⊢; have hba' : Below w3.heap.size w3 wa := Below.trans (by first | assumption | (go_split_ands; assumption)) (hba.mono (Below.size (by first | assumption | (go_split_ands; assumption)))); have sza := hba'.size; clear hba)
      | (go_at_call 30; ((with_reducible refine (CGl.out _ _ _ hra hca).mono ?_)); rintro e w4 ⟨⟨vb, rfl, hob⟩, hbb⟩; obtain ⟨A4, c4, rfl, hcb, hrb⟩ := rd_of_own hob; have hbb' : Below w3.heap.size w3 w4 := Below.trans (by first | assumption | (go_split_ands; assumption)) (hbb.mono (Below.size (by first | assumption | (go_split_ands; assumption)))); clear hbb hca hra))) | fail
    have hbn := Lib.hid hbb'
    have hrn := Lib.hid hrb
    clear hbb' hba' hBB HC CC hrb hcb hob sza hsz
    have HB7 := Lib.hid (HB6.out.trans (hbn.out.mono HB6.out.size))
    have K37 := Lib.hid (K36.out.later hbn.out)
    have K77 := Lib.hid (K76.out.later hbn.out)
    have HS7 := Lib.hid (HS6.out.below hbn.out)
    have HF7 := Lib.hid (HF6.out.below hbn.out)
    clear HB6 K36 K76 HS6 HF6
    have HL7 := Lib.hid (hrn.out)
    clear hbn hrn
    clear K77
    obtain ⟨fl, hfl⟩ : ∃ x, gf.length = x := ⟨_, rfl⟩
    have HFLN := Lib.hid hfl
    obtain ⟨sl, hsl⟩ : ∃ x, gs.length = x := ⟨_, rfl⟩
    have HSLN := Lib.hid hsl
    rw [hfl] at HF7 hgf ⊢
    rw [hsl] at HS7 hgs ⊢
    clear hfl hsl
    go_wp2
    go_loop [18] (fun i => ∃ j : Nat, j ≤ fl ∧ i = .int .i64 j) (fun i => fl - (intOf i).toNat)
    case atStart => exact ⟨0, Nat.zero_le _, rfl⟩
    case round =>
      obtain ⟨j, hj, rfl⟩ := hrel
      by_cases hjl : j < fl
      case pos =>
        have hjI : (j : Int) < (fl : Int) := by omega
        have hj0 : (0 : Int) ≤ (j : Int) := by omega
        obtain ⟨a3, e3, _, hc3⟩ := HF7.out.2 (by omega)
        have hcj := hc3 j hjl
        have hmem : gf.getD j 0 ∈ gs := HFS.out _ (by rw [List.getD_eq_getElem?_getD, List.getElem?_eq_getElem (by have := HFLN.out; omega), Option.getD_some]; exact List.getElem_mem _)
        have CH := Lib.hid (has_any A2 sl c2 gs (gf.getD j 0) w4 HS7.out (by omega))
        rw [decide_eq_true hmem] at CH
        obtain ⟨x, hx⟩ : ∃ x, gf.getD j 0 = x := ⟨_, rfl⟩
        rw [hx] at hcj CH
        subst e3
        clear hc3 hmem hx
        go_wp2_with fail
        refine CH.out.mono ?_
        rintro e w' ⟨rfl, rfl⟩
        go_wp2
        go_round
        case rel => exact ⟨j + 1, by omega, by go_num⟩
        case measure => simp [intOf]; omega
      obtain rfl : fl = j := by omega
      have hjI : ¬ (fl : Int) < (fl : Int) := by omega
      clear hjl hj
      have HOT : Hid (∀ j, j < n → (xs.map fun x => -x).take (j + 1) = (xs.map fun x => -x).take j ++ [-(xs.getD j 0)]) := fun j hj => by
        rw [List.take_add_one, List.getElem?_map, List.getElem?_eq_getElem (by omega), List.getD_eq_getElem?_getD, List.getElem?_eq_getElem (by omega)]; rfl
      have HOE : Hid ((xs.map fun x => -x).take n = xs.map fun x => -x) := List.take_of_length_le (by rw [List.length_map]; omega)
      have HXV := Lib.hid (fun j (hj : j < n) => getD_small hsm (k := j) (by omega))
      obtain ⟨ox, hox⟩ : ∃ o, (xs.map fun x => -x) = o := ⟨_, rfl⟩
      rw [hox] at HOT HOE CLo
      clear hox
      go_wp2
      go_loopw [19, 20] (fun v i wr => ∃ (j : Nat) (Av : Option Addr) (cv : Nat), v = .slice Av j cv ∧ j ≤ n ∧ i = .int .i64 j ∧ Hid (wr.ownsRow w4.heap.size 3 1 (.slice Av j cv) j ((ox.take j).map (Value.int .i64))) ∧ Hid (Below w4.heap.size w4 wr)) (fun _ i _ => n - (intOf i).toNat)
      case atStart => exact ⟨0, none, 0, rfl, Nat.zero_le _, rfl, Lib.hid (World.ownsRow_nil _ _ _ _), Lib.hid (Below.refl _ _)⟩
      case round =>
        obtain ⟨j, Av, cv, rfl, hj, rfl, HI, HBL⟩ := hrel
        by_cases hjl : j < n
        case pos =>
          have hjI : (j : Int) < (n : Int) := by omega
          have hj0 : (0 : Int) ≤ (j : Int) := by omega
          obtain ⟨bd, hbB, _, hcb⟩ := ((HR.out.below HB7.out).below HBL.out).2 (by omega)
          have hcj := hcb j hjl
          have hxv := HXV.out j hjl
          have HSN := Lib.hid (HOT.out j hjl)
          obtain ⟨x, hx⟩ : ∃ x, xs.getD j 0 = x := ⟨_, rfl⟩
          rw [hx] at hcj hxv HSN
          obtain ⟨y, hy⟩ : ∃ y, -x = y := ⟨_, rfl⟩
          have hneg : IntKind.i64.wrap (-x) = y := by rw [hy]; exact IntWalk.i64_in _ (by omega)
          rw [hy] at HSN
          subst hbB
          clear hcb hx hy
          go_wp2_with (at_builtin; refine wpList_append_own _ rfl (.tmp 146) (.tmp 152) 43 rfl w4.heap.size 3 i0 _ 1 8 Try.underlying43 hi0 hza hzb hzc rfl (by decide) _ _ _ rfl (HI.out.alloc _) ⟨wr.heap.size, 0, none⟩ 1 1 [.int .i64 y] rfl rfl (cell_one_new _ _ _) (by simp [Value.oneCell']) (by simp only [maxLen]; omega) (by omega) (by have := HBL.out.size; simp; omega) ?_)
          intro v' wp hown' hgrow _
          obtain ⟨g', cap', rfl⟩ := ownsRow_succ hown'
          have HB4 : Hid (Below w4.heap.size w4 wp) := ((HBL.out).alloc (HBL.out).size (.cells #[.int .i64 y] 3)).grown hgrow (by have := HBL.out.size; simp; omega) (fun z e => ((HI.out.alloc (.cells #[.int .i64 y] 3)).lt z e).1)
          have HI4 : Hid (wp.ownsRow w4.heap.size 3 1 (.slice (some ⟨g', 0, none⟩) (j + 1) cap') (j + 1) ((ox.take (j + 1)).map (Value.int .i64))) := by
            show World.ownsRow _ _ _ _ _ _ _
            rw [HSN.out, List.map_append, List.map_take]
            exact hown'
          clear hown' hgrow
          go_wp2
          go_roundw
          case rel => exact ⟨j + 1, _, cap', rfl, by omega, by go_num, HI4, HB4⟩
          case measure => simp only [intOf]; omega
        obtain rfl : n = j := by omega
        have hjI : ¬ (n : Int) < (n : Int) := by omega
        obtain ⟨_, cv', ecv, hncv, _⟩ := rd_of_own HI.out
        have hcv : n ≤ cv := by injection ecv with _ _ e3; omega
        rw [HOE.out] at HI
        have HOX := Lib.hid (own_rd HI.out)
        clear ecv hncv HI hjl hj
        have HB8 := Lib.hid (HB7.out.trans (HBL.out.mono HB7.out.size))
        have K38 := Lib.hid (K37.out.later HBL.out)
        have HS8 := Lib.hid (HS7.out.below HBL.out)
        have HF8 := Lib.hid (HF7.out.below HBL.out)
        have HL8 := Lib.hid (HL7.out.below HBL.out)
        clear HB7 K37 HS7 HF7 HL7
        clear HBL
        have HO8 := Lib.hid HOX.out
        clear HOX
        go_upto_region 29 with fail
        go_cut [21, 22] (fun s21 s22 wx => ∃ g6 : Nat, s21 = .pointer (some ⟨g6, 0, none⟩) ∧ s22 = .int .i64 0 ∧ Hid (Bk wx g6 23 #[.int .i64 (N), .int .i64 (D)]) ∧ Hid (Below wr.heap.size wr wx))
        case first =>
          have hBB : Below wr.heap.size wr wr := Below.refl _ _
          have HC : Hid (∀ V, Below wr.heap.size wr V → (V.cell? ⟨w.heap.size, 0, none⟩ = some (.int .i64 l) ∧ V.cell? ⟨w.heap.size, 1, none⟩ = some (.int .i64 h) ∧ V.cell? ⟨w.heap.size, 2, none⟩ = some (.int .i64 (G)) ∧ V.cell? ⟨w.heap.size, 3, none⟩ = some (.int .i64 (P)))) := fun V hb => four (K38.out.later hb)
          have CC : Hid (∀ V, Below wr.heap.size wr V → Calls Try.prog 31 #[.slice B n c] V (OwnS V xs)) := fun V hb => copyInts_any B n c xs V HNN.out ((HR.out.below HB8.out).below hb) (by omega)
          have hzn := fun W : World => bk2 (Bk.new W 23 #[.int .i64 0, .int .i64 0])
          first | (go_region_held3 (fun w' : World => (w'.cell? ⟨w.heap.size, 0, none⟩ = some (.int .i64 l) ∧ w'.cell? ⟨w.heap.size, 1, none⟩ = some (.int .i64 h) ∧ w'.cell? ⟨w.heap.size, 2, none⟩ = some (.int .i64 (G)) ∧ w'.cell? ⟨w.heap.size, 3, none⟩ = some (.int .i64 (P))) ∧ Below wr.heap.size wr w') (((refine (fun hI => ⟨HC.out _ hI, hI⟩) ?_; repeat (first | with_reducible assumption | (go_split_ands; with_reducible assumption) | with_reducible refine belowA ?_ _ | with_reducible refine Below.drew ?_ | (with_reducible refine Below.setCell ?_ ?_ _) | exact Nat.le_refl _ | (show _ ≤ _; simp; omega) | (simp; omega) | omega)))) (first
            | (go_at_call 31; ((with_reducible refine (CC.out _ ?_).mono ?_)); (focus (first | assumption | (go_split_ands; assumption))); rintro e wc ⟨⟨vc, rfl, hoc⟩, hbc⟩; obtain ⟨Ac, cc, rfl, hcc, hrc⟩ := rd_of_own hoc; clear hoc; rw [hln] at hrc hcc ⊢; have hbc' : Below wr.heap.size wr wc := Below.trans (by first | assumption | (go_split_ands; assumption)) (hbc.mono (Below.size (by first | assumption | (go_split_ands; assumption)))); have szc := hbc'.size; (first | (have kz0 := (Bk.new wr 23 #[.int .i64 0, .int .i64 0]).drew.later hbc; have kz : Bk wc wr.heap.size 23 #[.int .i64 0, .int .i64 0] := kz0; have kzz := bk2 kz; clear kz0) | skip); clear hbc)
            | (go_at_call 32; (first | with_reducible refine (CLx.out _ _ _ hrc hcc).mono ?_ | with_reducible refine (CLx.out _ _ _ (hrc.below (below1 _ _)) hcc).mono ?_); rintro e wd ⟨rfl, hbd⟩; have hbd' : Below wr.heap.size wr wd := Below.trans (by first | assumption | (go_split_ands; assumption)) (hbd.mono (Below.size (by first | assumption | (go_split_ands; assumption)))); have szd := hbd'.size; (first | (have kz := kz.later hbd; have kzz := bk2 kz) | (have kz : Bk wd wc.heap.size 23 #[.int .i64 0, .int .i64 0] := (Bk.new _ 23 #[.int .i64 0, .int .i64 0]).later hbd; have kzz := bk2 kz) | skip); clear hbd hcc hrc))) | fail
          all_goals
            clear hzn
            first
            | (have hb6 : Below wr.heap.size wr (wd.alloc (.cells #[.int .i64 (N), .int .i64 (D)] 23)) := belowA hbd' _
               have K6 : Hid (Bk (wd.alloc (.cells #[.int .i64 (N), .int .i64 (D)] 23)) wd.heap.size 23 #[.int .i64 (N), .int .i64 (D)]) := Bk.new wd 23 #[.int .i64 (N), .int .i64 (D)]
               obtain ⟨W6, hW6⟩ : ∃ W, wd.alloc (.cells #[.int .i64 (N), .int .i64 (D)] 23) = W := ⟨_, rfl⟩
               rw [hW6] at K6 hb6 ⊢
               have HB6 := Lib.hid hb6
               clear hW6 hb6
               go_wp2_with fail
               go_meet
               exact ⟨_, rfl, rfl, K6, HB6⟩)
            | (have hb6 : Below wr.heap.size wr ((wd.setCell ⟨wc.heap.size, 0, none⟩ (.int .i64 (N))).setCell ⟨wc.heap.size, 1, none⟩ (.int .i64 (D))) := Below.setCell (Below.setCell hbd' (by first | exact szc | exact Nat.le_refl _) _) (by first | exact szc | exact Nat.le_refl _) _
               have K6 : Hid (Bk ((wd.setCell ⟨wc.heap.size, 0, none⟩ (.int .i64 (N))).setCell ⟨wc.heap.size, 1, none⟩ (.int .i64 (D))) wc.heap.size 23 #[.int .i64 (N), .int .i64 (D)]) := ((kz.set_ 0 (.int .i64 (N))).set_ 1 (.int .i64 (D)))
               obtain ⟨W6, hW6⟩ : ∃ W, (wd.setCell ⟨wc.heap.size, 0, none⟩ (.int .i64 (N))).setCell ⟨wc.heap.size, 1, none⟩ (.int .i64 (D)) = W := ⟨_, rfl⟩
               clear kz kzz
               rw [hW6] at K6 hb6 ⊢
               have HB6 := Lib.hid hb6
               clear hW6 hb6
               go_wp2_with fail
               go_meet
               exact ⟨_, rfl, rfl, K6, HB6⟩)
            | (have hb6 : Below wr.heap.size wr ((wd.setCell ⟨wr.heap.size, 0, none⟩ (.int .i64 (N))).setCell ⟨wr.heap.size, 1, none⟩ (.int .i64 (D))) := Below.setCell (Below.setCell hbd' (by first | exact szc | exact Nat.le_refl _) _) (by first | exact szc | exact Nat.le_refl _) _
               have K6 : Hid (Bk ((wd.setCell ⟨wr.heap.size, 0, none⟩ (.int .i64 (N))).setCell ⟨wr.heap.size, 1, none⟩ (.int .i64 (D))) wr.heap.size 23 #[.int .i64 (N), .int .i64 (D)]) := ((kz.set_ 0 (.int .i64 (N))).set_ 1 (.int .i64 (D)))
               obtain ⟨W6, hW6⟩ : ∃ W, (wd.setCell ⟨wr.heap.size, 0, none⟩ (.int .i64 (N))).setCell ⟨wr.heap.size, 1, none⟩ (.int .i64 (D)) = W := ⟨_, rfl⟩
               clear kz kzz
               rw [hW6] at K6 hb6 ⊢
               have HB6 := Lib.hid hb6
               clear hW6 hb6
               go_wp2_with fail
               go_meet
               exact ⟨_, rfl, rfl, K6, HB6⟩)
        obtain ⟨g6, rfl, rfl, KA6, HBX⟩ := hcut
        obtain ⟨wx, hwx⟩ : ∃ W, wc = W := ⟨_, rfl⟩
        rw [hwx] at KA6 HBX ⊢
        clear hwx
        have HB9 := Lib.hid (HB8.out.trans (HBX.out.mono HB8.out.size))
        have K39 := Lib.hid (K38.out.later HBX.out)
        have HS9 := Lib.hid (HS8.out.below HBX.out)
        have HF9 := Lib.hid (HF8.out.below HBX.out)
        have HL9 := Lib.hid (HL8.out.below HBX.out)
        have HO9 := Lib.hid (HO8.out.below HBX.out)
        clear HB8 K38 HS8 HF8 HL8 HO8
        clear HBX
        have KA9 := Lib.hid KA6.out
        clear KA6
        obtain ⟨m0, m1, m2, m3⟩ := four K39.out
        go_wp2_with fail
        clear m0 m1 m2 m3
        refine (CLo.out _ _ _ HO9.out hcv).mono ?_
        rintro e wy ⟨rfl, hb⟩
        have HBY := Lib.hid hb
        clear hb
        clear HO9
        have HB10 := Lib.hid (HB9.out.trans (HBY.out.mono HB9.out.size))
        have K310 := Lib.hid (K39.out.later HBY.out)
        have HS10 := Lib.hid (HS9.out.below HBY.out)
        have HF10 := Lib.hid (HF9.out.below HBY.out)
        have HL10 := Lib.hid (HL9.out.below HBY.out)
        have KA10 := Lib.hid (KA9.out.later HBY.out)
        clear HB9 K39 HS9 HF9 HL9 KA9
        clear HBY
        obtain ⟨m0, m1, m2, m3⟩ := four K310.out
        obtain ⟨p0, p1⟩ := bkf2 KA10.out
        obtain ⟨q0, q1⟩ := bkf2 (KA10.out.later (below1 wy (.cells #[.int .i64 (N), .int .i64 (D)] 23)))
        have HBA := Lib.hid (below1 wy (.cells #[.int .i64 (N), .int .i64 (D)] 23))
        have hzI : ((ids.length : Int) == 0) = false := by rw [beq_eq_false_iff_ne]; omega
        have hzI2 : decide ((ids.length : Int) = 0) = false := decide_eq_false (by omega)
        go_wp2
        clear m0 m1 m2 m3 p0 p1 q0 q1
        obtain ⟨wq, hwq⟩ : ∃ W, wy.alloc (.cells #[.int .i64 (N), .int .i64 (D)] 23) = W := ⟨_, rfl⟩
        rw [hwq] at HBA ⊢
        clear hwq
        have HB11 := Lib.hid (HB10.out.trans (HBA.out.mono HB10.out.size))
        have K311 := Lib.hid (K310.out.later HBA.out)
        have HS11 := Lib.hid (HS10.out.below HBA.out)
        have HF11 := Lib.hid (HF10.out.below HBA.out)
        have HL11 := Lib.hid (HL10.out.below HBA.out)
        have KA11 := Lib.hid (KA10.out.later HBA.out)
        clear HB10 K310 HS10 HF10 HL10 KA10
        clear HBA
        have HLN : Hid (∀ t, t < ids.length → (ids.map fun (i : Nat) => (i : Int)).getD t 0 = ((ids.getD t 0 : Nat) : Int)) := fun t ht => idx_at ht
        have HIN : Hid (∀ t, t < ids.length → ids.getD t 0 ∈ ids) := fun t ht => by rw [List.getD_eq_getElem?_getD, List.getElem?_eq_getElem ht, Option.getD_some]; exact List.getElem_mem _
        have HJS : Hid (∀ s j, s + j < n → sqS ((xs.drop s).take (j + 1)) = sqS ((xs.drop s).take j) + xs.getD (s + j) 0 * xs.getD (s + j) 0) := fun s j hh => enA_step xs s j (by omega)
        have HJB : Hid (∀ s j, j ≤ 50 → 0 ≤ sqS ((xs.drop s).take j) ∧ sqS ((xs.drop s).take j) ≤ 53683814450) := fun s j hj => enJ_bd hsm s j hj
        have HALL : Hid (∀ a b : Int, (∀ t, t < ids.length → a ≤ sqS ((xs.drop (ids.getD t 0 * h)).take l) ∧ sqS ((xs.drop (ids.getD t 0 * h)).take l) ≤ b) → a * D ≤ N * l ∧ N * l ≤ b * D) := fun a b hab => by
          have hx : ∀ i ∈ ids, a ≤ sqS ((xs.drop (i * h)).take l) ∧ sqS ((xs.drop (i * h)).take l) ≤ b := fun i hi => by
            obtain ⟨t, ht, e⟩ := List.getElem_of_mem hi
            have := hab t ht
            rw [List.getD_eq_getElem?_getD, List.getElem?_eq_getElem ht, Option.getD_some, e] at this
            exact this
          exact ⟨HLO.out a (fun i hi => (hx i hi).1), HHI.out b (fun i hi => (hx i hi).2)⟩
        have HEV : Hid (∀ t, t < ids.length → 0 ≤ sqS ((xs.drop (ids.getD t 0 * h)).take l) ∧ sqS ((xs.drop (ids.getD t 0 * h)).take l) ≤ 53683814450) := fun t _ => enJ_bd hsm _ l hl.2
        obtain ⟨ev, hev⟩ : ∃ ev : Nat → Int, (fun t => sqS ((xs.drop (ids.getD t 0 * h)).take l)) = ev := ⟨_, rfl⟩
        have HEE : Hid (∀ t, sqS ((xs.drop (ids.getD t 0 * h)).take l) = ev t) := fun t => by rw [← hev]
        have HALL2 : Hid (∀ a b : Int, (∀ t, t < ids.length → a ≤ ev t ∧ ev t ≤ b) → a * D ≤ N * l ∧ N * l ≤ b * D) := fun a b hab => HALL.out a b (fun t ht => by rw [HEE.out]; exact hab t ht)
        have HEV2 : Hid (∀ t, t < ids.length → 0 ≤ ev t ∧ ev t ≤ 53683814450) := fun t ht => by rw [← HEE.out]; exact HEV.out t ht
        obtain ⟨gl, hgl⟩ : ∃ g, (ids.map fun (i : Nat) => (i : Int)) = g := ⟨_, rfl⟩
        have HL9 := Lib.hid HL11.out
        rw [List.length_map, hgl] at HL9
        rw [hgl] at HLN
        obtain ⟨m, hm⟩ : ∃ m, ids.length = m := ⟨_, rfl⟩
        rw [hm] at HLN HIN HALL2 HEV2 HL9 hids hid ⊢
        clear hev hgl hm HALL HEV
        clear HF11 HL11
        go_loopw [25, 26, 27] (fun lo hi i wr => ∃ (j : Nat) (a b : Int), lo = .int .i64 a ∧ hi = .int .i64 b ∧ j ≤ m ∧ i = .int .i64 j ∧ Hid ((j = 0 ∧ a = -1 ∧ b = -1) ∨ (0 < j ∧ 0 ≤ a ∧ a ≤ 53683814450 ∧ 0 ≤ b ∧ b ≤ 53683814450 ∧ ∀ t, t < j → a ≤ ev t ∧ ev t ≤ b)) ∧ Hid (∃ q, wr = wq.drewN q)) (fun _ _ i _ => m - (intOf i).toNat)
        case atStart => exact ⟨0, -1, -1, rfl, rfl, Nat.zero_le _, rfl, Or.inl ⟨rfl, rfl, rfl⟩, ⟨0, rfl⟩⟩
        case round =>
          obtain ⟨j, a, b, rfl, rfl, hj, rfl, HAB, HD⟩ := hrel
          obtain ⟨q, rfl⟩ := HD.out
          by_cases hjl : j < m
          case neg =>
            obtain rfl : m = j := by omega
            have hjI : ¬ (m : Int) < (m : Int) := by omega
            rcases HAB.out with ⟨hj0, _, _⟩ | ⟨_, ha0, ha1, hb0, hb1, hall⟩
            · exact absurd hj0 (by omega)
            obtain ⟨hc1, hc2⟩ := HALL2.out a b hall
            have C1 := Lib.hid (fun w => compareQ_any a l N D (by omega) (by omega) hN hD w)
            have C2 := Lib.hid (fun w => compareQ_any N D b l hN hD (by omega) (by omega) w)
            have hv1 := cmV_le (n := a) (d := l) (m := N) (k := D) hc1
            have hv2 := cmV_le (n := N) (d := D) (m := b) (k := l) hc2
            obtain ⟨v1, hv1e⟩ : ∃ v, cmV a l N D = v := ⟨_, rfl⟩
            obtain ⟨v2, hv2e⟩ : ∃ v, cmV N D b l = v := ⟨_, rfl⟩
            rw [hv1e] at C1 hv1
            rw [hv2e] at C2 hv2
            have CIL := Lib.hid (fun w => bIsLowest_any N D (by omega) (by omega) (by omega) w)
            rw [HLW.out] at CIL
            have HB9 := Lib.hid (blw_drewN HB11.out q)
            have K39 := Lib.hid (Bk.dn K311.out q)
            have KA9 := Lib.hid (Bk.dn KA11.out q)
            obtain ⟨wz, hwz⟩ : ∃ W, wq.drewN q = W := ⟨_, rfl⟩
            rw [hwz] at HB9 K39 KA9 ⊢
            clear hwz hc1 hc2 hv1e hv2e hall HAB HD
            obtain ⟨p0, p1⟩ := bkf2 KA9.out
            obtain ⟨m0, m1, m2, m3⟩ := four K39.out
            go_wp2_with fail
            clear p0 p1 m0 m1 m2 m3
            refine (CIL.out _).mono ?_
            rintro e wy2 ⟨rfl, hb⟩
            have HBy := Lib.hid (HB9.out.trans (hb.mono HB9.out.size))
            obtain ⟨p0, p1⟩ := bkf2 (KA9.out.later hb)
            obtain ⟨m0, m1, m2, m3⟩ := four (K39.out.later hb)
            clear hb
            go_wp2_with fail
            refine (C1.out _).mono ?_
            rintro e w' ⟨rfl, rfl⟩
            go_wp2_with fail
            refine (C2.out _).mono ?_
            rintro e w' ⟨rfl, rfl⟩
            go_wp2
            go_ret
            exact ⟨rfl, HBy.out⟩
          have hjI : (j : Int) < (m : Int) := by omega
          have hj0 : (0 : Int) ≤ (j : Int) := by omega
          obtain ⟨a4, e4, _, hc4⟩ := HL9.out.2 (by omega)
          have hcj := hc4 j hjl
          rw [HLN.out j hjl] at hcj
          obtain ⟨hmem, hik⟩ := HLS.out _ (HIN.out j hjl)
          have hfit := (HK.out _).1 hik
          have HEJ := Lib.hid (HEE.out j)
          have hevb := HEV2.out j hjl
          obtain ⟨i, hi⟩ : ∃ i, ids.getD j 0 = i := ⟨_, rfl⟩
          rw [hi] at hcj hmem hik hfit HEJ
          subst e4
          have CH := Lib.hid (fun q => has_any A2 sl c2 gs (i : Int) (wq.drewN q) (RdI.dn HS11.out q) (by omega))
          rw [decide_eq_true hmem] at CH
          have hwk : IntKind.i64.wrap ((K : Int) - 1) = (K : Int) - 1 := IntWalk.i64_in _ (by have := HKn.out; omega)
          have CWI := Lib.hid (fun w => within_any (i : Int) 0 ((K : Int) - 1) w)
          rw [show fromB 0 ((K : Int) - 1) [(i : Int)] = true by simp [fromB]; omega] at CWI
          obtain ⟨ih, hih⟩ : ∃ x, i * h = x := ⟨_, rfl⟩
          rw [hih] at hfit HEJ
          have w1 : IntKind.i64.wrap ((i : Int) * (h : Int)) = (ih : Int) := by rw [← Int.natCast_mul, hih]; exact IntWalk.i64_in _ (by omega)
          obtain ⟨ihl, hihl⟩ : ∃ x, ih + l = x := ⟨_, rfl⟩
          have w2 : IntKind.i64.wrap ((ih : Int) + (l : Int)) = (ihl : Int) := by rw [IntWalk.i64_in _ (by omega)]; omega
          have HIHL := Lib.hid hihl
          rw [hihl] at hfit
          have HB8 : Hid (Below w.heap.size w wq) := HB11
          have HXC : Hid (∀ r, r < n → ∃ bd, B = some bd ∧ wq.cell? (bd.add r) = some (.int .i64 (xs.getD r 0))) := fun r hr => by
            obtain ⟨bd, e, _, hc⟩ := (HR.out.below HB8.out).2 (by omega)
            exact ⟨bd, e, hc r hr⟩
          obtain ⟨m0, m1, m2, m3⟩ := four K311.out
          clear hc4 hmem hi hih hihl
          go_wp2_with fail
          refine (CH.out _).mono ?_
          rintro e w' ⟨rfl, rfl⟩
          go_wp2_with fail
          refine (CWI.out _).mono ?_
          rintro e w' ⟨rfl, rfl⟩
          go_wp2
          go_quiet (fail)
          go_wp2
          go_loopw [28, 29] (fun sm ii wr => ∃ t r : Nat, t ≤ l ∧ Hid (r = ih + t) ∧ r ≤ ihl ∧ ii = .int .i64 r ∧ sm = .int .i64 (sqS ((xs.drop ih).take t)) ∧ Hid (∃ q, wr = wq.drewN q)) (fun _ ii _ => n + 1 - (intOf ii).toNat)
          case atStart => exact ⟨0, ih, Nat.zero_le _, by show _ = _; omega, by have := HIHL.out; omega, rfl, by rw [enA_zero], ⟨_, by first | rfl | exact World.drewN_drewN _ _ _⟩⟩
          case round =>
            obtain ⟨t, r, ht, HRT, hr1, rfl, rfl, HD2⟩ := hrel
            obtain ⟨q2, rfl⟩ := HD2.out
            by_cases hrl : r < ihl
            case pos =>
              have hrI : (r : Int) < (ihl : Int) := by omega
              have hrn : r < n := by omega
              have hrnI : (r : Int) < (n : Int) := by omega
              have hr0 : (0 : Int) ≤ (r : Int) := by omega
              obtain ⟨bd, hbB, hcx⟩ := HXC.out r hrn
              have HSN := Lib.hid (HJS.out ih t (by have := HRT.out; omega))
              rw [← HRT.out] at HSN
              have hsb := HJB.out ih t (by omega)
              have hxv := HXV.out r hrn
              have hsq := sq_bd hxv
              obtain ⟨x, hx⟩ : ∃ x, xs.getD r 0 = x := ⟨_, rfl⟩
              rw [hx] at hcx HSN hsq
              obtain ⟨x2, hx2⟩ : ∃ y, x * x = y := ⟨_, rfl⟩
              have hw3 : IntKind.i64.wrap (x * x) = x2 := by rw [hx2]; exact IntWalk.i64_in _ (by omega)
              rw [hx2] at HSN hsq
              obtain ⟨s0, hs0⟩ : ∃ y, sqS ((xs.drop ih).take t) = y := ⟨_, rfl⟩
              rw [hs0] at HSN hsb ⊢
              have hw4 : IntKind.i64.wrap (s0 + x2) = s0 + x2 := IntWalk.i64_in _ (by omega)
              have htl : t + 1 ≤ l := by have := HRT.out; have := HIHL.out; omega
              have HRT2 : Hid (r + 1 = ih + (t + 1)) := by show _ = _; have := HRT.out; omega
              subst hbB
              clear hx hx2 hs0 hxv
              go_wp2
              go_quiet (fail)
              go_wp2
              go_quiet (fail)
              go_wp2
              go_roundw
              case rel => exact ⟨t + 1, r + 1, htl, HRT2, by omega, by go_num, by rw [HSN.out], ⟨_, by first | rfl | exact World.drewN_drewN _ _ _ | (rw [World.drewN_drewN]; exact World.drewN_drewN _ _ _)⟩⟩
              case measure => simp only [intOf]; omega
            have hrI : ¬ (r : Int) < (ihl : Int) := by omega
            have htl : t = l := by have := HRT.out; have := HIHL.out; omega
            subst htl
            rw [HEJ.out]
            obtain ⟨e1, he1⟩ : ∃ e, ev j = e := ⟨_, rfl⟩
            have HE1 := Lib.hid he1
            rw [he1] at hevb ⊢
            clear he1
            have hmx := maxB b e1
            rcases HAB.out with ⟨hjz, rfl, rfl⟩ | ⟨hjp, ha0, ha1, hb0, hb1, hall⟩
            · have HN : Hid (max (-1) e1 = e1) := by show _ = _; omega
              rw [HN.out] at hmx
              have HAB2 : Hid ((j + 1 = 0 ∧ e1 = -1 ∧ e1 = -1) ∨ (0 < j + 1 ∧ 0 ≤ e1 ∧ e1 ≤ 53683814450 ∧ 0 ≤ e1 ∧ e1 ≤ 53683814450 ∧ ∀ t, t < j + 1 → e1 ≤ ev t ∧ ev t ≤ e1)) := Or.inr ⟨by omega, by omega, by omega, by omega, by omega, fun t ht => by
                have : t = j := by omega
                subst this
                rw [HE1.out]; omega⟩
              clear hjz
              go_wp2
              go_quiet (fail)
              go_wp2
              go_roundw
              case rel => exact ⟨j + 1, e1, e1, rfl, rfl, by omega, by go_num, HAB2, ⟨_, by first | rfl | exact World.drewN_drewN _ _ _⟩⟩
              case measure => simp only [intOf]; omega
            · have hag : ¬ a < 0 := by omega
              have hmb : 0 ≤ max b e1 ∧ max b e1 ≤ 53683814450 ∧ b ≤ max b e1 ∧ e1 ≤ max b e1 := by omega
              obtain ⟨mx, hmxe⟩ : ∃ y, max b e1 = y := ⟨_, rfl⟩
              rw [hmxe] at hmx hmb
              clear hmxe
              by_cases hea : e1 < a
              · have HAB2 : Hid ((j + 1 = 0 ∧ e1 = -1 ∧ mx = -1) ∨ (0 < j + 1 ∧ 0 ≤ e1 ∧ e1 ≤ 53683814450 ∧ 0 ≤ mx ∧ mx ≤ 53683814450 ∧ ∀ t, t < j + 1 → e1 ≤ ev t ∧ ev t ≤ mx)) := Or.inr ⟨by omega, by omega, by omega, by omega, by omega, fun t ht => by
                  by_cases htj : t = j
                  · subst htj; rw [HE1.out]; omega
                  · have := hall t (by omega); omega⟩
                clear hall
                go_wp2
                go_quiet (fail)
                go_wp2
                go_roundw
                case rel => exact ⟨j + 1, e1, mx, rfl, rfl, by omega, by go_num, HAB2, ⟨_, by first | rfl | exact World.drewN_drewN _ _ _⟩⟩
                case measure => simp only [intOf]; omega
              · have HAB2 : Hid ((j + 1 = 0 ∧ a = -1 ∧ mx = -1) ∨ (0 < j + 1 ∧ 0 ≤ a ∧ a ≤ 53683814450 ∧ 0 ≤ mx ∧ mx ≤ 53683814450 ∧ ∀ t, t < j + 1 → a ≤ ev t ∧ ev t ≤ mx)) := Or.inr ⟨by omega, by omega, by omega, by omega, by omega, fun t ht => by
                  by_cases htj : t = j
                  · subst htj; rw [HE1.out]; omega
                  · have := hall t (by omega); omega⟩
                clear hall
                go_wp2
                go_quiet (fail)
                go_wp2
                go_roundw
                case rel => exact ⟨j + 1, a, mx, rfl, rfl, by omega, by go_num, HAB2, ⟨_, by first | rfl | exact World.drewN_drewN _ _ _⟩⟩
                case measure => simp only [intOf]; omega

end Go.Proofs.Ytccoflhoggpgoaa

namespace Go.Proofs.Ytccoflhoggpgoaa
open Go.RowKit

open Go.Shelf

set_option maxRecDepth 100000 in
set_option maxHeartbeats 8000000 in
theorem gates_n (l h K : Nat) (G P : Int) (B : Option Addr) (n c : Nat) (xs : List Int) (more : Int) (w : World) (hr : RdI w B n xs) (hnn : B = none → n = 0 ∧ c = 0) (hn : ¬ 60 < n)
    (hl : 1 ≤ l ∧ l ≤ 50) (hh : 1 ≤ h ∧ h ≤ l) (hG : 0 ≤ G ∧ G ≤ 1073676289) (hP : 0 ≤ P ∧ P ≤ 100) (hmo : 0 ≤ more ∧ more ≤ 1073676289 - G) (hsm : small xs)
    (ga gs gf : List Int) (ids : List Nat) (hga : ga.length = K) (hgs : gs.length ≤ 60) (hgf : gf.length ≤ 60) (hid : ids.length ≤ 60)
    (HK : Hid (∀ k, k < K ↔ k * h + l ≤ n)) (HKn : Hid (K ≤ n)) (HFS : Hid (∀ x ∈ gf, x ∈ gs)) (HLS : Hid (∀ i ∈ ids, (i : Int) ∈ gs ∧ i < K))
    (CM : Hid (∀ w, Calls Try.prog 33 #[.agg #[.int .i64 l, .int .i64 h, .int .i64 (G), .int .i64 (P)]] w fun e w' => e = .returned (.int .i64 0) ∧ Below w.heap.size w w'))
    (CS : Hid (∀ W, Below w.heap.size w W → Calls Try.prog 35 #[.slice B n c] W fun e w' => e = .returned (.int .i64 0) ∧ W = w'))
    (CW : Hid (∀ w, Calls Try.prog 28 #[.int .i64 more, .int .i64 0, .int .i64 (1073676289 - G)] w fun e w' => e = .returned (.bool true) ∧ w = w'))
    (CGa : Hid (∀ A d W, RdI W A n xs → n ≤ d → Calls Try.prog 30 #[.agg #[.int .i64 l, .int .i64 h, .int .i64 (0), .int .i64 (0)], .slice A n d] W (OwnRes W 0 ga)))
    (CGs : Hid (∀ A d W, RdI W A n xs → n ≤ d → Calls Try.prog 30 #[.agg #[.int .i64 l, .int .i64 h, .int .i64 (G), .int .i64 (0)], .slice A n d] W (OwnRes W 0 gs)))
    (CGf : Hid (∀ A d W, RdI W A n xs → n ≤ d → Calls Try.prog 30 #[.agg #[.int .i64 l, .int .i64 h, .int .i64 (G + more), .int .i64 (0)], .slice A n d] W (OwnRes W 0 gf)))
    (CGl : Hid (∀ A d W, RdI W A n xs → n ≤ d → Calls Try.prog 30 #[.agg #[.int .i64 l, .int .i64 h, .int .i64 (G), .int .i64 (P)], .slice A n d] W (OwnRes W 0 (ids.map fun (i : Nat) => (i : Int)))))
    (CLx : Hid (∀ A d W, RdI W A n xs → n ≤ d → Calls Try.prog 32 #[.agg #[.int .i64 l, .int .i64 h, .int .i64 (G), .int .i64 (P)], .slice A n d] W fun e w' => e = .returned (.tuple #[.agg #[.int .i64 (0), .int .i64 (0)], .int .i64 12]) ∧ Below W.heap.size W w'))
    (CLo : Hid (∀ A d W, RdI W A n (xs.map fun x => -x) → n ≤ d → Calls Try.prog 32 #[.agg #[.int .i64 l, .int .i64 h, .int .i64 (G), .int .i64 (P)], .slice A n d] W fun e w' => e = .returned (.tuple #[.agg #[.int .i64 (0), .int .i64 (0)], .int .i64 12]) ∧ Below W.heap.size W w'))
    (hids : ids = []) :
    Calls Try.prog 6 #[.agg #[.int .i64 l, .int .i64 h, .int .i64 (G), .int .i64 (P)], .slice B n c, .int .i64 more] w fun e w' => e = .returned (.bool true) ∧ Below w.heap.size w w' := by
  obtain ⟨i0, hi0, hza, hzb, hzc⟩ := info_parts intInfo'
  have HR := Lib.hid hr
  have HNN := Lib.hid hnn
  have hln := hr.1
  have hnI : ¬ (60 : Int) < (n : Int) := by omega
  have hwG : IntKind.i64.wrap (1073676289 - G) = 1073676289 - G := IntWalk.i64_in _ (by omega)
  have hwM : IntKind.i64.wrap (G + more) = G + more := IntWalk.i64_in _ (by omega)
  clear hr hnn
  have R0 := Lib.hid (OneB.start w 42 #[.int .i64 l, .int .i64 h, .int .i64 (G), .int .i64 (P)])
  go_enter Try.func6, Try.ntmps6
  go_wp2_with fail
  refine (awake_any _).mono ?_
  rintro e w1 ⟨rfl, hb1⟩
  have R1 := Lib.hid (OneB.later hb1 R0.out)
  clear hb1 R0
  obtain ⟨c0, c1, c2, c3⟩ := four R1.out.k
  go_wp2_with fail
  clear c0 c1 c2 c3
  refine (CM.out _).mono ?_
  rintro e w2 ⟨rfl, hb⟩
  have R2 := Lib.hid (OneB.later hb R1.out)
  clear hb R1
  go_wp2_with fail
  refine (CS.out _ R2.out.b).mono ?_
  rintro e w' ⟨rfl, rfl⟩
  obtain ⟨c0, c1, c2, c3⟩ := four R2.out.k
  go_wp2_with fail
  refine (CW.out _).mono ?_
  rintro e w' ⟨rfl, rfl⟩
  clear CM CS CW
  go_wp2
  clear c0 c1 c2 c3
  have hgs7 := R2.out.k.lt
  have K70 := Lib.hid (Bk.new w2 42 #[.int .i64 l, .int .i64 h, .int .i64 (0), .int .i64 (0)])
  have RA := Lib.hid (OneB.alloc R2.out (.cells #[.int .i64 l, .int .i64 h, .int .i64 (0), .int .i64 (0)] 42))
  obtain ⟨g7, hg7e⟩ : ∃ g, w2.heap.size = g := ⟨_, rfl⟩
  obtain ⟨wA, hwA⟩ : ∃ W, w2.alloc (.cells #[.int .i64 l, .int .i64 h, .int .i64 (0), .int .i64 (0)] 42) = W := ⟨_, rfl⟩
  rw [hwA] at K70 RA ⊢
  rw [hg7e] at K70 hgs7 ⊢
  have hg7s : w.heap.size < g7 := hgs7
  have hg7 : w.heap.size ≤ g7 := Nat.le_of_lt hgs7
  clear hwA hg7e hgs7 R2
  have HB1 := Lib.hid (RA.out.b)
  have K31 := Lib.hid (RA.out.k)
  have K71 := Lib.hid (K70.out)
  clear RA K70
  obtain ⟨m0, m1, m2, m3⟩ := four K31.out
  go_loop [8, 9] (fun b a => ∃ k s : Nat, k ≤ K ∧ Hid (s = k * h) ∧ b = .int .i64 k ∧ a = .int .i64 s ∧ s ≤ 10000) (fun _ a => n + 1 - (intOf a).toNat)
  case atStart => exact ⟨0, 0, Nat.zero_le _, by show _ = _; omega, rfl, rfl, by omega⟩
  case round =>
    obtain ⟨k, s, hk, HS, rfl, rfl, hs4⟩ := hrel
    have hKn := HKn.out
    have w1 : IntKind.i64.wrap ((s : Int) + l) = ((s + l : Nat) : Int) := by rw [show (s : Int) + l = ((s + l : Nat) : Int) by omega]; exact IntWalk.i64_in _ (by omega)
    have w2 : IntKind.i64.wrap ((s : Int) + h) = ((s + h : Nat) : Int) := by rw [show (s : Int) + h = ((s + h : Nat) : Int) by omega]; exact IntWalk.i64_in _ (by omega)
    by_cases hlt : k < K
    case pos =>
      have hc := (HK.out k).1 hlt
      rw [← HS.out] at hc
      have hcI : ((s + l : Nat) : Int) ≤ (n : Int) := by omega
      have hsh : s + h ≤ 10000 := by omega
      have hsn : s ≤ n := by omega
      have HS2 : Hid (s + h = (k + 1) * h) := by show _ = _; rw [HS.out, Nat.add_mul, Nat.one_mul]
      obtain ⟨sL, hsL⟩ : ∃ t : Nat, s + l = t := ⟨_, rfl⟩
      rw [hsL] at w1 hc hcI
      obtain ⟨sH, hsH⟩ : ∃ t : Nat, s + h = t := ⟨_, rfl⟩
      rw [hsH] at w2 hsh HS2
      have HSH := Lib.hid hsH
      clear hsL hsH
      go_wp2
      go_round
      case rel => exact ⟨k + 1, sH, by omega, HS2, by go_num, rfl, hsh⟩
      case measure => have := HSH.out; simp [intOf]; omega
    obtain rfl : K = k := by omega
    have hc : ¬ K * h + l ≤ n := fun hc => hlt ((HK.out K).2 hc)
    rw [← HS.out] at hc
    have hcI : ¬ ((s + l : Nat) : Int) ≤ (n : Int) := by omega
    obtain ⟨sL, hsL⟩ : ∃ t : Nat, s + l = t := ⟨_, rfl⟩
    rw [hsL] at w1 hcI
    clear hsL hc w2 hlt
    have hBB : Below wA.heap.size wA wA := Below.refl _ _
    have HC : Hid (∀ V, Below wA.heap.size wA V → (V.cell? ⟨g7, 0, none⟩ = some (.int .i64 l) ∧ V.cell? ⟨g7, 1, none⟩ = some (.int .i64 h) ∧ V.cell? ⟨g7, 2, none⟩ = some (.int .i64 (0)) ∧ V.cell? ⟨g7, 3, none⟩ = some (.int .i64 (0)))) := fun V hb => four (K71.out.later hb)
    have CC : Hid (∀ V, Below wA.heap.size wA V → Calls Try.prog 31 #[.slice B n c] V (OwnS V xs)) := fun V hb => copyInts_any B n c xs V HNN.out ((HR.out.below HB1.out).below hb) (by omega)
    have hsz := K71.out.lt
    go_wp2
    first | (go_region_held3 (fun w' : World => (w'.cell? ⟨g7, 0, none⟩ = some (.int .i64 l) ∧ w'.cell? ⟨g7, 1, none⟩ = some (.int .i64 h) ∧ w'.cell? ⟨g7, 2, none⟩ = some (.int .i64 (0)) ∧ w'.cell? ⟨g7, 3, none⟩ = some (.int .i64 (0))) ∧ Below wA.heap.size wA w') (((refine (fun hI => ⟨HC.out _ hI, hI⟩) ?_; repeat (first | with_reducible assumption | (go_split_ands; with_reducible assumption) | with_reducible refine belowA ?_ _ | with_reducible refine Below.drew ?_ | (with_reducible refine Below.setCell ?_ ?_ _) | exact Nat.le_refl _ | (show _ ≤ _; simp; omega) | (simp; omega) | omega)))) (first
      | (go_at_call 31; ((with_reducible refine (CC.out _ ?_).mono ?_)); (focus (first | assumption | (go_split_ands; assumption))); rintro e wa ⟨⟨va, rfl, hoa⟩, hba⟩; obtain ⟨Aa, ca, rfl, hca, hra⟩ := rd_of_own hoa; clear hoa; rw [hln] at hra hca ⊢; have hba' : Below wA.heap.size wA wa := Below.trans (by first | assumption | (go_split_ands; assumption)) (hba.mono (Below.size (by first | assumption | (go_split_ands; assumption)))); have sza := hba'.size; clear hba)
      | (go_at_call 30; ((with_reducible refine (CGa.out _ _ _ hra hca).mono ?_)); rintro e w1 ⟨⟨vb, rfl, hob⟩, hbb⟩; obtain ⟨A1, c1, rfl, hcb, hrb⟩ := rd_of_own hob; have hbb' : Below wA.heap.size wA w1 := Below.trans (by first | assumption | (go_split_ands; assumption)) (hbb.mono (Below.size (by first | assumption | (go_split_ands; assumption)))); clear hbb hca hra))) | fail
    have hbn := Lib.hid hbb'
    have hrn := Lib.hid hrb
    clear hbb' hba' hBB HC CC hrb hcb hob sza hsz
    have HB2 := Lib.hid (HB1.out.trans (hbn.out.mono HB1.out.size))
    have K32 := Lib.hid (K31.out.later hbn.out)
    have K72 := Lib.hid (K71.out.later hbn.out)
    clear HB1 K31 K71
    clear hbn hrn
    obtain ⟨m0, m1, m2, m3⟩ := four K32.out
    obtain ⟨n0, n1, n2, n3, f0, f1, f2, f3⟩ := bk4 K72.out
    go_wp2
    clear m0 m1 m2 m3 n0 n1 n2 n3 f0 f1 f2 f3
    have HB3 := Lib.hid (Below.setCell (p := ⟨g7, 2, none⟩) HB2.out hg7 (.int .i64 (G)))
    have K33 := Lib.hid (K32.out.far ⟨g7, 2, none⟩ (Nat.ne_of_lt hg7s) (.int .i64 (G)))
    have K73 : Hid (Bk (w1.setCell ⟨g7, 2, none⟩ (.int .i64 (G))) g7 42 #[.int .i64 l, .int .i64 h, .int .i64 (G), .int .i64 (0)]) := K72.out.set_ 2 _
    clear HB2 K32 K72
    obtain ⟨v1, hnw⟩ : ∃ W, w1.setCell ⟨g7, 2, none⟩ (.int .i64 (G)) = W := ⟨_, rfl⟩
    rw [hnw] at HB3 K33 K73 ⊢
    clear hnw
    have hBB : Below v1.heap.size v1 v1 := Below.refl _ _
    have HC : Hid (∀ V, Below v1.heap.size v1 V → (V.cell? ⟨g7, 0, none⟩ = some (.int .i64 l) ∧ V.cell? ⟨g7, 1, none⟩ = some (.int .i64 h) ∧ V.cell? ⟨g7, 2, none⟩ = some (.int .i64 (G)) ∧ V.cell? ⟨g7, 3, none⟩ = some (.int .i64 (0)))) := fun V hb => four (K73.out.later hb)
    have CC : Hid (∀ V, Below v1.heap.size v1 V → Calls Try.prog 31 #[.slice B n c] V (OwnS V xs)) := fun V hb => copyInts_any B n c xs V HNN.out ((HR.out.below HB3.out).below hb) (by omega)
    have hsz := K73.out.lt
    first | (go_region_held3 (fun w' : World => (w'.cell? ⟨g7, 0, none⟩ = some (.int .i64 l) ∧ w'.cell? ⟨g7, 1, none⟩ = some (.int .i64 h) ∧ w'.cell? ⟨g7, 2, none⟩ = some (.int .i64 (G)) ∧ w'.cell? ⟨g7, 3, none⟩ = some (.int .i64 (0))) ∧ Below v1.heap.size v1 w') (((refine (fun hI => ⟨HC.out _ hI, hI⟩) ?_; repeat (first | with_reducible assumption | (go_split_ands; with_reducible assumption) | with_reducible refine belowA ?_ _ | with_reducible refine Below.drew ?_ | (with_reducible refine Below.setCell ?_ ?_ _) | exact Nat.le_refl _ | (show _ ≤ _; simp; omega) | (simp; omega) | omega)))) (first
      | (go_at_call 31; ((with_reducible refine (CC.out _ ?_).mono ?_)); (focus (first | assumption | (go_split_ands; assumption))); rintro e wa ⟨⟨va, rfl, hoa⟩, hba⟩; obtain ⟨Aa, ca, rfl, hca, hra⟩ := rd_of_own hoa; clear hoa; rw [hln] at hra hca ⊢; have hba' : Below v1.heap.size v1 wa := Below.trans (by first | assumption | (go_split_ands; assumption)) (hba.mono (Below.size (by first | assumption | (go_split_ands; assumption)))); have sza := hba'.size; clear hba)
      | (go_at_call 30; ((with_reducible refine (CGs.out _ _ _ hra hca).mono ?_)); rintro e w2 ⟨⟨vb, rfl, hob⟩, hbb⟩; obtain ⟨A2, c2, rfl, hcb, hrb⟩ := rd_of_own hob; have hbb' : Below v1.heap.size v1 w2 := Below.trans (by first | assumption | (go_split_ands; assumption)) (hbb.mono (Below.size (by first | assumption | (go_split_ands; assumption)))); clear hbb hca hra))) | fail
    have hbn := Lib.hid hbb'
    have hrn := Lib.hid hrb
    have hon := Lib.hid hob
    have hgo : g7 < wa.heap.size := by omega
    clear hbb' hba' hBB HC CC hrb hcb hob sza hsz
    have HB4 := Lib.hid (HB3.out.trans (hbn.out.mono HB3.out.size))
    have K34 := Lib.hid (K33.out.later hbn.out)
    have K74 := Lib.hid (K73.out.later hbn.out)
    clear HB3 K33 K73
    clear hbn hrn
    obtain ⟨m0, m1, m2, m3⟩ := four K34.out
    obtain ⟨n0, n1, n2, n3, f0, f1, f2, f3⟩ := bk4 K74.out
    go_wp2
    clear m0 m1 m2 m3 n0 n1 n2 n3 f0 f1 f2 f3
    have HB5 := Lib.hid (Below.setCell (p := ⟨g7, 2, none⟩) HB4.out hg7 (.int .i64 (G + more)))
    have K35 := Lib.hid (K34.out.far ⟨g7, 2, none⟩ (Nat.ne_of_lt hg7s) (.int .i64 (G + more)))
    have K75 : Hid (Bk (w2.setCell ⟨g7, 2, none⟩ (.int .i64 (G + more))) g7 42 #[.int .i64 l, .int .i64 h, .int .i64 (G + more), .int .i64 (0)]) := K74.out.set_ 2 _
    have HS5 := Lib.hid (own_far hon.out (p := ⟨g7, 2, none⟩) hgo (.int .i64 (G + more)))
    clear hon hgo
    clear HB4 K34 K74
    obtain ⟨v2, hnw⟩ : ∃ W, w2.setCell ⟨g7, 2, none⟩ (.int .i64 (G + more)) = W := ⟨_, rfl⟩
    rw [hnw] at HB5 K35 K75 HS5 ⊢
    clear hnw
    have hBB : Below v2.heap.size v2 v2 := Below.refl _ _
    have HC : Hid (∀ V, Below v2.heap.size v2 V → (V.cell? ⟨g7, 0, none⟩ = some (.int .i64 l) ∧ V.cell? ⟨g7, 1, none⟩ = some (.int .i64 h) ∧ V.cell? ⟨g7, 2, none⟩ = some (.int .i64 (G + more)) ∧ V.cell? ⟨g7, 3, none⟩ = some (.int .i64 (0)))) := fun V hb => four (K75.out.later hb)
    have CC : Hid (∀ V, Below v2.heap.size v2 V → Calls Try.prog 31 #[.slice B n c] V (OwnS V xs)) := fun V hb => copyInts_any B n c xs V HNN.out ((HR.out.below HB5.out).below hb) (by omega)
    have hsz := K75.out.lt
    first | (go_region_held3 (fun w' : World => (w'.cell? ⟨g7, 0, none⟩ = some (.int .i64 l) ∧ w'.cell? ⟨g7, 1, none⟩ = some (.int .i64 h) ∧ w'.cell? ⟨g7, 2, none⟩ = some (.int .i64 (G + more)) ∧ w'.cell? ⟨g7, 3, none⟩ = some (.int .i64 (0))) ∧ Below v2.heap.size v2 w') (((refine (fun hI => ⟨HC.out _ hI, hI⟩) ?_; repeat (first | with_reducible assumption | (go_split_ands; with_reducible assumption) | with_reducible refine belowA ?_ _ | with_reducible refine Below.drew ?_ | (with_reducible refine Below.setCell ?_ ?_ _) | exact Nat.le_refl _ | (show _ ≤ _; simp; omega) | (simp; omega) | omega)))) (first
      | (go_at_call 31; ((with_reducible refine (CC.out _ ?_).mono ?_)); (focus (first | assumption | (go_split_ands; assumption))); rintro e wa ⟨⟨va, rfl, hoa⟩, hba⟩; obtain ⟨Aa, ca, rfl, hca, hra⟩ := rd_of_own hoa; clear hoa; rw [hln] at hra hca ⊢; have hba' : Below v2.heap.size v2 wa := Below.trans (by first | assumption | (go_split_ands; assumption)) (hba.mono (Below.size (by first | assumption | (go_split_ands; assumption)))); have sza := hba'.size; clear hba)
      | (go_at_call 30; ((with_reducible refine (CGf.out _ _ _ hra hca).mono ?_)); rintro e w3 ⟨⟨vb, rfl, hob⟩, hbb⟩; obtain ⟨A3, c3, rfl, hcb, hrb⟩ := rd_of_own hob; have hbb' : Below v2.heap.size v2 w3 := Below.trans (by first | assumption | (go_split_ands; assumption)) (hbb.mono (Below.size (by first | assumption | (go_split_ands; assumption)))); clear hbb hca hra))) | fail
    have hbn := Lib.hid hbb'
    have hrn := Lib.hid hrb
    clear hbb' hba' hBB HC CC hrb hcb hob sza hsz
    have HB6 := Lib.hid (HB5.out.trans (hbn.out.mono HB5.out.size))
    have K36 := Lib.hid (K35.out.later hbn.out)
    have K76 := Lib.hid (K75.out.later hbn.out)
    have HS6 := Lib.hid (HS5.out.below hbn.out)
    clear HB5 K35 K75 HS5
    have HF6 := Lib.hid (hrn.out)
    clear hbn hrn
    have hBB : Below w3.heap.size w3 w3 := Below.refl _ _
    have HC : Hid (∀ V, Below w3.heap.size w3 V → (V.cell? ⟨w.heap.size, 0, none⟩ = some (.int .i64 l) ∧ V.cell? ⟨w.heap.size, 1, none⟩ = some (.int .i64 h) ∧ V.cell? ⟨w.heap.size, 2, none⟩ = some (.int .i64 (G)) ∧ V.cell? ⟨w.heap.size, 3, none⟩ = some (.int .i64 (P)))) := fun V hb => four (K36.out.later hb)
    have CC : Hid (∀ V, Below w3.heap.size w3 V → Calls Try.prog 31 #[.slice B n c] V (OwnS V xs)) := fun V hb => copyInts_any B n c xs V HNN.out ((HR.out.below HB6.out).below hb) (by omega)
    have hsz := K76.out.lt
    go_wp2
    first | (go_region_held3 (fun w' : World => (w'.cell? ⟨w.heap.size, 0, none⟩ = some (.int .i64 l) ∧ w'.cell? ⟨w.heap.size, 1, none⟩ = some (.int .i64 h) ∧ w'.cell? ⟨w.heap.size, 2, none⟩ = some (.int .i64 (G)) ∧ w'.cell? ⟨w.heap.size, 3, none⟩ = some (.int .i64 (P))) ∧ Below w3.heap.size w3 w') (((refine (fun hI => ⟨HC.out _ hI, hI⟩) ?_; repeat (first | with_reducible assumption | (go_split_ands; with_reducible assumption) | with_reducible refine belowA ?_ _ | with_reducible refine Below.drew ?_ | (with_reducible refine Below.setCell ?_ ?_ _) | exact Nat.le_refl _ | (show _ ≤ _; simp; omega) | (simp; omega) | omega)))) (first
      | (go_at_call 31; ((with_reducible refine (CC.out _ ?_).mono ?_)); (focus (first | assumption | (go_split_ands; assumption))); rintro e wa ⟨⟨va, rfl, hoa⟩, hba⟩; obtain ⟨Aa, ca, rfl, hca, hra⟩ := rd_of_own hoa; clear hoa; rw [hln] at hra hca ⊢; have hba' : Below w3.heap.size w3 wa := Below.trans (by first | assumption | (go_split_ands; assumption)) (hba.mono (Below.size (by first | assumption | (go_split_ands; assumption)))); have sza := hba'.size; clear hba)
      | (go_at_call 30; ((with_reducible refine (CGl.out _ _ _ hra hca).mono ?_)); rintro e w4 ⟨⟨vb, rfl, hob⟩, hbb⟩; obtain ⟨A4, c4, rfl, hcb, hrb⟩ := rd_of_own hob; have hbb' : Below w3.heap.size w3 w4 := Below.trans (by first | assumption | (go_split_ands; assumption)) (hbb.mono (Below.size (by first | assumption | (go_split_ands; assumption)))); clear hbb hca hra))) | fail
    have hbn := Lib.hid hbb'
    have hrn := Lib.hid hrb
    clear hbb' hba' hBB HC CC hrb hcb hob sza hsz
    have HB7 := Lib.hid (HB6.out.trans (hbn.out.mono HB6.out.size))
    have K37 := Lib.hid (K36.out.later hbn.out)
    have K77 := Lib.hid (K76.out.later hbn.out)
    have HS7 := Lib.hid (HS6.out.below hbn.out)
    have HF7 := Lib.hid (HF6.out.below hbn.out)
    clear HB6 K36 K76 HS6 HF6
    have HL7 := Lib.hid (hrn.out)
    clear hbn hrn
    clear K77
    obtain ⟨fl, hfl⟩ : ∃ x, gf.length = x := ⟨_, rfl⟩
    have HFLN := Lib.hid hfl
    obtain ⟨sl, hsl⟩ : ∃ x, gs.length = x := ⟨_, rfl⟩
    have HSLN := Lib.hid hsl
    rw [hfl] at HF7 hgf ⊢
    rw [hsl] at HS7 hgs ⊢
    clear hfl hsl
    go_wp2
    go_loop [18] (fun i => ∃ j : Nat, j ≤ fl ∧ i = .int .i64 j) (fun i => fl - (intOf i).toNat)
    case atStart => exact ⟨0, Nat.zero_le _, rfl⟩
    case round =>
      obtain ⟨j, hj, rfl⟩ := hrel
      by_cases hjl : j < fl
      case pos =>
        have hjI : (j : Int) < (fl : Int) := by omega
        have hj0 : (0 : Int) ≤ (j : Int) := by omega
        obtain ⟨a3, e3, _, hc3⟩ := HF7.out.2 (by omega)
        have hcj := hc3 j hjl
        have hmem : gf.getD j 0 ∈ gs := HFS.out _ (by rw [List.getD_eq_getElem?_getD, List.getElem?_eq_getElem (by have := HFLN.out; omega), Option.getD_some]; exact List.getElem_mem _)
        have CH := Lib.hid (has_any A2 sl c2 gs (gf.getD j 0) w4 HS7.out (by omega))
        rw [decide_eq_true hmem] at CH
        obtain ⟨x, hx⟩ : ∃ x, gf.getD j 0 = x := ⟨_, rfl⟩
        rw [hx] at hcj CH
        subst e3
        clear hc3 hmem hx
        go_wp2_with fail
        refine CH.out.mono ?_
        rintro e w' ⟨rfl, rfl⟩
        go_wp2
        go_round
        case rel => exact ⟨j + 1, by omega, by go_num⟩
        case measure => simp [intOf]; omega
      obtain rfl : fl = j := by omega
      have hjI : ¬ (fl : Int) < (fl : Int) := by omega
      clear hjl hj
      have HOT : Hid (∀ j, j < n → (xs.map fun x => -x).take (j + 1) = (xs.map fun x => -x).take j ++ [-(xs.getD j 0)]) := fun j hj => by
        rw [List.take_add_one, List.getElem?_map, List.getElem?_eq_getElem (by omega), List.getD_eq_getElem?_getD, List.getElem?_eq_getElem (by omega)]; rfl
      have HOE : Hid ((xs.map fun x => -x).take n = xs.map fun x => -x) := List.take_of_length_le (by rw [List.length_map]; omega)
      have HXV := Lib.hid (fun j (hj : j < n) => getD_small hsm (k := j) (by omega))
      obtain ⟨ox, hox⟩ : ∃ o, (xs.map fun x => -x) = o := ⟨_, rfl⟩
      rw [hox] at HOT HOE CLo
      clear hox
      go_wp2
      go_loopw [19, 20] (fun v i wr => ∃ (j : Nat) (Av : Option Addr) (cv : Nat), v = .slice Av j cv ∧ j ≤ n ∧ i = .int .i64 j ∧ Hid (wr.ownsRow w4.heap.size 3 1 (.slice Av j cv) j ((ox.take j).map (Value.int .i64))) ∧ Hid (Below w4.heap.size w4 wr)) (fun _ i _ => n - (intOf i).toNat)
      case atStart => exact ⟨0, none, 0, rfl, Nat.zero_le _, rfl, Lib.hid (World.ownsRow_nil _ _ _ _), Lib.hid (Below.refl _ _)⟩
      case round =>
        obtain ⟨j, Av, cv, rfl, hj, rfl, HI, HBL⟩ := hrel
        by_cases hjl : j < n
        case pos =>
          have hjI : (j : Int) < (n : Int) := by omega
          have hj0 : (0 : Int) ≤ (j : Int) := by omega
          obtain ⟨bd, hbB, _, hcb⟩ := ((HR.out.below HB7.out).below HBL.out).2 (by omega)
          have hcj := hcb j hjl
          have hxv := HXV.out j hjl
          have HSN := Lib.hid (HOT.out j hjl)
          obtain ⟨x, hx⟩ : ∃ x, xs.getD j 0 = x := ⟨_, rfl⟩
          rw [hx] at hcj hxv HSN
          obtain ⟨y, hy⟩ : ∃ y, -x = y := ⟨_, rfl⟩
          have hneg : IntKind.i64.wrap (-x) = y := by rw [hy]; exact IntWalk.i64_in _ (by omega)
          rw [hy] at HSN
          subst hbB
          clear hcb hx hy
          go_wp2_with (at_builtin; refine wpList_append_own _ rfl (.tmp 146) (.tmp 152) 43 rfl w4.heap.size 3 i0 _ 1 8 Try.underlying43 hi0 hza hzb hzc rfl (by decide) _ _ _ rfl (HI.out.alloc _) ⟨wr.heap.size, 0, none⟩ 1 1 [.int .i64 y] rfl rfl (cell_one_new _ _ _) (by simp [Value.oneCell']) (by simp only [maxLen]; omega) (by omega) (by have := HBL.out.size; simp; omega) ?_)
          intro v' wp hown' hgrow _
          obtain ⟨g', cap', rfl⟩ := ownsRow_succ hown'
          have HB4 : Hid (Below w4.heap.size w4 wp) := ((HBL.out).alloc (HBL.out).size (.cells #[.int .i64 y] 3)).grown hgrow (by have := HBL.out.size; simp; omega) (fun z e => ((HI.out.alloc (.cells #[.int .i64 y] 3)).lt z e).1)
          have HI4 : Hid (wp.ownsRow w4.heap.size 3 1 (.slice (some ⟨g', 0, none⟩) (j + 1) cap') (j + 1) ((ox.take (j + 1)).map (Value.int .i64))) := by
            show World.ownsRow _ _ _ _ _ _ _
            rw [HSN.out, List.map_append, List.map_take]
            exact hown'
          clear hown' hgrow
          go_wp2
          go_roundw
          case rel => exact ⟨j + 1, _, cap', rfl, by omega, by go_num, HI4, HB4⟩
          case measure => simp only [intOf]; omega
        obtain rfl : n = j := by omega
        have hjI : ¬ (n : Int) < (n : Int) := by omega
        obtain ⟨_, cv', ecv, hncv, _⟩ := rd_of_own HI.out
        have hcv : n ≤ cv := by injection ecv with _ _ e3; omega
        rw [HOE.out] at HI
        have HOX := Lib.hid (own_rd HI.out)
        clear ecv hncv HI hjl hj
        have HB8 := Lib.hid (HB7.out.trans (HBL.out.mono HB7.out.size))
        have K38 := Lib.hid (K37.out.later HBL.out)
        have HS8 := Lib.hid (HS7.out.below HBL.out)
        have HF8 := Lib.hid (HF7.out.below HBL.out)
        have HL8 := Lib.hid (HL7.out.below HBL.out)
        clear HB7 K37 HS7 HF7 HL7
        clear HBL
        have HO8 := Lib.hid HOX.out
        clear HOX
        go_upto_region 29 with fail
        go_cut [21, 22] (fun s21 s22 wx => ∃ g6 : Nat, s21 = .pointer (some ⟨g6, 0, none⟩) ∧ s22 = .int .i64 12 ∧ Hid (Bk wx g6 23 #[.int .i64 (0), .int .i64 (0)]) ∧ Hid (Below wr.heap.size wr wx))
        case first =>
          have hBB : Below wr.heap.size wr wr := Below.refl _ _
          have HC : Hid (∀ V, Below wr.heap.size wr V → (V.cell? ⟨w.heap.size, 0, none⟩ = some (.int .i64 l) ∧ V.cell? ⟨w.heap.size, 1, none⟩ = some (.int .i64 h) ∧ V.cell? ⟨w.heap.size, 2, none⟩ = some (.int .i64 (G)) ∧ V.cell? ⟨w.heap.size, 3, none⟩ = some (.int .i64 (P)))) := fun V hb => four (K38.out.later hb)
          have CC : Hid (∀ V, Below wr.heap.size wr V → Calls Try.prog 31 #[.slice B n c] V (OwnS V xs)) := fun V hb => copyInts_any B n c xs V HNN.out ((HR.out.below HB8.out).below hb) (by omega)
          have hzn := fun W : World => bk2 (Bk.new W 23 #[.int .i64 0, .int .i64 0])
          first | (go_region_held3 (fun w' : World => (w'.cell? ⟨w.heap.size, 0, none⟩ = some (.int .i64 l) ∧ w'.cell? ⟨w.heap.size, 1, none⟩ = some (.int .i64 h) ∧ w'.cell? ⟨w.heap.size, 2, none⟩ = some (.int .i64 (G)) ∧ w'.cell? ⟨w.heap.size, 3, none⟩ = some (.int .i64 (P))) ∧ Below wr.heap.size wr w') (((refine (fun hI => ⟨HC.out _ hI, hI⟩) ?_; repeat (first | with_reducible assumption | (go_split_ands; with_reducible assumption) | with_reducible refine belowA ?_ _ | with_reducible refine Below.drew ?_ | (with_reducible refine Below.setCell ?_ ?_ _) | exact Nat.le_refl _ | (show _ ≤ _; simp; omega) | (simp; omega) | omega)))) (first
            | (go_at_call 31; ((with_reducible refine (CC.out _ ?_).mono ?_)); (focus (first | assumption | (go_split_ands; assumption))); rintro e wc ⟨⟨vc, rfl, hoc⟩, hbc⟩; obtain ⟨Ac, cc, rfl, hcc, hrc⟩ := rd_of_own hoc; clear hoc; rw [hln] at hrc hcc ⊢; have hbc' : Below wr.heap.size wr wc := Below.trans (by first | assumption | (go_split_ands; assumption)) (hbc.mono (Below.size (by first | assumption | (go_split_ands; assumption)))); have szc := hbc'.size; (first | (have kz0 := (Bk.new wr 23 #[.int .i64 0, .int .i64 0]).drew.later hbc; have kz : Bk wc wr.heap.size 23 #[.int .i64 0, .int .i64 0] := kz0; have kzz := bk2 kz; clear kz0) | skip); clear hbc)
            | (go_at_call 32; (first | with_reducible refine (CLx.out _ _ _ hrc hcc).mono ?_ | with_reducible refine (CLx.out _ _ _ (hrc.below (below1 _ _)) hcc).mono ?_); rintro e wd ⟨rfl, hbd⟩; have hbd' : Below wr.heap.size wr wd := Below.trans (by first | assumption | (go_split_ands; assumption)) (hbd.mono (Below.size (by first | assumption | (go_split_ands; assumption)))); have szd := hbd'.size; (first | (have kz := kz.later hbd; have kzz := bk2 kz) | (have kz : Bk wd wc.heap.size 23 #[.int .i64 0, .int .i64 0] := (Bk.new _ 23 #[.int .i64 0, .int .i64 0]).later hbd; have kzz := bk2 kz) | skip); clear hbd hcc hrc))) | fail
          all_goals
            clear hzn
            first
            | (have hb6 : Below wr.heap.size wr (wd.alloc (.cells #[.int .i64 (0), .int .i64 (0)] 23)) := belowA hbd' _
               have K6 : Hid (Bk (wd.alloc (.cells #[.int .i64 (0), .int .i64 (0)] 23)) wd.heap.size 23 #[.int .i64 (0), .int .i64 (0)]) := Bk.new wd 23 #[.int .i64 (0), .int .i64 (0)]
               obtain ⟨W6, hW6⟩ : ∃ W, wd.alloc (.cells #[.int .i64 (0), .int .i64 (0)] 23) = W := ⟨_, rfl⟩
               rw [hW6] at K6 hb6 ⊢
               have HB6 := Lib.hid hb6
               clear hW6 hb6
               go_wp2_with fail
               go_meet
               exact ⟨_, rfl, rfl, K6, HB6⟩)
            | (have hb6 : Below wr.heap.size wr ((wd.setCell ⟨wc.heap.size, 0, none⟩ (.int .i64 (0))).setCell ⟨wc.heap.size, 1, none⟩ (.int .i64 (0))) := Below.setCell (Below.setCell hbd' (by first | exact szc | exact Nat.le_refl _) _) (by first | exact szc | exact Nat.le_refl _) _
               have K6 : Hid (Bk ((wd.setCell ⟨wc.heap.size, 0, none⟩ (.int .i64 (0))).setCell ⟨wc.heap.size, 1, none⟩ (.int .i64 (0))) wc.heap.size 23 #[.int .i64 (0), .int .i64 (0)]) := ((kz.set_ 0 (.int .i64 (0))).set_ 1 (.int .i64 (0)))
               obtain ⟨W6, hW6⟩ : ∃ W, (wd.setCell ⟨wc.heap.size, 0, none⟩ (.int .i64 (0))).setCell ⟨wc.heap.size, 1, none⟩ (.int .i64 (0)) = W := ⟨_, rfl⟩
               clear kz kzz
               rw [hW6] at K6 hb6 ⊢
               have HB6 := Lib.hid hb6
               clear hW6 hb6
               go_wp2_with fail
               go_meet
               exact ⟨_, rfl, rfl, K6, HB6⟩)
            | (have hb6 : Below wr.heap.size wr ((wd.setCell ⟨wr.heap.size, 0, none⟩ (.int .i64 (0))).setCell ⟨wr.heap.size, 1, none⟩ (.int .i64 (0))) := Below.setCell (Below.setCell hbd' (by first | exact szc | exact Nat.le_refl _) _) (by first | exact szc | exact Nat.le_refl _) _
               have K6 : Hid (Bk ((wd.setCell ⟨wr.heap.size, 0, none⟩ (.int .i64 (0))).setCell ⟨wr.heap.size, 1, none⟩ (.int .i64 (0))) wr.heap.size 23 #[.int .i64 (0), .int .i64 (0)]) := ((kz.set_ 0 (.int .i64 (0))).set_ 1 (.int .i64 (0)))
               obtain ⟨W6, hW6⟩ : ∃ W, (wd.setCell ⟨wr.heap.size, 0, none⟩ (.int .i64 (0))).setCell ⟨wr.heap.size, 1, none⟩ (.int .i64 (0)) = W := ⟨_, rfl⟩
               clear kz kzz
               rw [hW6] at K6 hb6 ⊢
               have HB6 := Lib.hid hb6
               clear hW6 hb6
               go_wp2_with fail
               go_meet
               exact ⟨_, rfl, rfl, K6, HB6⟩)
        obtain ⟨g6, rfl, rfl, KA6, HBX⟩ := hcut
        obtain ⟨wx, hwx⟩ : ∃ W, wc = W := ⟨_, rfl⟩
        rw [hwx] at KA6 HBX ⊢
        clear hwx
        have HB9 := Lib.hid (HB8.out.trans (HBX.out.mono HB8.out.size))
        have K39 := Lib.hid (K38.out.later HBX.out)
        have HS9 := Lib.hid (HS8.out.below HBX.out)
        have HF9 := Lib.hid (HF8.out.below HBX.out)
        have HL9 := Lib.hid (HL8.out.below HBX.out)
        have HO9 := Lib.hid (HO8.out.below HBX.out)
        clear HB8 K38 HS8 HF8 HL8 HO8
        clear HBX
        have KA9 := Lib.hid KA6.out
        clear KA6
        obtain ⟨m0, m1, m2, m3⟩ := four K39.out
        go_wp2_with fail
        clear m0 m1 m2 m3
        refine (CLo.out _ _ _ HO9.out hcv).mono ?_
        rintro e wy ⟨rfl, hb⟩
        have HBY := Lib.hid hb
        clear hb
        clear HO9
        have HB10 := Lib.hid (HB9.out.trans (HBY.out.mono HB9.out.size))
        have K310 := Lib.hid (K39.out.later HBY.out)
        have HS10 := Lib.hid (HS9.out.below HBY.out)
        have HF10 := Lib.hid (HF9.out.below HBY.out)
        have HL10 := Lib.hid (HL9.out.below HBY.out)
        have KA10 := Lib.hid (KA9.out.later HBY.out)
        clear HB9 K39 HS9 HF9 HL9 KA9
        clear HBY
        obtain ⟨m0, m1, m2, m3⟩ := four K310.out
        obtain ⟨p0, p1⟩ := bkf2 KA10.out
        obtain ⟨q0, q1⟩ := bkf2 (KA10.out.later (below1 wy (.cells #[.int .i64 (0), .int .i64 (0)] 23)))
        have hB2 := Lib.hid (HB10.out.alloc HB10.out.size (.cells #[.int .i64 (0), .int .i64 (0)] 23))
        go_wp2
        go_ret
        exact ⟨rfl, hB2.out⟩

end Go.Proofs.Ytccoflhoggpgoaa

namespace Go.Proofs.Ytccoflhoggpgoaa
open Go.RowKit

open Go.Shelf

theorem mtE_ok {L H G P : Int} (hL : 1 ≤ L ∧ L ≤ 50) (hH : 1 ≤ H ∧ H ≤ L) (hG : 0 ≤ G ∧ G ≤ 1073676289) (hP : 0 ≤ P ∧ P ≤ 100) : mtE L H G P = 0 := by
  unfold mtE
  rw [rngE_one, rngE_one, rngE_one, rngE_one, if_pos hL, if_pos hH, if_pos hG, if_pos hP]
  rfl
theorem es_at (xs : List Int) (l h i : Nat) (hi : i < kN xs.length l h) : (esL xs l h).getD i 0 = sqS ((xs.drop (i * h)).take l) := by
  unfold esL
  rw [List.getD_eq_getElem?_getD, List.getElem?_map, List.getElem?_range hi]; rfl
theorem gates_any (L H G P : Int) (B : Option Addr) (n c : Nat) (xs : List Int) (more : Int) (w : World) (hr : RdI w B n xs) (_hnc : n ≤ c) (_hcm : c ≤ 9223372036854775807) (hnn : B = none → n = 0 ∧ c = 0) :
    Calls Try.prog 6 #[.agg #[.int .i64 L, .int .i64 H, .int .i64 G, .int .i64 P], .slice B n c, .int .i64 more] w fun e w' => e = .returned (.bool true) ∧ Below w.heap.size w w' := by
  by_cases hn : 60 < n
  · exact gates_1 L H G P B n c more w hn
  have CM := fun w => refMeterErr_any L H G P w
  by_cases hm : mtE L H G P = 0
  case neg => exact gates_2 L H G P B n c more w hn _ hm CM
  rw [hm] at CM
  have CS := fun W (hb : Below w.heap.size w W) => refSignalErr_any B n c xs W (hr.below hb) (by omega)
  by_cases hsg : sgE xs = 0
  case neg => exact gates_3 L H G P B n c more w hn CM _ hsg CS
  rw [hsg] at CS
  obtain ⟨hL, hH, hG, hP⟩ := mtE_zero hm
  obtain ⟨hxl, hsm⟩ := sgE_zero hsg
  have CW := fun w => within_any more 0 (1073676289 - G) w
  by_cases hmo : 0 ≤ more ∧ more ≤ 1073676289 - G
  case neg =>
    have hf : fromB 0 (1073676289 - G) [more] = false := by
      cases hb : fromB 0 (1073676289 - G) [more] with
      | false => rfl
      | true => simp [fromB] at hb; exact absurd hb hmo
    rw [hf] at CW
    exact gates_4 L H G P B n c more w hn CM CS hG CW
  have hf : fromB 0 (1073676289 - G) [more] = true := by simp [fromB]; exact hmo
  rw [hf] at CW
  obtain ⟨l, rfl⟩ : ∃ l : Nat, L = l := ⟨L.toNat, by omega⟩
  obtain ⟨h, rfl⟩ : ∃ h : Nat, H = h := ⟨H.toNat, by omega⟩
  have hln := hr.1
  have hok : enOk (esL xs l h) := esL_ok ⟨hxl, hsm⟩ (by omega) (by omega)
  have hel : (esL xs l h).length = kN n l h := by rw [esL_len, hln]
  have hKn : kN n l h ≤ n := kN_le (by omega) (by omega)
  have gb : ∀ G' P', 0 ≤ G' ∧ G' ≤ 1073676289 → 0 ≤ P' ∧ P' ≤ 100 → gbE l h G' P' xs = 0 ∧ gbL l h G' P' xs = ctL (G' * l) P' (esL xs l h) := fun G' P' h1 h2 => by
    have e : gbE l h G' P' xs = 0 := by unfold gbE; rw [mtE_ok hL hH h1 h2, hsg]; rfl
    exact ⟨e, by unfold gbL; rw [if_pos e]; rfl⟩
  have CG : ∀ G' P', 0 ≤ G' ∧ G' ≤ 1073676289 → 0 ≤ P' ∧ P' ≤ 100 → ∀ A d W, RdI W A n xs → n ≤ d → Calls Try.prog 30 #[.agg #[.int .i64 l, .int .i64 h, .int .i64 G', .int .i64 P'], .slice A n d] W (OwnRes W 0 (ctL (G' * l) P' (esL xs l h))) := fun G' P' h1 h2 A d W hr' hd => by
    have h3 := GatedBlocks_any l h G' P' A n d xs W hr' (by omega) hd
    rwa [(gb G' P' h1 h2).1, (gb G' P' h1 h2).2] at h3
  have CGa := CG 0 0 (by omega) (by omega)
  rw [Int.zero_mul] at CGa
  have hlo : loR l h G P xs = loF l (esL xs l h) (ctN (G * l) P (esL xs l h) (esL xs l h).length) := by unfold loR; rw [if_pos (gb G P hG hP).1]; rfl
  have CLx := fun A d W (h' : RdI W A n xs) (hd : n ≤ d) => LoudnessOf_any l h G P A n d xs W h' (by omega) hd
  have CLo := fun A d W (h' : RdI W A n (xs.map fun x => -x)) (hd : n ≤ d) => LoudnessOf_any l h G P A n d (xs.map fun x => -x) W h' (by omega) hd
  rw [loR_neg hxl hsm] at CLo
  rw [hlo] at CLx CLo
  have hLS : ∀ i ∈ ctN (G * (l : Int)) P (esL xs l h) (esL xs l h).length, (i : Int) ∈ ctL (G * (l : Int)) 0 (esL xs l h) ∧ i < kN n l h := fun i hi => by
    have h1 : (i : Int) ∈ ctL (G * (l : Int)) P (esL xs l h) := List.mem_map.2 ⟨i, hi, rfl⟩
    have h2 := ctL_some hok h1
    rw [hel] at h2
    exact ⟨h2.1, by omega⟩
  have hFS : ∀ x ∈ ctL ((G + more) * (l : Int)) 0 (esL xs l h), x ∈ ctL (G * (l : Int)) 0 (esL xs l h) := fun x hx => ctL_fewer hok (Int.mul_le_mul_of_nonneg_right (by omega) (by omega)) hx
  have hgs := ctL_len (G * (l : Int)) 0 (esL xs l h)
  have hgf := ctL_len ((G + more) * (l : Int)) 0 (esL xs l h)
  have hid := ctN_len (G * (l : Int)) P (esL xs l h) (esL xs l h).length
  have CGl := CG G P hG hP
  obtain ⟨ids, hids⟩ : ∃ ids, ctN (G * (l : Int)) P (esL xs l h) (esL xs l h).length = ids := ⟨_, rfl⟩
  have hgl : ctL (G * (l : Int)) P (esL xs l h) = ids.map fun (i : Nat) => (i : Int) := by rw [← hids]; rfl
  rw [hids] at CLx CLo hLS hid
  rw [hgl] at CGl
  by_cases hz : ids.length = 0
  · have e1 : loF l (esL xs l h) ids = ((0, 0), 12) := if_pos hz
    rw [e1] at CLx CLo
    exact gates_n l h (kN n l h) G P B n c xs more w hr hnn hn (by omega) (by omega) hG hP hmo hsm _ _ _ ids (by rw [ctL_all hok, hel]) (by omega) (by omega) (by omega) (fun k => kN_lt (by omega)) hKn hFS hLS CM CS CW CGa (CG G 0 hG (by omega)) (CG (G + more) 0 (by omega) (by omega)) CGl CLx CLo (List.eq_nil_of_length_eq_zero hz)
  · have e1 : loF l (esL xs l h) ids = ((fN (lsS (esL xs l h) ids) (ids.length * l), fD (lsS (esL xs l h) ids) (ids.length * l)), 0) := if_neg hz
    rw [e1] at CLx CLo
    have hi : ∀ i ∈ ids, i < (esL xs l h).length := fun i hi => by rw [hel]; exact (hLS i hi).2
    have hbd := lsS_bd hok ids hi
    have hm0 : (0 : Int) < (ids.length : Int) := by omega
    have hl0 : (0 : Int) < (l : Int) := by omega
    have hml : (0 : Int) < (ids.length : Int) * l := Int.mul_pos hm0 hl0
    have hml2 : (ids.length : Int) * l ≤ 60 * 50 := Int.mul_le_mul (by omega) (by omega) (by omega) (by omega)
    obtain ⟨_, _, g3, g4, g5, g6, _, _⟩ := gcd_facts hbd.1 hml
    have hat : ∀ i ∈ ids, (esL xs l h).getD i 0 = sqS ((xs.drop (i * h)).take l) := fun i hi => es_at xs l h i (by rw [hln]; exact (hLS i hi).2)
    refine gates_f (fN (lsS (esL xs l h) ids) (ids.length * l)) (fD (lsS (esL xs l h) ids) (ids.length * l)) l h (kN n l h) G P B n c xs more w hr hnn hn (by omega) (by omega) hG hP hmo hsm _ _ _ ids (by rw [ctL_all hok, hel]) (by omega) (by omega) (by omega) (fun k => kN_lt (by omega)) hKn hFS hLS CM CS CW CGa (CG G 0 hG (by omega)) (CG (G + more) 0 (by omega) (by omega)) CGl CLx CLo ⟨g3, by omega⟩ ⟨g5, by omega⟩ (by omega) (lowB_frac hbd.1 hml) ?_ ?_
    · intro lo hlo2
      have hb2 : lo * ids.length ≤ lsS (esL xs l h) ids := by
        have := (lsS_between (es := (esL xs l h).map fun x => x) (lo := lo) (hi := 53683814450) ids (fun i hi2 => by rw [List.map_id', hat i hi2]; exact ⟨hlo2 i hi2, by have := hok.at (hi i hi2); rw [hat i hi2] at this; exact this.2⟩)).1
        rwa [List.map_id'] at this
      exact frac_low hbd.1 hm0 hl0 hb2
    · intro hi2 hhi
      have hb2 : lsS (esL xs l h) ids ≤ hi2 * ids.length := by
        have := (lsS_between (es := esL xs l h) (lo := 0) (hi := hi2) ids (fun i hi3 => by rw [hat i hi3]; exact ⟨by have := hok.at (hi i hi3); rw [hat i hi3] at this; exact this.1, hhi i hi3⟩)).2
        exact this
      exact frac_high hbd.1 hm0 hl0 hb2

end Go.Proofs.Ytccoflhoggpgoaa

namespace Go.Proofs.Ytccoflhoggpgoaa.op
open Go.ChangeShapes Go.WideShapes Go.ChangeAt Go.RowKit

theorem own : ownKnob Try.prog.godebug = none := by kernel_rfl
theorem laidOut : laidOutB Try.prog = true := by kernel_rfl
theorem cellsInt1 : Try.prog.cellsOf 3 = 1 := by kernel_rfl
theorem cellsI : Try.prog.cellsOf 3 = 1 := cellsInt1
theorem cellsInts : Try.prog.cellsOf 43 = 1 := by kernel_rfl
theorem lt_of_cell {w : World} {a : Addr} {v : Value} (h : w.cell? a = some v) : a.block < w.heap.size := World.block_lt_of_cell? _ _ h

set_option maxRecDepth 100000 in
theorem open_frac {H : Type} {enc : TypeId × Value → H} {w : World} {base : Nat} {spare : Nat → Bool} {held : Bool} {r : Reach} {b0 : Nat} {v : Value} {d : DataW H} {p : List MemPlace}
    (hv : Value.okWide Try.prog w r b0 23 v) (h : DataW.Trod enc Try.prog w base spare held 23 v d p) :
    ∃ z0 z1 : Int, v = .agg #[.int .i64 z0, .int .i64 z1] := by
  obtain ⟨cs, rfl, hsz⟩ := okWide_struct Try.underlying23 hv
  obtain ⟨fuel, hf⟩ := h
  obtain ⟨xs, n, _, _, hl, hxl, hg⟩ := DataW.trod_struct Try.underlying23 hf
  have h3 : Try.prog.cellsOf 23 = 2 := by kernel_rfl
  obtain ⟨l⟩ := cs
  have hl3 : l.length = 2 := by rw [← h3]; simpa using hsz
  match l, hl3, xs, hxl with
  | [c0, c1], _, [y0, y1], _ =>
    have g0 := hg 0 _ rfl
    have g1 := hg 1 _ rfl
    simp [Value.cells, cellsI] at g0 g1
    obtain ⟨z0, e0, _, _⟩ := DataW.trod_int Try.underlying3 g0
    obtain ⟨z1, e1, _, _⟩ := DataW.trod_int Try.underlying3 g1
    simp at e0 e1
    exact ⟨z0, z1, by rw [e0, e1]⟩

set_option maxRecDepth 100000 in
theorem open_test {H : Type} {enc : TypeId × Value → H} {w : World} {base : Nat} {spare : Nat → Bool} {held : Bool} {r : Reach} {b0 : Nat} {v : Value} {d : DataW H} {p : List MemPlace}
    (hv : Value.okWide Try.prog w r b0 108 v) (h : DataW.Trod enc Try.prog w base spare held 108 v d p) :
    ∃ z0 z1 z2 : Int, v = .agg #[.int .i64 z0, .int .i64 z1, .int .i64 z2] := by
  obtain ⟨cs, rfl, hsz⟩ := okWide_struct Try.underlying108 hv
  obtain ⟨fuel, hf⟩ := h
  obtain ⟨xs, n, _, _, hl, hxl, hg⟩ := DataW.trod_struct Try.underlying108 hf
  have h3 : Try.prog.cellsOf 108 = 3 := by kernel_rfl
  obtain ⟨l⟩ := cs
  have hl3 : l.length = 3 := by rw [← h3]; simpa using hsz
  match l, hl3, xs, hxl with
  | [c0, c1, c2], _, [y0, y1, y2], _ =>
    have g0 := hg 0 _ rfl
    have g1 := hg 1 _ rfl
    have g2 := hg 2 _ rfl
    simp [Value.cells, cellsI] at g0 g1 g2
    obtain ⟨z0, e0, _, _⟩ := DataW.trod_int Try.underlying3 g0
    obtain ⟨z1, e1, _, _⟩ := DataW.trod_int Try.underlying3 g1
    obtain ⟨z2, e2, _, _⟩ := DataW.trod_int Try.underlying3 g2
    simp at e0 e1 e2
    exact ⟨z0, z1, z2, by rw [e0, e1, e2]⟩

set_option maxRecDepth 100000 in
theorem open_meter {H : Type} {enc : TypeId × Value → H} {w : World} {base : Nat} {spare : Nat → Bool} {held : Bool} {r : Reach} {b0 : Nat} {v : Value} {d : DataW H} {p : List MemPlace}
    (hv : Value.okWide Try.prog w r b0 42 v) (h : DataW.Trod enc Try.prog w base spare held 42 v d p) :
    ∃ z0 z1 z2 z3 : Int, v = .agg #[.int .i64 z0, .int .i64 z1, .int .i64 z2, .int .i64 z3] := by
  obtain ⟨cs, rfl, hsz⟩ := okWide_struct Try.underlying42 hv
  obtain ⟨fuel, hf⟩ := h
  obtain ⟨xs, n, _, _, hl, hxl, hg⟩ := DataW.trod_struct Try.underlying42 hf
  have h3 : Try.prog.cellsOf 42 = 4 := by kernel_rfl
  obtain ⟨l⟩ := cs
  have hl3 : l.length = 4 := by rw [← h3]; simpa using hsz
  match l, hl3, xs, hxl with
  | [c0, c1, c2, c3], _, [y0, y1, y2, y3], _ =>
    have g0 := hg 0 _ rfl
    have g1 := hg 1 _ rfl
    have g2 := hg 2 _ rfl
    have g3 := hg 3 _ rfl
    simp [Value.cells, cellsI] at g0 g1 g2 g3
    obtain ⟨z0, e0, _, _⟩ := DataW.trod_int Try.underlying3 g0
    obtain ⟨z1, e1, _, _⟩ := DataW.trod_int Try.underlying3 g1
    obtain ⟨z2, e2, _, _⟩ := DataW.trod_int Try.underlying3 g2
    obtain ⟨z3, e3, _, _⟩ := DataW.trod_int Try.underlying3 g3
    simp at e0 e1 e2 e3
    exact ⟨z0, z1, z2, z3, by rw [e0, e1, e2, e3]⟩

/-- Numbers as they come in. -/
theorem open_rd {H : Type} {enc : TypeId × Value → H} {w : World} {base : Nat} {spare : Nat → Bool} {held : Bool} {A : Option Addr} {n c : Nat} {d : DataW H} {p : List MemPlace}
    (h : DataW.Trod enc Try.prog w base spare held 43 (.slice A n c) d p) : ∃ l, RdI w A n l ∧ n ≤ c ∧ c ≤ 9223372036854775807 ∧ (A = none → n = 0 ∧ c = 0) := by
  obtain ⟨fuel, hf⟩ := h
  rcases open_ints Try.underlying43 Try.underlying3 cellsInt1 hf with ⟨hcs, _⟩ | ⟨a, len, cap, zs, hcs, _, hl, hm, hz, _, hcell, _⟩
  · simp [Value.cells] at hcs
    obtain ⟨rfl, rfl, rfl⟩ := hcs
    exact ⟨[], ⟨rfl, fun h => absurd h (by omega)⟩, by omega, by omega, fun _ => ⟨rfl, rfl⟩⟩
  · simp [Value.cells] at hcs
    obtain ⟨rfl, rfl, rfl⟩ := hcs
    have hlen : n ≤ zs.length := by rw [hz]; split <;> omega
    refine ⟨zs.take n, ⟨by rw [List.length_take]; omega, fun hn => ⟨a, rfl, ?_, fun j hj => ?_⟩⟩, hl, by unfold maxLen at hm; omega, fun h => by cases h⟩
    · have := lt_of_cell (hcell 0 (by omega))
      rwa [addBlock] at this
    · rw [hcell j (by omega)]
      simp [List.getD_eq_getElem?_getD, List.getElem?_take, hj]

/-- Numbers of a field as they come in. -/
theorem open_rdf {H : Type} {enc : TypeId × Value → H} {w : World} {base : Nat} {spare : Nat → Bool} {held : Bool} {fuel : Nat} {v : Value} {x : DataW H × List MemPlace}
    (hf : DataW.trod enc Try.prog w base spare held fuel 43 [v] = some x) : ∃ A n c l, v = .slice A n c ∧ RdI w A n l ∧ n ≤ c ∧ c ≤ 9223372036854775807 ∧ (A = none → n = 0 ∧ c = 0) := by
  rcases open_ints Try.underlying43 Try.underlying3 cellsInt1 hf with ⟨hcs, _⟩ | ⟨a, len, cap, zs, hcs, _, hl, hm, hz, _, hcell, _⟩
  · injection hcs with hcs
    exact ⟨none, 0, 0, [], hcs, ⟨rfl, fun h => absurd h (by omega)⟩, by omega, by omega, fun _ => ⟨rfl, rfl⟩⟩
  · injection hcs with hcs
    have hlen : len ≤ zs.length := by rw [hz]; split <;> omega
    refine ⟨some a, len, cap, zs.take len, hcs, ⟨by rw [List.length_take]; omega, fun hn => ⟨a, rfl, ?_, fun j hj => ?_⟩⟩, hl, by unfold maxLen at hm; omega, fun h => by cases h⟩
    · have := lt_of_cell (hcell 0 (by omega))
      rwa [addBlock] at this
    · rw [hcell j (by omega)]
      simp [List.getD_eq_getElem?_getD, List.getElem?_take, hj]
end Go.Proofs.Ytccoflhoggpgoaa.op

namespace Go.Proofs.Ytccoflhoggpgoaa.op
open Go.ChangeShapes Go.WideShapes Go.ChangeAt Go.RowKit

set_option maxRecDepth 100000 in
theorem openb_frac {H : Type} {enc : TypeId × Value → H} {w : World} {base : Nat} {spare : Nat → Bool} {held : Bool} {r : Reach} {b0 : Nat} {v : Value} {d : DataW H} {p : List MemPlace}
    (hv : Value.okWide Try.prog w r b0 23 v) (h : DataW.Trod enc Try.prog w base spare held 23 v d p) :
    ∃ z0 z1 : Int, v = .agg #[.int .i64 z0, .int .i64 z1] ∧ (-9223372036854775808 ≤ z0 ∧ z0 ≤ 9223372036854775807) ∧ (-9223372036854775808 ≤ z1 ∧ z1 ≤ 9223372036854775807) := by
  obtain ⟨cs, rfl, hsz⟩ := okWide_struct Try.underlying23 hv
  obtain ⟨fuel, hf⟩ := h
  obtain ⟨xs, n, _, _, hl, hxl, hg⟩ := DataW.trod_struct Try.underlying23 hf
  have h3 : Try.prog.cellsOf 23 = 2 := by kernel_rfl
  obtain ⟨l⟩ := cs
  have hl3 : l.length = 2 := by rw [← h3]; simpa using hsz
  match l, hl3, xs, hxl with
  | [c0, c1], _, [y0, y1], _ =>
    have g0 := hg 0 _ rfl
    have g1 := hg 1 _ rfl
    simp [Value.cells, cellsI] at g0 g1
    obtain ⟨z0, e0, _, f0⟩ := DataW.trod_int Try.underlying3 g0
    obtain ⟨z1, e1, _, f1⟩ := DataW.trod_int Try.underlying3 g1
    simp at e0 e1
    exact ⟨z0, z1, by rw [e0, e1], bounds_i64 f0, bounds_i64 f1⟩

set_option maxRecDepth 100000 in
theorem openb_meter {H : Type} {enc : TypeId × Value → H} {w : World} {base : Nat} {spare : Nat → Bool} {held : Bool} {r : Reach} {b0 : Nat} {v : Value} {d : DataW H} {p : List MemPlace}
    (hv : Value.okWide Try.prog w r b0 42 v) (h : DataW.Trod enc Try.prog w base spare held 42 v d p) :
    ∃ z0 z1 z2 z3 : Int, v = .agg #[.int .i64 z0, .int .i64 z1, .int .i64 z2, .int .i64 z3] ∧ (-9223372036854775808 ≤ z0 ∧ z0 ≤ 9223372036854775807) ∧ (-9223372036854775808 ≤ z1 ∧ z1 ≤ 9223372036854775807) ∧ (-9223372036854775808 ≤ z2 ∧ z2 ≤ 9223372036854775807) ∧ (-9223372036854775808 ≤ z3 ∧ z3 ≤ 9223372036854775807) := by
  obtain ⟨cs, rfl, hsz⟩ := okWide_struct Try.underlying42 hv
  obtain ⟨fuel, hf⟩ := h
  obtain ⟨xs, n, _, _, hl, hxl, hg⟩ := DataW.trod_struct Try.underlying42 hf
  have h3 : Try.prog.cellsOf 42 = 4 := by kernel_rfl
  obtain ⟨l⟩ := cs
  have hl3 : l.length = 4 := by rw [← h3]; simpa using hsz
  match l, hl3, xs, hxl with
  | [c0, c1, c2, c3], _, [y0, y1, y2, y3], _ =>
    have g0 := hg 0 _ rfl
    have g1 := hg 1 _ rfl
    have g2 := hg 2 _ rfl
    have g3 := hg 3 _ rfl
    simp [Value.cells, cellsI] at g0 g1 g2 g3
    obtain ⟨z0, e0, _, f0⟩ := DataW.trod_int Try.underlying3 g0
    obtain ⟨z1, e1, _, f1⟩ := DataW.trod_int Try.underlying3 g1
    obtain ⟨z2, e2, _, f2⟩ := DataW.trod_int Try.underlying3 g2
    obtain ⟨z3, e3, _, f3⟩ := DataW.trod_int Try.underlying3 g3
    simp at e0 e1 e2 e3
    exact ⟨z0, z1, z2, z3, by rw [e0, e1, e2, e3], bounds_i64 f0, bounds_i64 f1, bounds_i64 f2, bounds_i64 f3⟩

theorem openb_int {H : Type} {enc : TypeId × Value → H} {w : World} {base : Nat} {spare : Nat → Bool} {held : Bool} {z : Int} {d : DataW H} {p : List MemPlace}
    (h : DataW.Trod enc Try.prog w base spare held 3 (.int .i64 z) d p) : -9223372036854775808 ≤ z ∧ z ≤ 9223372036854775807 := by
  obtain ⟨fuel, hf⟩ := h
  obtain ⟨z0, e0, _, f0⟩ := DataW.trod_int Try.underlying3 hf
  simp [Value.cells] at e0
  subst e0
  exact bounds_i64 f0
end Go.Proofs.Ytccoflhoggpgoaa.op

