import Derived.Test.YtccoflhoggpgoaaRkad
import Derived.Test.YtccoflhoggpgoaaRkaa
import Derived.Test.YtccoflhoggpgoaaRows
import Derived.ProofKit
import Derived.OpenShut
import Derived.Deep.Slices
import Derived.Test.YtccoflhoggpgoaaRkab
namespace Go.Proofs.Ytccoflhoggpgoaa
open Go.RowKit

open Go.Shelf

set_option maxRecDepth 100000 in
set_option maxHeartbeats 4000000 in
theorem refDisagreements_any (A : Option Addr) (n c : Nat) (p : List (List Int)) (B : Option Addr) (d : Nat) (o : List Int) (w : World) (hp : RdGo w A n p) (ho : RdI w B n o) (hn : n ≤ 6) (hv : VP n p) (hvo : VO n o) :
    Calls Try.prog 73 #[.slice A n c, .slice B n d] w fun e w' => e = .returned (.int .i64 (dsF p o)) ∧ ∃ q, w' = w.drewN q := by
  have HP := Lib.hid hp
  have HO := Lib.hid ho
  have HV := Lib.hid hv
  have HVO := Lib.hid hvo
  have hol : o.length = n := hvo.1
  have hb : ∀ x ∈ o, ∀ y ∈ o, 0 ≤ agE p x y ∧ agE p x y ≤ 1000 := fun x hx y hy => hv.ent (hvo.2 y hy) (hvo.2 x hx)
  have HF : Hid (dsF p o = psP (agE p) o n) := by show _ = _; rw [← agF_eq, ← psP_end, hol]
  have HBD := Lib.hid (psP_bd hb (by omega))
  have HRB := Lib.hid (fun i (hi : i < n) a b => psR_part hb (by omega) (getD_mem (l := o) (i := i) (by omega)) a b)
  have HST := Lib.hid (psP_step (agE p) o)
  have HNX := Lib.hid (fun x i k (h : i ≤ k) (h2 : k < n) => psR_next (agE p) x o i k h (by omega))
  rw [hol] at HST HBD
  obtain ⟨V, hV⟩ : ∃ V, dsF p o = V := ⟨_, rfl⟩
  rw [hV] at HF ⊢
  clear hp ho hv hvo hV hol hb
  go_enter Try.func73, Try.ntmps73
  go_wp2
  go_loopw [5, 6] (fun s i wr => ∃ k : Nat, k ≤ n ∧ i = .int .i64 k ∧ s = .int .i64 (psP (agE p) o k) ∧ Hid (∃ q, wr = w.drewN q)) (fun _ i _ => n - (intOf i).toNat)
  case atStart => exact ⟨0, Nat.zero_le _, rfl, rfl, ⟨0, rfl⟩⟩
  case round =>
    obtain ⟨i, hi, rfl, rfl, HD⟩ := hrel
    obtain ⟨q, rfl⟩ := HD.out
    by_cases hlt : i < n
    · have hiI : (i : Int) < (n : Int) := by omega
      have hi0 : (0 : Int) ≤ (i : Int) := by omega
      obtain ⟨bd, hB, _, hcb⟩ := HO.out.2 (by omega)
      subst hB
      have hci := hcb i hlt
      have hxv := HVO.out.at hlt
      have HSI := Lib.hid (HST.out i)
      have hbi := HBD.out i hi
      have HRI := Lib.hid (HRB.out i hlt)
      have HNI := Lib.hid (HNX.out (o.getD i 0))
      obtain ⟨x, hx⟩ : ∃ x, o.getD i 0 = x := ⟨_, rfl⟩
      rw [hx] at hci hxv HSI HRI HNI
      obtain ⟨x, rfl⟩ : ∃ xn : Nat, x = xn := ⟨x.toNat, by omega⟩
      obtain ⟨s0, hs0⟩ : ∃ s, psP (agE p) o i = s := ⟨_, rfl⟩
      rw [hs0] at HSI hbi ⊢
      obtain ⟨ad, ha, _, hca⟩ := HP.out.2 (by omega)
      subst ha
      have hxn : x < n := by omega
      have hxI : (x : Int) < (n : Int) := by omega
      have hx0 : (0 : Int) ≤ (x : Int) := by omega
      have HCA := Lib.hid hca
      have HCB := Lib.hid hcb
      obtain ⟨i1, hi1⟩ : ∃ j, i + 1 = j := ⟨_, rfl⟩
      have hiw : IntKind.i64.wrap ((i : Int) + 1) = (i1 : Int) := by rw [IntWalk.i64_in _ (by omega)]; omega
      rw [hi1] at HSI
      have HI1 := Lib.hid hi1
      have hi1n : i1 ≤ n := by omega
      clear hca hcb hx hs0 hi1
      go_wp2
      go_loopw [5, 7] (fun s i wr => ∃ k : Nat, i1 ≤ k ∧ k ≤ n ∧ i = .int .i64 k ∧ s = .int .i64 (s0 + psR (agE p) x ((o.drop i1).take (k - i1))) ∧ Hid (∃ q, wr = w.drewN q)) (fun _ i _ => n - (intOf i).toNat)
      case atStart => exact ⟨i1, Nat.le_refl _, hi1n, rfl, by rw [Nat.sub_self]; show _ = Value.int .i64 (s0 + 0); rw [Int.add_zero], ⟨q, rfl⟩⟩
      case round =>
        obtain ⟨k, hk1, hk, rfl, rfl, HD2⟩ := hrel
        obtain ⟨q2, rfl⟩ := HD2.out
        by_cases hkl : k < n
        · have hkI : (k : Int) < (n : Int) := by omega
          have hk0 : (0 : Int) ≤ (k : Int) := by omega
          have hck := HCB.out k hkl
          have hyv := HVO.out.at hkl
          have HSN := Lib.hid (HNI.out i1 k hk1 hkl)
          have hbk := HRI.out i1 (k - i1)
          obtain ⟨y, hy⟩ : ∃ x, o.getD k 0 = x := ⟨_, rfl⟩
          rw [hy] at hck hyv HSN
          obtain ⟨y, rfl⟩ : ∃ xn : Nat, y = xn := ⟨y.toNat, by omega⟩
          have hyn : y < n := by omega
          have hyI : (y : Int) < (n : Int) := by omega
          have hy0 : (0 : Int) ≤ (y : Int) := by omega
          obtain ⟨R, m, rc, hrow, hrd, _⟩ := HCA.out y hyn
          have hrl := (HV.out.row hyn).1
          have hmn : m = n := by have := hrd.1; omega
          subst hmn
          obtain ⟨rd, hR, _, hcr⟩ := hrd.2 (by omega)
          subst hR
          have hcx : w.cell? (rd.add x) = some (.int .i64 (agE p x y)) := by rw [hcr x hxn]; rfl
          have hav := HV.out.ent (x := (y : Int)) (y := (x : Int)) (by omega) (by omega)
          have hae : agE p x y = ent p y x := rfl
          rw [← hae] at hav
          obtain ⟨e1, he1⟩ : ∃ e, agE p x y = e := ⟨_, rfl⟩
          rw [he1] at hcx hav HSN
          obtain ⟨r, hr⟩ : ∃ e, psR (agE p) x ((o.drop i1).take (k - i1)) = e := ⟨_, rfl⟩
          rw [hr] at HSN hbk ⊢
          have hw : IntKind.i64.wrap (s0 + r + e1) = s0 + r + e1 := IntWalk.i64_in _ (by omega)
          clear hrd hrl hcr hy hae he1 hr
          go_wp2
          go_quiet (fail)
          go_wp2
          go_roundw
          case rel => exact ⟨k + 1, by omega, by omega, by go_num, by rw [HSN.out, Int.add_assoc], ⟨_, by first | rfl | exact World.drewN_drewN _ _ _⟩⟩
          case measure => simp only [intOf]; omega
        · obtain rfl : n = k := by omega
          have hkI : ¬ (n : Int) < (n : Int) := by omega
          rw [← HSI.out]
          go_wp2
          go_roundw
          case rel => exact ⟨i1, by omega, by first | rfl | go_num | (rw [hiw]), rfl, ⟨_, by first | rfl | exact World.drewN_drewN _ _ _⟩⟩
          case measure => have := HI1.out; simp only [intOf]; omega
    · obtain rfl : n = i := by omega
      have hiI : ¬ (n : Int) < (n : Int) := by omega
      rw [← HF.out]
      go_wp2
      go_ret
      exact ⟨rfl, HD.out⟩

end Go.Proofs.Ytccoflhoggpgoaa

namespace Go.Proofs.Ytccoflhoggpgoaa
open Go.RowKit

open Go.Shelf

set_option maxRecDepth 100000 in
set_option maxHeartbeats 4000000 in
theorem refRankingBound_any (A : Option Addr) (n c : Nat) (p : List (List Int)) (w : World) (hp : RdGo w A n p) (hn : n ≤ 6) (hv : VP n p) :
    Calls Try.prog 71 #[.slice A n c] w fun e w' => e = .returned (.int .i64 (rbF p)) ∧ ∃ q, w' = w.drewN q := by
  have HP := Lib.hid hp
  have HV := Lib.hid hv
  have hol : (rgL n).length = n := rgL_len n
  have hb : ∀ x ∈ rgL n, ∀ y ∈ rgL n, 0 ≤ mnE p x y ∧ mnE p x y ≤ 1000 := fun x hx y hy => mnE_bd hv (rgL_mem hx) (rgL_mem hy)
  have HF : Hid (rbF p = psP (mnE p) (rgL n) n) := by
    show _ = _
    have h := psP_end (mnE p) (rgL n)
    rw [hol] at h
    rw [rbF_pairs, hp.1, h]; rfl
  have HBD := Lib.hid (psP_bd hb (by omega))
  have HRB := Lib.hid (fun i (hi : i < n) a b => psR_part hb (by omega) (getD_mem (l := rgL n) (i := i) (by omega)) a b)
  have HST := Lib.hid (psP_step (mnE p) (rgL n))
  have HNX := Lib.hid (fun x i k (h : i ≤ k) (h2 : k < n) => psR_next (mnE p) x (rgL n) i k h (by omega))
  have HAT := Lib.hid (fun i (h : i < n) => rgL_at n i h)
  rw [hol] at HST HBD
  obtain ⟨V, hV⟩ : ∃ V, rbF p = V := ⟨_, rfl⟩
  rw [hV] at HF ⊢
  obtain ⟨o, ho⟩ : ∃ o, rgL n = o := ⟨_, rfl⟩
  rw [ho] at HF HBD HRB HST HNX HAT
  clear hp hv hV hol hb ho
  go_enter Try.func71, Try.ntmps71
  go_wp2
  go_loopw [3, 4] (fun s i wr => ∃ k : Nat, k ≤ n ∧ i = .int .i64 k ∧ s = .int .i64 (psP (mnE p) o k) ∧ Hid (∃ q, wr = w.drewN q)) (fun _ i _ => n - (intOf i).toNat)
  case atStart => exact ⟨0, Nat.zero_le _, rfl, rfl, ⟨0, rfl⟩⟩
  case round =>
    obtain ⟨ir, hi, rfl, rfl, HD⟩ := hrel
    obtain ⟨q, rfl⟩ := HD.out
    by_cases hlt : ir < n
    · have hiI : (ir : Int) < (n : Int) := by omega
      have hi0 : (0 : Int) ≤ (ir : Int) := by omega
      have HSI := Lib.hid (HST.out ir)
      have hbi := HBD.out ir hi
      have HRI := Lib.hid (HRB.out ir hlt)
      have HNI := Lib.hid (HNX.out (o.getD ir 0))
      rw [HAT.out ir hlt] at HSI HRI HNI
      obtain ⟨s0, hs0⟩ : ∃ s, psP (mnE p) o ir = s := ⟨_, rfl⟩
      rw [hs0] at HSI hbi ⊢
      obtain ⟨ad, ha, _, hca⟩ := HP.out.2 (by omega)
      subst ha
      have HCA := Lib.hid hca
      obtain ⟨i1, hi1⟩ : ∃ j, ir + 1 = j := ⟨_, rfl⟩
      have hiw : IntKind.i64.wrap ((ir : Int) + 1) = (i1 : Int) := by rw [IntWalk.i64_in _ (by omega)]; omega
      rw [hi1] at HSI
      have HI1 := Lib.hid hi1
      have hi1n : i1 ≤ n := by omega
      clear hca hs0 hi1
      go_wp2
      go_loopw [3, 5] (fun s i wr => ∃ k : Nat, i1 ≤ k ∧ k ≤ n ∧ i = .int .i64 k ∧ s = .int .i64 (s0 + psR (mnE p) (ir : Int) ((o.drop i1).take (k - i1))) ∧ Hid (∃ q, wr = w.drewN q)) (fun _ i _ => n - (intOf i).toNat)
      case atStart => exact ⟨i1, Nat.le_refl _, hi1n, rfl, by rw [Nat.sub_self]; show _ = Value.int .i64 (s0 + 0); rw [Int.add_zero], ⟨q, rfl⟩⟩
      case round =>
        obtain ⟨k, hk1, hk, rfl, rfl, HD2⟩ := hrel
        obtain ⟨q2, rfl⟩ := HD2.out
        by_cases hkl : k < n
        · have hkI : (k : Int) < (n : Int) := by omega
          have hk0 : (0 : Int) ≤ (k : Int) := by omega
          have HSN := Lib.hid (HNI.out i1 k hk1 hkl)
          rw [HAT.out k hkl] at HSN
          have hbk := HRI.out i1 (k - i1)
          obtain ⟨B1, m1, c1, hr1, hd1, _⟩ := HCA.out ir hlt
          obtain ⟨B2, m2, c2, hr2, hd2, _⟩ := HCA.out k hkl
          have hm1 : m1 = n := by have := hd1.1; have := (HV.out.row hlt).1; omega
          have hm2 : m2 = n := by have := hd2.1; have := (HV.out.row hkl).1; omega
          subst hm1
          subst hm2
          obtain ⟨r1, hB1, _, hx1⟩ := hd1.2 (by omega)
          obtain ⟨r2, hB2, _, hx2⟩ := hd2.2 (by omega)
          subst hB1 hB2
          have he1 : w.cell? (r1.add k) = some (.int .i64 (ent p ir k)) := by rw [hx1 k hkl]; rfl
          have he2 : w.cell? (r2.add ir) = some (.int .i64 (ent p k ir)) := by rw [hx2 ir hlt]; rfl
          have h1 := HV.out.ent (x := (ir : Int)) (y := (k : Int)) (by omega) (by omega)
          have h2 := HV.out.ent (x := (k : Int)) (y := (ir : Int)) (by omega) (by omega)
          have hae : mnE p ir k = min (ent p ir k) (ent p k ir) := rfl
          rw [hae] at HSN
          obtain ⟨e1, hh1⟩ : ∃ e, ent p ir k = e := ⟨_, rfl⟩
          obtain ⟨e2, hh2⟩ : ∃ e, ent p k ir = e := ⟨_, rfl⟩
          rw [hh1] at he1 h1 HSN
          rw [hh2] at he2 h2 HSN
          have hmn := minB e1 e2
          have hmb : 0 ≤ min e1 e2 ∧ min e1 e2 ≤ 1000 := by omega
          obtain ⟨z, hz⟩ : ∃ z, min e1 e2 = z := ⟨_, rfl⟩
          rw [hz] at hmn HSN hmb
          obtain ⟨r, hr⟩ : ∃ e, psR (mnE p) ir ((o.drop i1).take (k - i1)) = e := ⟨_, rfl⟩
          rw [hr] at HSN hbk ⊢
          have hw : IntKind.i64.wrap (s0 + r + z) = s0 + r + z := IntWalk.i64_in _ (by omega)
          clear hd1 hd2 hx1 hx2 hae hh1 hh2 hz hr
          go_wp2
          go_quiet (fail)
          go_wp2
          go_roundw
          case rel => exact ⟨k + 1, by omega, by omega, by go_num, by rw [HSN.out, Int.add_assoc], ⟨_, by first | rfl | exact World.drewN_drewN _ _ _⟩⟩
          case measure => simp only [intOf]; omega
        · obtain rfl : n = k := by omega
          have hkI : ¬ (n : Int) < (n : Int) := by omega
          rw [← HSI.out]
          go_wp2
          go_roundw
          case rel => exact ⟨i1, by omega, by first | rfl | go_num | (rw [hiw]), rfl, ⟨_, by first | rfl | exact World.drewN_drewN _ _ _⟩⟩
          case measure => have := HI1.out; simp only [intOf]; omega
    · obtain rfl : n = ir := by omega
      have hiI : ¬ (n : Int) < (n : Int) := by omega
      rw [← HF.out]
      go_wp2
      go_ret
      exact ⟨rfl, HD.out⟩

end Go.Proofs.Ytccoflhoggpgoaa

namespace Go.Proofs.Ytccoflhoggpgoaa
open Go.RowKit

open Go.Shelf

/-- What the loop has gathered before item i. -/
def ordP (n f : Nat) (b : List Int) (i : Nat) : List (List Int) := (List.range i).flatMap fun (i : Nat) => if b.contains (Int.ofNat i) then [] else ordX n f (b ++ [Int.ofNat i])
theorem ordX_succ (n f : Nat) (b : List Int) : ordX n (f + 1) b = ordP n f b n := rfl
theorem ordP_step (n f : Nat) (b : List Int) (i : Nat) : ordP n f b (i + 1) = ordP n f b i ++ (if (i : Int) ∈ b then [] else ordX n f (b ++ [(i : Int)])) := by
  unfold ordP
  rw [List.range_succ, List.flatMap_append, List.flatMap_singleton]
  congr 1
  by_cases h : (i : Int) ∈ b
  · rw [if_pos h, if_pos (by simpa using h)]
  · rw [if_neg h, if_neg (by simpa using h)]; rfl
theorem ordP_len {n f : Nat} {b : List Int} {K : Nat} (h : ∀ b', (ordX n f b').length ≤ K) : ∀ i, (ordP n f b i).length ≤ i * K
  | 0 => by simp [ordP]
  | i + 1 => by
    rw [ordP_step, List.length_append, Nat.add_mul, Nat.one_mul]
    have h1 := ordP_len (b := b) h i
    by_cases hc : (i : Int) ∈ b
    · rw [if_pos hc, List.length_nil]; omega
    · rw [if_neg hc]
      have := h (b ++ [(i : Int)])
      omega
theorem ordX_len {n : Nat} (hn : n ≤ 6) : ∀ (f : Nat) (b : List Int), (ordX n f b).length ≤ 6 ^ f
  | 0, b => by simp [ordX]
  | f + 1, b => by
    rw [ordX_succ, Nat.pow_succ]
    have h := ordP_len (b := b) (ordX_len hn f) n
    have : n * 6 ^ f ≤ 6 * 6 ^ f := Nat.mul_le_mul_right _ hn
    omega
theorem nodup_sub : ∀ (l b : List Int), l.Nodup → (∀ x ∈ l, x ∈ b) → l.length ≤ b.length
  | [], _, _, _ => Nat.zero_le _
  | x :: l, b, hn, h => by
    have hx := h x (List.mem_cons_self ..)
    have hn2 := List.nodup_cons.1 hn
    have ih := nodup_sub l (b.erase x) hn2.2 (fun y hy => (List.mem_erase_of_ne (by rintro rfl; exact hn2.1 hy)).2 (h y (List.mem_cons_of_mem _ hy)))
    rw [List.length_erase_of_mem hx] at ih
    have : 0 < b.length := List.length_pos_of_mem hx
    rw [List.length_cons]; omega
theorem rgL_nodup (n : Nat) : (rgL n).Nodup := by
  refine List.Pairwise.map _ ?_ List.nodup_range
  intro a b hab he
  exact hab (Int.ofNat.inj he)
theorem free_some {n : Nat} {b : List Int} (h : b.length < n) : ∃ i : Nat, i < n ∧ (i : Int) ∉ b := by
  apply Classical.byContradiction
  intro hc
  have hs : ∀ x ∈ rgL n, x ∈ b := by
    intro x hx
    obtain ⟨i, hi, e⟩ := List.mem_map.1 hx
    have e2 : (i : Int) = x := e
    subst e2
    apply Classical.byContradiction
    intro hb
    exact hc ⟨i, List.mem_range.1 hi, hb⟩
  have := nodup_sub _ _ (rgL_nodup n) hs
  rw [rgL_len] at this
  omega
theorem ordX_ne (n : Nat) : ∀ (f : Nat) (b : List Int), b.length + f = n → ordX n f b ≠ []
  | 0, b, _ => by simp [ordX]
  | f + 1, b, h => by
    obtain ⟨i, hi, hb⟩ := free_some (b := b) (n := n) (by omega)
    have ih := ordX_ne n f (b ++ [(i : Int)]) (by rw [List.length_append]; simp; omega)
    rw [ordX_succ]
    unfold ordP
    intro hc
    rw [List.flatMap_eq_nil_iff] at hc
    have := hc i (List.mem_range.2 hi)
    rw [if_neg (by simpa using hb)] at this
    exact ih this
theorem row_cells {w : World} {base : Nat} {A : Option Addr} {c k : Nat} {xs : List Value} (h : w.ownsRow base 43 1 (.slice A k c) k xs) (hk : 0 < k) : ∃ ad, A = some ad ∧ ∀ j u, xs[j]? = some u → w.cell? (ad.add j) = some u := by
  rcases h.2 with ⟨e, h0⟩ | ⟨g, cap, cur, e, _, hh, hnc, _, _, htk⟩
  · have := h.1; rw [h0] at this; simp at this; omega
  · injection e with e1 e2 e3
    refine ⟨⟨g, 0, none⟩, e1, fun j u hu => ?_⟩
    rw [addOff, cell_of_row w g j cur 43 (0, 0) hh, ← Array.getElem?_toList]
    rw [← htk, List.getElem?_take] at hu
    by_cases hj : j < k * 1
    · rw [if_pos hj] at hu; simpa using hu
    · rw [if_neg hj] at hu; cases hu

end Go.Proofs.Ytccoflhoggpgoaa

namespace Go.Proofs.Ytccoflhoggpgoaa
open Go.RowKit

open Go.Shelf

set_option maxRecDepth 100000 in
set_option maxHeartbeats 8000000 in
theorem refOrders_any (n : Nat) (hn : n ≤ 6) : ∀ (f : Nat) (v : Value) (b : List Int) (w : World), b.length + f = n → RoC 0 (v, b) w →
    Calls Try.prog 122 #[.int .i64 (n : Int), v] w fun e w' => (∃ (pre : List Ro) (A : Option Addr) (c : Nat), e = .returned (.slice A pre.length c) ∧ w'.ownsRow w.heap.size 43 1 (.slice A pre.length c) pre.length (pre.map (·.1)) ∧ (∀ x ∈ pre, RoC 0 x w') ∧ pre.map (·.2) = ordX n f b) ∧ Below w.heap.size w w'
  | 0, v, b, w, hbn, hv => by
    obtain ⟨B, c, hvs, hnc, hr, hB⟩ := rd_ownN hv
    have hvs2 : v = .slice B b.length c := hvs
    subst hvs2
    have HV := Lib.hid hv
    have hbl : b.length = n := by omega
    rw [hbl]
    rw [hbl] at HV
    have HBL := Lib.hid hbl
    clear hv hvs hr hB hbn hbl
    go_enter Try.func122, Try.ntmps122
    go_wp2
    go_ret
    refine ⟨⟨[(.slice B n c, b)], some ⟨w.heap.size, 0, none⟩, 1, rfl, World.ownsRow_lit w #[.slice B n c] 1 (Nat.le_refl _) (by unfold maxLen; omega) rfl, ?_, rfl⟩, (Below.refl _ _).alloc (Nat.le_refl _) _⟩
    intro x y hx
    rw [List.mem_singleton] at hx
    cases hx
    exact ownBelow HV.out ((Below.refl _ _).alloc (Nat.le_refl _) _)
  | f + 1, v, b, w, hbn, hv => by
    obtain ⟨i0, hi0, hz0, hz1, hz2⟩ := info_parts slInfo
    obtain ⟨j0, hj0, hy0, hy1, hy2⟩ := info_parts intInfo'
    have HIH := Lib.hid (fun v b' W (h1 : b'.length + f = n) h2 => refOrders_any n hn f v b' W h1 h2)
    have HKL := Lib.hid (fun b' => ordX_len (n := n) hn f b')
    have HPL : Hid (∀ i, i ≤ n → (ordP n f b i).length ≤ 46656) := fun i hi => by
      have h1 := ordP_len (b := b) (ordX_len (n := n) hn f) i
      have h2 : 6 ^ f ≤ 6 ^ 5 := Nat.pow_le_pow_right (by omega) (by omega)
      have h3 : i * 6 ^ f ≤ 6 * 6 ^ 5 := Nat.mul_le_mul (by omega) h2
      omega
    have HNE : Hid (∀ i : Nat, ordX n f (b ++ [(i : Int)]) ≠ []) := fun i => ordX_ne n f _ (by rw [List.length_append]; simp; omega)
    have HST := Lib.hid (ordP_step n f b)
    have HEND : Hid (ordP n f b n = ordX n (f + 1) b) := rfl
    obtain ⟨L, hL⟩ : ∃ L, ordX n (f + 1) b = L := ⟨_, rfl⟩
    rw [hL] at HEND ⊢
    obtain ⟨B, c, hvs, hnc, hr, hB⟩ := rd_ownN hv
    have hvs2 : v = .slice B b.length c := hvs
    subst hvs2
    have HV := Lib.hid hv
    have HRB := Lib.hid hr
    have HBN := Lib.hid hB
    obtain ⟨k, hk⟩ : ∃ k, b.length = k := ⟨_, rfl⟩
    have HKB := Lib.hid hk
    have HBNF := Lib.hid hbn
    have hkn : k < n := by omega
    have hkI : ((k : Int) == (n : Int)) = false := by rw [beq_eq_false_iff_ne]; omega
    have hr2 : RdI w B k b := by rw [← hk]; exact hr
    have HR2 := Lib.hid hr2
    have hB2 : B = none → k = 0 ∧ c = 0 := by rw [← hk]; exact hB
    have HB2 := Lib.hid hB2
    have hnc2 : k ≤ c := by rw [← hk]; exact hnc
    rw [hk]
    clear hL hv hvs hr hB hnc hk hr2 hB2 HRB HBN HV hbn
    go_enter Try.func122, Try.ntmps122
    go_wp2
    go_loopw [5, 6] (fun v i wr => ∃ (i' : Nat) (pre : List Ro) (Av : Option Addr) (cv : Nat), v = .slice Av pre.length cv ∧ i' ≤ n ∧ i = .int .i64 i' ∧ Hid (pre.map (·.2) = ordP n f b i') ∧ Hid (wr.ownsRow w.heap.size 43 1 (.slice Av pre.length cv) pre.length (pre.map (·.1))) ∧ Hid (∀ x ∈ pre, RoC 0 x wr) ∧ Hid (Below w.heap.size w wr)) (fun _ i _ => n - (intOf i).toNat)
    case atStart => exact ⟨0, [], none, 0, rfl, Nat.zero_le _, rfl, Lib.hid rfl, Lib.hid (World.ownsRow_nil _ _ _ _), Lib.hid (fun x hx => absurd hx (by simp)), Lib.hid (Below.refl _ _)⟩
    case round =>
      obtain ⟨i, pre, Av, cv, rfl, hi, rfl, HQ, HR, HC, HB⟩ := hrel
      by_cases hlt : i < n
      · have hiI : (i : Int) < (n : Int) := by omega
        have hi00 : (0 : Int) ≤ (i : Int) := by omega
        have CH := Lib.hid (has_any B k c b (i : Int) wr (HR2.out.below HB.out) (by omega))
        obtain ⟨b2, hb2⟩ : ∃ b2, decide ((i : Int) ∈ b) = b2 := ⟨_, rfl⟩
        have HB2D := Lib.hid hb2
        rw [hb2] at CH
        clear hb2
        cases b2 with
        | true =>
          have HQ2 : Hid (pre.map (·.2) = ordP n f b (i + 1)) := by show _ = _; rw [HST.out, if_pos (of_decide_eq_true HB2D.out), List.append_nil, HQ.out]
          go_wp2_with fail
          refine CH.out.mono ?_
          rintro e w' ⟨rfl, rfl⟩
          go_wp2
          go_roundw
          case rel => exact ⟨i + 1, pre, Av, cv, rfl, by omega, by go_num, HQ2, HR, HC, HB⟩
          case measure => simp only [intOf]; omega
        | false =>
          have HT : Hid (ordP n f b (i + 1) = ordP n f b i ++ ordX n f (b ++ [(i : Int)])) := by show _ = _; rw [HST.out, if_neg (of_decide_eq_false HB2D.out)]
          have CC := Lib.hid (copyInts_any B k c b wr HB2.out (HR2.out.below HB.out) (by omega))
          have hpl := HPL.out i hi
          rw [← HQ.out, List.length_map] at hpl
          have hpl2 := HPL.out (i + 1) (by omega)
          rw [HT.out, List.length_append, ← HQ.out, List.length_map] at hpl2
          have hne := List.length_pos_iff.2 (HNE.out i)
          have hbl2 : (b ++ [(i : Int)]).length + f = n := by rw [List.length_append]; have := HBNF.out; simp; omega
          have HLL := Lib.hid hbl2
          obtain ⟨bb, hbb⟩ : ∃ bb, b ++ [(i : Int)] = bb := ⟨_, rfl⟩
          have HBB := Lib.hid hbb
          rw [hbb] at HT hpl2 hne HLL
          obtain ⟨X, hX⟩ : ∃ X, ordX n f bb = X := ⟨_, rfl⟩
          have HXX := Lib.hid hX
          rw [hX] at HT hpl2 hne
          obtain ⟨pl, hplv⟩ : ∃ pl, pre.length = pl := ⟨_, rfl⟩
          have HPLV := Lib.hid hplv
          rw [hplv] at HR hpl hpl2 ⊢
          obtain ⟨xl, hxl⟩ : ∃ xl, X.length = xl := ⟨_, rfl⟩
          have HXL := Lib.hid hxl
          rw [hxl] at hpl2 hne
          clear hbl2 hbb hX hplv hxl
          go_wp2_with fail
          refine CH.out.mono ?_
          rintro e w' ⟨rfl, rfl⟩
          go_wp2_with fail
          refine CC.out.mono ?_
          rintro e w1 ⟨⟨vr, rfl, hor⟩, hb1⟩
          have HNR := Lib.hid hor
          have HB1 := Lib.hid hb1
          have hsz1 := hb1.size
          have HSZ1 := Lib.hid hsz1
          have hkb := HKB.out
          rw [hkb] at HNR
          clear hb1 hor CC CH hsz1 hkb
          go_wp2_with (at_builtin; refine wpList_append_own _ rfl (.tmp 25) (.tmp 27) 43 rfl wr.heap.size 3 j0 _ 1 8 Try.underlying43 hj0 hy0 hy1 hy2 rfl (by decide) _ _ _ rfl (HNR.out.alloc _) ⟨w1.heap.size, 0, none⟩ 1 1 [.int .i64 (i : Int)] rfl rfl (cell_one_new _ _ _) (by simp [Value.oneCell']) (by unfold maxLen; omega) (by omega) (by have := HSZ1.out; simp; omega) ?_)
          intro vb w2 hob hgrow _
          have HBw : Hid (Below wr.heap.size w1 w2) := ((Below.refl wr.heap.size w1).alloc HSZ1.out (.cells #[.int .i64 (i : Int)] 3)).grown hgrow (by have := HSZ1.out; simp; omega) (fun z e => ((HNR.out.alloc (.cells #[.int .i64 (i : Int)] 3)).lt z e).1)
          have HOB : Hid (RoC 0 (vb, bb) w2) := by
            show World.ownsRow _ _ _ _ _ _ _
            have := ownMono hob (Nat.zero_le _)
            rw [← HBB.out, List.length_append, List.map_append, HKB.out]
            exact this
          have HB2 := Lib.hid (HB1.out.trans HBw.out)
          have HR2' := Lib.hid (ownBelow HR.out HB2.out)
          have HC2 : Hid (∀ x ∈ pre, RoC 0 x w2) := fun x hx => ownBelow (HC.out x hx) HB2.out
          have HBZ := Lib.hid (HB.out.trans (HB2.out.mono HB.out.size))
          have CO := Lib.hid (HIH.out vb bb w2 HLL.out HOB.out)
          rw [HXX.out] at CO
          clear hob hgrow HNR HB1 HSZ1 HBw HOB HR HC HB2
          go_wp2_with fail
          refine CO.out.mono ?_
          rintro e w3 ⟨⟨pre', A', c', rfl, hown', hrows, hmap⟩, hb3⟩
          have hpx : pre'.length = xl := by have := HXL.out; rw [← hmap, List.length_map] at this; exact this
          rw [hpx] at hown' ⊢
          obtain ⟨ad, hA', hcells⟩ := row_cells hown' (by omega)
          subst hA'
          have HCE := Lib.hid hcells
          have HRW := Lib.hid hrows
          have HMP := Lib.hid hmap
          have HPX := Lib.hid hpx
          have HR3 := Lib.hid (ownBelow HR2'.out hb3)
          have HC3 : Hid (∀ x ∈ pre, RoC 0 x w3) := fun x hx => ownBelow (HC2.out x hx) hb3
          have HB3 := Lib.hid (HBZ.out.trans (hb3.mono HBZ.out.size))
          have HONE : Hid (∀ u ∈ pre'.map (·.1), u.oneCell' = true) := by
            intro u hu
            obtain ⟨x, hx, rfl⟩ := List.mem_map.1 hu
            obtain ⟨_, _, e, _⟩ := rd_ownN (HRW.out x hx)
            rw [e]; rfl
          obtain ⟨xm, rfl⟩ : ∃ xm, xl = xm + 1 := ⟨xl - 1, by omega⟩
          clear hown' hcells hrows hmap hpx hb3 CO HR2' HC2 HBZ
          go_wp2_with (at_builtin; refine wpList_append_own _ rfl (.tmp 22) (.tmp 29) 95 rfl w.heap.size 43 i0 _ 1 24 Try.underlying95 hi0 hz0 hz1 hz2 rfl (by decide) _ _ _ rfl HR3.out ad (xm + 1) _ (pre'.map (·.1)) rfl (by rw [List.length_map, HPX.out, Nat.mul_one]) HCE.out HONE.out (by unfold maxLen; omega) (by omega) HB3.out.size ?_)
          intro v' w4 hown' hgrow _
          obtain ⟨g', cap', rfl⟩ := ownsRow_succ (k := pl + xm) hown'
          have HB4 : Hid (Below w.heap.size w w4) := HB3.out.grown hgrow HB3.out.size (fun z e => (HR3.out.lt z e).1)
          have hkp : ∀ x : Ro, RoC 0 x w3 → RoC 0 x w4 := by
            intro x hx
            refine hx.kept fun g hg => ?_
            have hlt2 := (hx.lt g hg).2
            have hne : some g ≠ (Value.slice Av pl cv).ownBlock := by
              rcases own_apart hx HR3.out with h | h
              · rw [h] at hg; cases hg
              · rw [← hg]; exact h
            exact hgrow.block g hlt2 hne
          have HC4 : Hid (∀ x ∈ pre ++ pre', RoC 0 x w4) := by
            intro x hx
            rcases List.mem_append.1 hx with h | h
            · exact hkp x (HC3.out x h)
            · exact hkp x (HRW.out x h)
          have HPL4 : Hid ((pre ++ pre').length = pl + (xm + 1)) := by show _ = _; rw [List.length_append, HPLV.out, HPX.out]
          have HR4 : Hid (w4.ownsRow w.heap.size 43 1 (.slice (some ⟨g', 0, none⟩) (pl + (xm + 1)) cap') (pl + (xm + 1)) ((pre ++ pre').map (·.1))) := by
            show World.ownsRow _ _ _ _ _ _ _
            rw [List.map_append]
            exact hown'
          have HQ4 : Hid ((pre ++ pre').map (·.2) = ordP n f b (i + 1)) := by show _ = _; rw [List.map_append, HQ.out, HT.out, HMP.out]
          obtain ⟨ap, hap⟩ : ∃ ap, pre ++ pre' = ap := ⟨_, rfl⟩
          rw [hap] at HC4 HPL4 HR4 HQ4
          rw [← HPL4.out] at HR4
          clear hown' hgrow hkp HC3 HR3 HRW hap
          go_wp2
          go_roundw
          case rel => exact ⟨i + 1, ap, _, _, by rw [HPL4.out]; rfl, by omega, by go_num, HQ4, HR4, HC4, HB4⟩
          case measure => simp only [intOf]; omega
      · obtain rfl : n = i := by omega
        have hiI : ¬ (n : Int) < (n : Int) := by omega
        go_wp2
        go_ret
        exact ⟨⟨pre, Av, cv, rfl, HR.out, fun a b h => HC.out (a, b) h, HQ.out.trans HEND.out⟩, HB.out⟩

end Go.Proofs.Ytccoflhoggpgoaa

namespace Go.Proofs.Ytccoflhoggpgoaa
open Go.RowKit

open Go.Shelf

set_option maxRecDepth 100000 in
set_option maxHeartbeats 8000000 in
theorem refBestRanking_any (A : Option Addr) (n c : Nat) (p : List (List Int)) (w : World) (hp : RdGo w A n p) (hn : n ≤ 6) (hv : VP n p) :
    Calls Try.prog 70 #[.slice A n c] w fun e w' => (∃ B d, e = .returned (.tuple #[.slice B n d, .int .i64 (dsF p (brF p))]) ∧ RdI w' B n (brF p)) ∧ Below w.heap.size w w' := by
  have CO := Lib.hid (refOrders_any n hn n (.slice none 0 0) [] w (by simp) (World.ownsRow_nil _ _ _ _))
  have HP := Lib.hid hp
  have HV := Lib.hid hv
  have HL1 := (ords_len n (by omega)).1
  have HL0 := (ords_len n (by omega)).2.1
  have HOM := Lib.hid (fun k hk => ords_mem (n := n) (k := k) (by omega) hk)
  have HVO := Lib.hid (fun k hk => ords_VO (n := n) (by omega) k hk)
  have HBR : Hid (brF p = mnK p (ords n) ((ords n).length - 1)) := by show _ = _; unfold brF; rw [hp.1]
  have HMK := Lib.hid (fun k (h : k < (ords n).length) => mnK_mem p (ords n) k h)
  rw [show ordX n n [] = ords n from rfl] at CO
  obtain ⟨br, hbr⟩ : ∃ b, brF p = b := ⟨_, rfl⟩
  rw [hbr] at HBR ⊢
  obtain ⟨L, hL⟩ : ∃ L, ords n = L := ⟨_, rfl⟩
  rw [hL] at CO HL1 HL0 HOM HVO HBR HMK
  obtain ⟨N, hN⟩ : ∃ N, L.length = N := ⟨_, rfl⟩
  rw [hN] at HL1 HL0 HOM HVO HBR HMK
  have HLN := Lib.hid hN
  clear hp hv hbr hL hN
  go_enter Try.func70, Try.ntmps70
  go_wp2_with fail
  refine CO.out.mono ?_
  rintro e w1 ⟨⟨pre, M, mc, rfl, hown, hrows, hmap⟩, hb⟩
  obtain ⟨M', mc', e1, _, hgo, _⟩ := rowsGo_of hown hrows hmap
  rw [HLN.out] at e1 hgo
  obtain ⟨rfl, hpl, rfl⟩ : M = M' ∧ pre.length = N ∧ mc = mc' := by injection e1 with e1 e2 e3; exact ⟨e1, e2, e3⟩
  rw [hpl]
  have HP1 := Lib.hid (HP.out.below hb)
  have HB1 := Lib.hid hb
  have HGO := Lib.hid hgo
  have DIS : Hid (∀ q B d o, RdI w1 B n o → VO n o → Calls Try.prog 73 #[.slice A n c, .slice B n d] (w1.drewN q) fun e w' => e = .returned (.int .i64 (dsF p o)) ∧ ∃ q', w' = w1.drewN q') := by
    intro q B d o h1 h2
    have hbq : Below w1.heap.size w1 (w1.drewN q) := blw_drewN (Below.refl _ _) q
    refine (refDisagreements_any A n c p B d o _ (HP1.out.below hbq) (h1.below hbq) hn HV.out h2).mono ?_
    rintro e w' ⟨rfl, q', rfl⟩
    exact ⟨rfl, q + q', by first | rfl | exact World.drewN_drewN _ _ _⟩
  have HROW : Hid (∀ j, j < N → ∃ B c, w1.cell? ((M.getD ⟨0, 0, none⟩).add j) = some (.slice B n c) ∧ RdI w1 B n (L.getD j [])) := by
    intro j hj
    obtain ⟨ad, ha, _, hc⟩ := HGO.out.2 HL0
    subst ha
    obtain ⟨B, m, c', h1, h2, _⟩ := hc j hj
    have hm : m = n := by have := h2.1; have := (HOM.out j hj).1; omega
    subst hm
    exact ⟨B, c', h1, h2⟩
  obtain ⟨md, hM, _, _⟩ := HGO.out.2 HL0
  subst hM
  have hN0 : (0 : Int) < (N : Int) := by omega
  have HROW2 : Hid (∀ j, j < N → ∃ B c, w1.cell? (md.add j) = some (.slice B n c) ∧ RdI w1 B n (L.getD j [])) := HROW.out
  obtain ⟨B0, c0, h00, hr0⟩ := HROW2.out 0 HL0
  have HM0 : Hid (RdI w1 B0 n (mnK p L 0)) := hr0
  have h01 := h00
  rw [addZ] at h01
  clear e1 hgo hown hrows hmap hpl hb hr0 HROW HGO CO HP
  go_wp2
  clear h00 h01
  go_loopw [5, 6] (fun v i wr => ∃ (k : Nat) (B : Option Addr) (d : Nat), k < N ∧ i = .int .i64 ((k + 1 : Nat) : Int) ∧ v = .slice B n d ∧ Hid (RdI w1 B n (mnK p L k)) ∧ Hid (∃ q, wr = w1.drewN q)) (fun _ i _ => N - (intOf i).toNat)
  case atStart => exact ⟨0, B0, c0, HL0, rfl, rfl, HM0, ⟨0, rfl⟩⟩
  case round =>
    obtain ⟨k, B, d, hk, rfl, rfl, HM, HD⟩ := hrel
    obtain ⟨q, rfl⟩ := HD.out
    have hvm : VO n (mnK p L k) := by
      obtain ⟨j, hj, e⟩ := HMK.out k hk
      rw [e]; exact HVO.out j (by omega)
    have HVM := Lib.hid hvm
    clear hvm
    obtain ⟨k1, hk1⟩ : ∃ k1, k + 1 = k1 := ⟨_, rfl⟩
    have HK1 := Lib.hid hk1
    rw [hk1]
    by_cases hlt : k1 < N
    · have hkI : (k1 : Int) < (N : Int) := by omega
      have hk0 : (0 : Int) ≤ (k1 : Int) := by omega
      obtain ⟨B1, c1, hr1, hd1⟩ := HROW2.out k1 hlt
      have HD1 := Lib.hid hd1
      have HST : Hid (mnK p L k1 = if dsF p (L.getD k1 []) < dsF p (mnK p L k) then L.getD k1 [] else mnK p L k) := by show _ = _; rw [← hk1]; rfl
      have C1 := Lib.hid (DIS.out q B1 c1 _ hd1 (HVO.out k1 hlt))
      have C2 := Lib.hid (fun q => DIS.out q B d _ HM.out HVM.out)
      obtain ⟨x1, hx1⟩ : ∃ x, dsF p (L.getD k1 []) = x := ⟨_, rfl⟩
      obtain ⟨x2, hx2⟩ : ∃ x, dsF p (mnK p L k) = x := ⟨_, rfl⟩
      rw [hx1] at C1 HST
      rw [hx2] at C2 HST
      clear hd1 hx1 hx2 hk1
      by_cases hc : x1 < x2
      · have HM2 : Hid (RdI w1 B1 n (mnK p L k1)) := by show RdI _ _ _ _; rw [HST.out, if_pos hc]; exact HD1.out
        go_wp2_with fail
        refine C1.out.mono ?_
        rintro e w' ⟨rfl, q1, rfl⟩
        go_wp2_with fail
        refine (C2.out _).mono ?_
        rintro e w' ⟨rfl, q2, rfl⟩
        go_wp2
        go_roundw
        case rel => exact ⟨k1, B1, c1, hlt, by go_num, rfl, HM2, ⟨_, rfl⟩⟩
        case measure => have := HK1.out; simp only [intOf]; omega
      · have HM2 : Hid (RdI w1 B n (mnK p L k1)) := by show RdI _ _ _ _; rw [HST.out, if_neg hc]; exact HM.out
        go_wp2_with fail
        refine C1.out.mono ?_
        rintro e w' ⟨rfl, q1, rfl⟩
        go_wp2_with fail
        refine (C2.out _).mono ?_
        rintro e w' ⟨rfl, q2, rfl⟩
        go_wp2
        go_roundw
        case rel => exact ⟨k1, B, d, hlt, by go_num, rfl, HM2, ⟨_, rfl⟩⟩
        case measure => have := HK1.out; simp only [intOf]; omega
    · have hkN : k1 = N := by omega
      subst hkN
      have hkI : ¬ (k1 : Int) < (k1 : Int) := by omega
      have C2 := Lib.hid (fun q => DIS.out q B d _ HM.out HVM.out)
      rw [show k1 - 1 = k by omega] at HBR
      rw [← HBR.out] at C2 HM
      clear hk1
      go_wp2_with fail
      refine (C2.out _).mono ?_
      rintro e w' ⟨rfl, q2, rfl⟩
      go_wp2
      go_ret2
      have hbq : Below w1.heap.size w1 (w1.drewN q2) := blw_drewN (Below.refl _ _) q2
      exact ⟨⟨B, d, rfl, HM.out.below hbq⟩, HB1.out.trans (hbq.mono HB1.out.size)⟩

end Go.Proofs.Ytccoflhoggpgoaa

namespace Go.Proofs.Ytccoflhoggpgoaa
open Go.RowKit

open Go.Shelf

theorem intsB_any (A : Option Addr) (n c : Nat) (B : Option Addr) (d : Nat) (xs : List Int) (w : World) (ha : RdI w A n xs) (hb : RdI w B n xs) (hn : n ≤ 1000000) :
    Calls Try.prog 36 #[.slice A n c, .slice B n d] w fun e w' => e = .returned (.bool true) ∧ Below w.heap.size w w' := by
  refine (ints_any A B n n c d xs xs w ha hb (by omega) (by omega)).mono ?_
  rintro e w' ⟨rfl, q, rfl⟩
  exact ⟨by rw [decide_eq_true rfl], blw_drewN (Below.refl _ _) q⟩
theorem refDisB_any (A : Option Addr) (n c : Nat) (p : List (List Int)) (B : Option Addr) (d : Nat) (o : List Int) (w : World) (hp : RdGo w A n p) (ho : RdI w B n o) (hn : n ≤ 6) (hv : VP n p) (hvo : VO n o) :
    Calls Try.prog 73 #[.slice A n c, .slice B n d] w fun e w' => e = .returned (.int .i64 (dsF p o)) ∧ Below w.heap.size w w' := by
  refine (refDisagreements_any A n c p B d o w hp ho hn hv hvo).mono ?_
  rintro e w' ⟨rfl, q, rfl⟩
  exact ⟨rfl, blw_drewN (Below.refl _ _) q⟩
theorem refBoundB_any (A : Option Addr) (n c : Nat) (p : List (List Int)) (w : World) (hp : RdGo w A n p) (hn : n ≤ 6) (hv : VP n p) :
    Calls Try.prog 71 #[.slice A n c] w fun e w' => e = .returned (.int .i64 (rbF p)) ∧ Below w.heap.size w w' := by
  refine (refRankingBound_any A n c p w hp hn hv).mono ?_
  rintro e w' ⟨rfl, q, rfl⟩
  exact ⟨rfl, blw_drewN (Below.refl _ _) q⟩
set_option maxRecDepth 100000 in
set_option maxHeartbeats 8000000 in
theorem rankings_s (A : Option Addr) (n c : Nat) (p : List (List Int)) (B : Option Addr) (m d : Nat) (w : World) (HP0 : Hid (RdGo w A n p))
    (hs : shF p = false) :
    Calls Try.prog 11 #[.slice A n c, .slice B m d] w fun e w' => e = .returned (.bool true) ∧ Below w.heap.size w w' := by
  go_enter Try.func11, Try.ntmps11
  go_wp2_with fail
  refine (awake_any _).mono ?_
  rintro e w1 ⟨rfl, hb1⟩
  have HB := Lib.hid hb1
  clear hb1
  go_wp2_with fail
  refine (shortP_any A n c p _ (HP0.out.below HB.out)).mono ?_
  rintro e w' ⟨rfl, rfl⟩
  rw [hs]
  go_wp2
  go_ret
  exact ⟨rfl, HB.out⟩
set_option maxRecDepth 100000 in
set_option maxHeartbeats 8000000 in
theorem rankings_6 (A : Option Addr) (n c : Nat) (p : List (List Int)) (B : Option Addr) (m d : Nat) (w : World) (HP0 : Hid (RdGo w A n p))
    (hs : shF p = true) (hn6 : n = 6) :
    Calls Try.prog 11 #[.slice A n c, .slice B m d] w fun e w' => e = .returned (.bool true) ∧ Below w.heap.size w w' := by
  have h6 : ((n : Int) == 6) = true := by rw [beq_iff_eq]; omega
  have h6b : decide ((n : Int) = 6) = true := decide_eq_true (by omega)
  clear hn6
  go_enter Try.func11, Try.ntmps11
  go_wp2_with fail
  refine (awake_any _).mono ?_
  rintro e w1 ⟨rfl, hb1⟩
  have HB := Lib.hid hb1
  clear hb1
  go_wp2_with fail
  refine (shortP_any A n c p _ (HP0.out.below HB.out)).mono ?_
  rintro e w' ⟨rfl, rfl⟩
  rw [hs]
  clear hs
  go_wp2
  go_ret
  exact ⟨rfl, HB.out⟩
set_option maxRecDepth 100000 in
set_option maxHeartbeats 8000000 in
theorem rankings_l (A : Option Addr) (n c : Nat) (p : List (List Int)) (B : Option Addr) (m d : Nat) (w : World) (HP0 : Hid (RdGo w A n p))
    (hs : shF p = true) (hn6 : n ≠ 6) (hm : 8 < m) :
    Calls Try.prog 11 #[.slice A n c, .slice B m d] w fun e w' => e = .returned (.bool true) ∧ Below w.heap.size w w' := by
  have h6 : ((n : Int) == 6) = false := by rw [beq_eq_false_iff_ne]; omega
  have hmI : (8 : Int) < (m : Int) := by omega
  go_enter Try.func11, Try.ntmps11
  go_wp2_with fail
  refine (awake_any _).mono ?_
  rintro e w1 ⟨rfl, hb1⟩
  have HB := Lib.hid hb1
  clear hb1
  go_wp2_with fail
  refine (shortP_any A n c p _ (HP0.out.below HB.out)).mono ?_
  rintro e w' ⟨rfl, rfl⟩
  rw [hs]
  clear hn6 hs
  go_wp2
  go_ret
  exact ⟨rfl, HB.out⟩
set_option maxRecDepth 100000 in
set_option maxHeartbeats 8000000 in
theorem rankings_e (A : Option Addr) (n c : Nat) (p : List (List Int)) (B : Option Addr) (m d : Nat) (o : List Int) (w : World) (HP0 : Hid (RdGo w A n p)) (HR0 : Hid (RdI w B m o))
    (hs : shF p = true) (hn8 : n ≤ 8) (hn6 : n ≠ 6) (hm : m ≤ 8) (hmd : m ≤ d) (hBn : B = none → m = 0 ∧ d = 0) (V : Int) (hV : pfE p = V) (h0 : V ≠ 0) :
    Calls Try.prog 11 #[.slice A n c, .slice B m d] w fun e w' => e = .returned (.bool true) ∧ Below w.heap.size w w' := by
  have h6 : ((n : Int) == 6) = false := by rw [beq_eq_false_iff_ne]; omega
  have h6b : ((n : Int) != 6) = true := by rw [bne_iff_ne]; omega
  have hm0 : ¬ (8 : Int) < (m : Int) := by omega
  have HLN : Hid (p.length = n) := HP0.out.1
  have hrl : ∀ k, k < n → (p.getD k []).length ≤ 1000 := fun k hk => by
    have h1 := (shF_true hs).2 (p.getD k []) (by rw [List.getD_eq_getElem?_getD, List.getElem?_eq_getElem (by rw [HLN.out]; exact hk), Option.getD_some]; exact List.getElem_mem _)
    omega
  have CCL : Hid (∀ W, RdGo W A n p → Calls Try.prog 66 #[.slice A n c] W fun e w' => (∃ A' c', e = .returned (.slice A' n c') ∧ RdGo w' A' n p) ∧ Below W.heap.size W w') := fun W h => (copyLists_any A n c p W h (by omega) hrl).mono (fun e w' ⟨⟨A', c', h1, _, h2, _⟩, h3⟩ => ⟨⟨A', c', h1, h2⟩, h3⟩)
  clear hrl hn6
  have e0 : dgE p o = pfE p := by unfold dgE; rw [if_neg (by rw [hV]; exact h0)]
  have e1 : dgV p o = 0 := by unfold dgV; rw [e0, if_neg (by rw [hV]; exact h0)]
  have CDO : Hid (∀ A' c' B' d' W, RdGo W A' n p → RdI W B' m o → m ≤ d' → Calls Try.prog 65 #[.slice A' n c', .slice B' m d'] W fun e w' => e = .returned (.tuple #[.int .i64 0, .int .i64 V]) ∧ Below W.heap.size W w') := fun A' c' B' d' W h1 h2 h3 => (disagreementsOf_any A' n c' p B' m d' o W h1 h2 h3 (by omega) (by omega)).mono (fun e w' ⟨h2, h3⟩ => ⟨by rw [h2, e1, e0, hV], h3⟩)
  have CBR : Hid (∀ A' c' W, RdGo W A' n p → Calls Try.prog 67 #[.slice A' n c'] W fun e w' => e = .returned (.tuple #[.slice none 0 0, .int .i64 0, .int .i64 V]) ∧ Below W.heap.size W w') := fun A' c' W h => (bestRanking_any A' n c' p W h (by omega)).mono (fun e w' ⟨h1, _, h3⟩ => ⟨by rw [h1 (by rw [hV]; exact h0), hV], h3⟩)
  have CRB : Hid (∀ A' c' W, RdGo W A' n p → Calls Try.prog 68 #[.slice A' n c'] W fun e w' => e = .returned (.tuple #[.int .i64 0, .int .i64 V]) ∧ Below W.heap.size W w') := fun A' c' W h => (rankingBound_any A' n c' p W h (by omega)).mono (fun e w' ⟨h2, h3⟩ => ⟨by rw [h2, hV, if_neg h0], h3⟩)
  have hd : (V != 0) = true := by rw [bne_iff_ne]; exact h0
  have hd1 : (V == 0) = false := by rw [beq_eq_false_iff_ne]; exact h0
  have hd2 : (V == V) = true := by rw [beq_iff_eq]
  clear e0 e1 h0
  go_enter Try.func11, Try.ntmps11
  go_wp2_with fail
  refine (awake_any _).mono ?_
  rintro e w1 ⟨rfl, hb1⟩
  have HB := Lib.hid hb1
  clear hb1
  go_wp2_with fail
  refine (shortP_any A n c p _ (HP0.out.below HB.out)).mono ?_
  rintro e w' ⟨rfl, rfl⟩
  rw [hs]
  have HB1 := Lib.hid HB.out
  have HP1 := Lib.hid (HP0.out.below HB.out)
  have HR1 := Lib.hid (HR0.out.below HB.out)
  clear HB HP0 HR0 hs
  go_wp2_with fail
  refine (CCL.out _ HP1.out).mono ?_
  rintro e w2 ⟨⟨A1, cA1, rfl, hr⟩, hb⟩
  have HB2 := Lib.hid (HB1.out.trans (hb.mono HB1.out.size))
  have HP2 := Lib.hid (HP1.out.below hb)
  have HR2 := Lib.hid (HR1.out.below hb)
  clear HB1 HP1 HR1
  have HX2 := Lib.hid hr
  clear hr hb
  go_wp2_with fail
  refine (copyIntsR_any B m d o _ hBn HR2.out (by omega)).mono ?_
  rintro e w3 ⟨⟨O2, dO2, rfl, hdO2, hrO⟩, hb⟩
  have HB3 := Lib.hid (HB2.out.trans (hb.mono HB2.out.size))
  have HP3 := Lib.hid (HP2.out.below hb)
  have HR3 := Lib.hid (HR2.out.below hb)
  have HX3 := Lib.hid (HX2.out.below hb)
  clear HB2 HP2 HR2 HX2
  have HY3 := Lib.hid hrO
  clear hrO hb
  go_wp2_with fail
  refine (CDO.out _ _ _ _ _ HX3.out HY3.out hdO2).mono ?_
  rintro e w4 ⟨rfl, hb⟩
  have HB4 := Lib.hid (HB3.out.trans (hb.mono HB3.out.size))
  have HP4 := Lib.hid (HP3.out.below hb)
  have HR4 := Lib.hid (HR3.out.below hb)
  have HX4 := Lib.hid (HX3.out.below hb)
  have HY4 := Lib.hid (HY3.out.below hb)
  clear HB3 HP3 HR3 HX3 HY3
  clear HX4
  clear HY4
  clear hb CDO
  go_wp2_with fail
  refine (CCL.out _ HP4.out).mono ?_
  rintro e w5 ⟨⟨A2, cA2, rfl, hr⟩, hb⟩
  have HB5 := Lib.hid (HB4.out.trans (hb.mono HB4.out.size))
  have HP5 := Lib.hid (HP4.out.below hb)
  have HR5 := Lib.hid (HR4.out.below hb)
  clear HB4 HP4 HR4
  have HX5 := Lib.hid hr
  clear hr hb
  go_wp2_with fail
  refine (CBR.out _ _ _ HX5.out).mono ?_
  rintro e w6 ⟨rfl, hb⟩
  have HB6 := Lib.hid (HB5.out.trans (hb.mono HB5.out.size))
  have HP6 := Lib.hid (HP5.out.below hb)
  have HR6 := Lib.hid (HR5.out.below hb)
  have HX6 := Lib.hid (HX5.out.below hb)
  clear HB5 HP5 HR5 HX5
  clear HX6
  clear hb
  go_wp2_with fail
  refine (CCL.out _ HP6.out).mono ?_
  rintro e w7 ⟨⟨A3, cA3, rfl, hr⟩, hb⟩
  have HB7 := Lib.hid (HB6.out.trans (hb.mono HB6.out.size))
  have HP7 := Lib.hid (HP6.out.below hb)
  have HR7 := Lib.hid (HR6.out.below hb)
  clear HB6 HP6 HR6
  have HX7 := Lib.hid hr
  clear hr hb
  go_wp2_with fail
  refine (CRB.out _ _ _ HX7.out).mono ?_
  rintro e w8 ⟨rfl, hb⟩
  have HB8 := Lib.hid (HB7.out.trans (hb.mono HB7.out.size))
  have HP8 := Lib.hid (HP7.out.below hb)
  have HR8 := Lib.hid (HR7.out.below hb)
  have HX8 := Lib.hid (HX7.out.below hb)
  clear HB7 HP7 HR7 HX7
  clear HX8
  clear hb
  go_wp2_with fail
  refine (refPreferencesErr_any A n c p _ HP8.out (by omega)).mono ?_
  rintro e w' ⟨rfl, rfl⟩
  rw [hV]
  clear hV
  go_wp2
  go_ret
  exact ⟨rfl, HB8.out⟩
set_option maxRecDepth 100000 in
set_option maxHeartbeats 8000000 in
theorem rankings_m (A : Option Addr) (n c : Nat) (p : List (List Int)) (B : Option Addr) (m d : Nat) (o : List Int) (w : World) (HP0 : Hid (RdGo w A n p)) (HR0 : Hid (RdI w B m o))
    (hs : shF p = true) (hn8 : n ≤ 8) (hn6 : n ≠ 6) (hm : m ≤ 8) (hmd : m ≤ d) (hBn : B = none → m = 0 ∧ d = 0) (hV : pfE p = 0) :
    Calls Try.prog 11 #[.slice A n c, .slice B m d] w fun e w' => e = .returned (.bool true) ∧ Below w.heap.size w w' := by
  have h6 : ((n : Int) == 6) = false := by rw [beq_eq_false_iff_ne]; omega
  have h6b : ((n : Int) != 6) = true := by rw [bne_iff_ne]; omega
  have hm0 : ¬ (8 : Int) < (m : Int) := by omega
  have HLN : Hid (p.length = n) := HP0.out.1
  have hrl : ∀ k, k < n → (p.getD k []).length ≤ 1000 := fun k hk => by
    have h1 := (shF_true hs).2 (p.getD k []) (by rw [List.getD_eq_getElem?_getD, List.getElem?_eq_getElem (by rw [HLN.out]; exact hk), Option.getD_some]; exact List.getElem_mem _)
    omega
  have CCL : Hid (∀ W, RdGo W A n p → Calls Try.prog 66 #[.slice A n c] W fun e w' => (∃ A' c', e = .returned (.slice A' n c') ∧ RdGo w' A' n p) ∧ Below W.heap.size W w') := fun W h => (copyLists_any A n c p W h (by omega) hrl).mono (fun e w' ⟨⟨A', c', h1, _, h2, _⟩, h3⟩ => ⟨⟨A', c', h1, h2⟩, h3⟩)
  clear hrl hn6
  have hv := pfE_zero hV
  rw [HLN.out] at hv
  have HVP := Lib.hid hv.2
  have HN6 := Lib.hid hv.1
  have HBV := Lib.hid (brF_in HLN.out (by omega))
  have HVO := Lib.hid (fun h => VO.of_odE (n := n) (o := o) h)
  have HMO : Hid (odE n o = 0 → m = n) := fun h => by have := (odE_zero h).1; have := HR0.out.1; omega
  have CBR : Hid (∀ A' c' W, RdGo W A' n p → Calls Try.prog 67 #[.slice A' n c'] W fun e w' => (∃ B d, e = .returned (.tuple #[.slice B n d, .int .i64 (dsF p (brF p)), .int .i64 0]) ∧ n ≤ d ∧ RdI w' B n (brF p) ∧ (B = none → n = 0 ∧ d = 0)) ∧ Below W.heap.size W w') := fun A' c' W h => (bestRanking_any A' n c' p W h (by omega)).mono (fun e w' ⟨_, h2, h3⟩ => ⟨h2 hV, h3⟩)
  have CRB : Hid (∀ A' c' W, RdGo W A' n p → Calls Try.prog 68 #[.slice A' n c'] W fun e w' => e = .returned (.tuple #[.int .i64 (rbF p), .int .i64 0]) ∧ Below W.heap.size W w') := fun A' c' W h => (rankingBound_any A' n c' p W h (by omega)).mono (fun e w' ⟨h2, h3⟩ => ⟨by rw [h2, hV, if_pos rfl], h3⟩)
  have e0 : dgE p o = odE n o := by unfold dgE; rw [if_pos hV, HLN.out]
  have CDO : Hid (∀ A' c' B' d' W, RdGo W A' n p → RdI W B' m o → m ≤ d' → Calls Try.prog 65 #[.slice A' n c', .slice B' m d'] W fun e w' => e = .returned (.tuple #[.int .i64 (dgV p o), .int .i64 (odE n o)]) ∧ Below W.heap.size W w') := fun A' c' B' d' W h1 h2 h3 => (disagreementsOf_any A' n c' p B' m d' o W h1 h2 h3 (by omega) (by omega)).mono (fun e w' ⟨h2, h3⟩ => ⟨by rw [h2, e0], h3⟩)
  have HDV : Hid (dgV p o = if odE n o = 0 then dsF p o else 0) := by show _ = _; unfold dgV; rw [e0]
  have CQB := Lib.hid (fun W (h : RdGo W A n p) => refBestRanking_any A n c p W h HN6.out HVP.out)
  have CQR := Lib.hid (fun W (h : RdGo W A n p) => refBoundB_any A n c p W h HN6.out HVP.out)
  have CQD := Lib.hid (fun W (h : RdGo W A n p) (e : m = n) (h0 : odE n o = 0) (h2 : RdI W B n o) => refDisB_any A n c p B d o W h h2 HN6.out HVP.out (HVO.out h0))
  have HOE := Lib.hid (fun W (h : RdI W B m o) => orderErrB_any A n c B m d o W h hmd (by omega) (by omega))
  have CI := Lib.hid (fun O dO O' dO' W (h : RdI W O n (brF p)) (h' : RdI W O' n (brF p)) => intsB_any O n dO O' dO' (brF p) W h h' (by omega))
  obtain ⟨br, hbr⟩ : ∃ b, brF p = b := ⟨_, rfl⟩
  rw [hbr] at HBV CBR CQB CI
  obtain ⟨D, hD⟩ : ∃ b, dsF p br = b := ⟨_, rfl⟩
  rw [hD] at CBR CQB
  obtain ⟨b, hb⟩ : ∃ b, rbF p = b := ⟨_, rfl⟩
  rw [hb] at CRB CQR
  obtain ⟨T, hT⟩ : ∃ b, dsF p o = b := ⟨_, rfl⟩
  rw [hT] at HDV CQD
  obtain ⟨DV, hDV⟩ : ∃ b, dgV p o = b := ⟨_, rfl⟩
  rw [hDV] at HDV CDO
  obtain ⟨OE, hOE⟩ : ∃ b, odE n o = b := ⟨_, rfl⟩
  rw [hOE] at CDO HOE HDV HMO HVO CQD
  have hDD : (D != D) = false := by rw [bne_self_eq_false]
  have hbb : (b != b) = false := by rw [bne_self_eq_false]
  have hn6 := HN6.out
  clear hv hbr hD hb hT hDV hOE e0
  go_enter Try.func11, Try.ntmps11
  go_wp2_with fail
  refine (awake_any _).mono ?_
  rintro e w1 ⟨rfl, hb1⟩
  have HB := Lib.hid hb1
  clear hb1
  go_wp2_with fail
  refine (shortP_any A n c p _ (HP0.out.below HB.out)).mono ?_
  rintro e w' ⟨rfl, rfl⟩
  rw [hs]
  have HB1 := Lib.hid HB.out
  have HP1 := Lib.hid (HP0.out.below HB.out)
  have HR1 := Lib.hid (HR0.out.below HB.out)
  clear HB HP0 HR0 hs
  go_wp2_with fail
  refine (CCL.out _ HP1.out).mono ?_
  rintro e w2 ⟨⟨A1, cA1, rfl, hr⟩, hb⟩
  have HB2 := Lib.hid (HB1.out.trans (hb.mono HB1.out.size))
  have HP2 := Lib.hid (HP1.out.below hb)
  have HR2 := Lib.hid (HR1.out.below hb)
  clear HB1 HP1 HR1
  have HX2 := Lib.hid hr
  clear hr hb
  go_wp2_with fail
  refine (copyIntsR_any B m d o _ hBn HR2.out (by omega)).mono ?_
  rintro e w3 ⟨⟨O2, dO2, rfl, hdO2, hrO⟩, hb⟩
  have HB3 := Lib.hid (HB2.out.trans (hb.mono HB2.out.size))
  have HP3 := Lib.hid (HP2.out.below hb)
  have HR3 := Lib.hid (HR2.out.below hb)
  have HX3 := Lib.hid (HX2.out.below hb)
  clear HB2 HP2 HR2 HX2
  have HY3 := Lib.hid hrO
  clear hrO hb
  go_wp2_with fail
  refine (CDO.out _ _ _ _ _ HX3.out HY3.out hdO2).mono ?_
  rintro e w4 ⟨rfl, hb⟩
  have HB4 := Lib.hid (HB3.out.trans (hb.mono HB3.out.size))
  have HP4 := Lib.hid (HP3.out.below hb)
  have HR4 := Lib.hid (HR3.out.below hb)
  have HX4 := Lib.hid (HX3.out.below hb)
  have HY4 := Lib.hid (HY3.out.below hb)
  clear HB3 HP3 HR3 HX3 HY3
  clear HX4
  clear HY4
  clear hb CDO
  go_wp2_with fail
  refine (CCL.out _ HP4.out).mono ?_
  rintro e w5 ⟨⟨A2, cA2, rfl, hr⟩, hb⟩
  have HB5 := Lib.hid (HB4.out.trans (hb.mono HB4.out.size))
  have HP5 := Lib.hid (HP4.out.below hb)
  have HR5 := Lib.hid (HR4.out.below hb)
  clear HB4 HP4 HR4
  have HX5 := Lib.hid hr
  clear hr hb
  go_wp2_with fail
  refine (CBR.out _ _ _ HX5.out).mono ?_
  rintro e w6 ⟨⟨O, dO, rfl, hdO, hrO, hO⟩, hb⟩
  have HB6 := Lib.hid (HB5.out.trans (hb.mono HB5.out.size))
  have HP6 := Lib.hid (HP5.out.below hb)
  have HR6 := Lib.hid (HR5.out.below hb)
  have HX6 := Lib.hid (HX5.out.below hb)
  clear HB5 HP5 HR5 HX5
  clear HX6
  have HO6 := Lib.hid hrO
  have HON := Lib.hid hO
  clear hrO hO hb
  go_wp2_with fail
  refine (CCL.out _ HP6.out).mono ?_
  rintro e w7 ⟨⟨A3, cA3, rfl, hr⟩, hb⟩
  have HB7 := Lib.hid (HB6.out.trans (hb.mono HB6.out.size))
  have HP7 := Lib.hid (HP6.out.below hb)
  have HR7 := Lib.hid (HR6.out.below hb)
  have HO7 := Lib.hid (HO6.out.below hb)
  clear HB6 HP6 HR6 HO6
  have HX7 := Lib.hid hr
  clear hr hb
  go_wp2_with fail
  refine (CRB.out _ _ _ HX7.out).mono ?_
  rintro e w8 ⟨rfl, hb⟩
  have HB8 := Lib.hid (HB7.out.trans (hb.mono HB7.out.size))
  have HP8 := Lib.hid (HP7.out.below hb)
  have HR8 := Lib.hid (HR7.out.below hb)
  have HO8 := Lib.hid (HO7.out.below hb)
  have HX8 := Lib.hid (HX7.out.below hb)
  clear HB7 HP7 HR7 HO7 HX7
  clear HX8
  clear hb
  go_wp2_with fail
  refine (refPreferencesErr_any A n c p _ HP8.out (by omega)).mono ?_
  rintro e w' ⟨rfl, rfl⟩
  rw [hV]
  clear hV
  go_wp2_with fail
  refine (CQB.out _ HP8.out).mono ?_
  rintro e w9 ⟨⟨Z, dZ, rfl, hrZ⟩, hb⟩
  have HB9 := Lib.hid (HB8.out.trans (hb.mono HB8.out.size))
  have HP9 := Lib.hid (HP8.out.below hb)
  have HR9 := Lib.hid (HR8.out.below hb)
  have HO9 := Lib.hid (HO8.out.below hb)
  clear HB8 HP8 HR8 HO8
  have HZ9 := Lib.hid hrZ
  clear hrZ hb
  go_wp2_with fail
  refine (CI.out _ _ _ _ _ HO9.out HZ9.out).mono ?_
  rintro e w10 ⟨rfl, hb⟩
  have HB10 := Lib.hid (HB9.out.trans (hb.mono HB9.out.size))
  have HP10 := Lib.hid (HP9.out.below hb)
  have HR10 := Lib.hid (HR9.out.below hb)
  have HO10 := Lib.hid (HO9.out.below hb)
  have HZ10 := Lib.hid (HZ9.out.below hb)
  clear HB9 HP9 HR9 HO9 HZ9
  clear HO10
  clear HZ10
  clear hb
  go_wp2_with fail
  refine (CQR.out _ HP10.out).mono ?_
  rintro e w11 ⟨rfl, hb⟩
  have HB11 := Lib.hid (HB10.out.trans (hb.mono HB10.out.size))
  have HP11 := Lib.hid (HP10.out.below hb)
  have HR11 := Lib.hid (HR10.out.below hb)
  clear HB10 HP10 HR10
  clear hb
  go_wp2_with fail
  refine (HOE.out _ HR11.out).mono ?_
  rintro e w12 ⟨rfl, hb⟩
  have HB12 := Lib.hid (HB11.out.trans (hb.mono HB11.out.size))
  have HP12 := Lib.hid (HP11.out.below hb)
  have HR12 := Lib.hid (HR11.out.below hb)
  clear HB11 HP11 HR11
  clear hb
  by_cases h0 : OE = 0
  case neg =>
    have hd : (OE != 0) = true := by rw [bne_iff_ne]; exact h0
    have hd1 : (OE == 0) = false := by rw [beq_eq_false_iff_ne]; exact h0
    have hd2 : (OE == OE) = true := by rw [beq_iff_eq]
    obtain rfl : DV = 0 := by rw [HDV.out, if_neg h0]
    clear h0
    go_wp2
    go_ret
    exact ⟨rfl, HB12.out⟩
  subst h0
  obtain rfl : DV = T := by rw [HDV.out, if_pos rfl]
  have hmn := HMO.out rfl
  subst hmn
  have CQ := Lib.hid (CQD.out _ HP12.out rfl rfl HR12.out)
  have hTT : (DV == DV) = true := by rw [beq_iff_eq]
  go_wp2_with fail
  refine CQ.out.mono ?_
  rintro e wz ⟨rfl, hb⟩
  have HBz := Lib.hid (HB12.out.trans (hb.mono HB12.out.size))
  clear hb
  go_wp2
  go_ret
  exact ⟨rfl, HBz.out⟩

theorem rankings_any (A : Option Addr) (n c : Nat) (p : List (List Int)) (B : Option Addr) (m d : Nat) (o : List Int) (w : World) (hp : RdGo w A n p) (hr : RdI w B m o) (hmd : m ≤ d) (_hcm : d ≤ 9223372036854775807) (hBn : B = none → m = 0 ∧ d = 0) :
    Calls Try.prog 11 #[.slice A n c, .slice B m d] w fun e w' => e = .returned (.bool true) ∧ Below w.heap.size w w' := by
  cases hs : shF p with
  | false => exact rankings_s A n c p B m d w (Lib.hid hp) hs
  | true =>
    have hn8 : n ≤ 8 := by have := (shF_true hs).1; have := hp.1; omega
    by_cases h6 : n = 6
    · exact rankings_6 A n c p B m d w (Lib.hid hp) hs h6
    by_cases hm : 8 < m
    · exact rankings_l A n c p B m d w (Lib.hid hp) hs h6 hm
    by_cases hV : pfE p = 0
    · exact rankings_m A n c p B m d o w (Lib.hid hp) (Lib.hid hr) hs hn8 h6 (by omega) hmd hBn hV
    · exact rankings_e A n c p B m d o w (Lib.hid hp) (Lib.hid hr) hs hn8 h6 (by omega) hmd hBn _ rfl hV

end Go.Proofs.Ytccoflhoggpgoaa

namespace Go.Proofs.Ytccoflhoggpgoaa.op
open Go.ChangeShapes Go.WideShapes Go.ChangeAt Go.RowKit

theorem own : ownKnob Try.prog.godebug = none := by kernel_rfl
theorem laidOut : laidOutB Try.prog = true := by kernel_rfl
theorem cellsInt1 : Try.prog.cellsOf 3 = 1 := by kernel_rfl
theorem cellsI : Try.prog.cellsOf 3 = 1 := cellsInt1
theorem cellsInts : Try.prog.cellsOf 43 = 1 := by kernel_rfl
theorem lt_of_cell {w : World} {a : Addr} {v : Value} (h : w.cell? a = some v) : a.block < w.heap.size := World.block_lt_of_cell? _ _ h

set_option maxRecDepth 100000 in
theorem open_frac {H : Type} {enc : TypeId × Value → H} {w : World} {base : Nat} {spare : Nat → Bool} {held : Bool} {r : Reach} {b0 : Nat} {v : Value} {d : DataW H} {p : List MemPlace}
    (hv : Value.okWide Try.prog w r b0 23 v) (h : DataW.Trod enc Try.prog w base spare held 23 v d p) :
    ∃ z0 z1 : Int, v = .agg #[.int .i64 z0, .int .i64 z1] := by
  obtain ⟨cs, rfl, hsz⟩ := okWide_struct Try.underlying23 hv
  obtain ⟨fuel, hf⟩ := h
  obtain ⟨xs, n, _, _, hl, hxl, hg⟩ := DataW.trod_struct Try.underlying23 hf
  have h3 : Try.prog.cellsOf 23 = 2 := by kernel_rfl
  obtain ⟨l⟩ := cs
  have hl3 : l.length = 2 := by rw [← h3]; simpa using hsz
  match l, hl3, xs, hxl with
  | [c0, c1], _, [y0, y1], _ =>
    have g0 := hg 0 _ rfl
    have g1 := hg 1 _ rfl
    simp [Value.cells, cellsI] at g0 g1
    obtain ⟨z0, e0, _, _⟩ := DataW.trod_int Try.underlying3 g0
    obtain ⟨z1, e1, _, _⟩ := DataW.trod_int Try.underlying3 g1
    simp at e0 e1
    exact ⟨z0, z1, by rw [e0, e1]⟩

set_option maxRecDepth 100000 in
theorem open_test {H : Type} {enc : TypeId × Value → H} {w : World} {base : Nat} {spare : Nat → Bool} {held : Bool} {r : Reach} {b0 : Nat} {v : Value} {d : DataW H} {p : List MemPlace}
    (hv : Value.okWide Try.prog w r b0 108 v) (h : DataW.Trod enc Try.prog w base spare held 108 v d p) :
    ∃ z0 z1 z2 : Int, v = .agg #[.int .i64 z0, .int .i64 z1, .int .i64 z2] := by
  obtain ⟨cs, rfl, hsz⟩ := okWide_struct Try.underlying108 hv
  obtain ⟨fuel, hf⟩ := h
  obtain ⟨xs, n, _, _, hl, hxl, hg⟩ := DataW.trod_struct Try.underlying108 hf
  have h3 : Try.prog.cellsOf 108 = 3 := by kernel_rfl
  obtain ⟨l⟩ := cs
  have hl3 : l.length = 3 := by rw [← h3]; simpa using hsz
  match l, hl3, xs, hxl with
  | [c0, c1, c2], _, [y0, y1, y2], _ =>
    have g0 := hg 0 _ rfl
    have g1 := hg 1 _ rfl
    have g2 := hg 2 _ rfl
    simp [Value.cells, cellsI] at g0 g1 g2
    obtain ⟨z0, e0, _, _⟩ := DataW.trod_int Try.underlying3 g0
    obtain ⟨z1, e1, _, _⟩ := DataW.trod_int Try.underlying3 g1
    obtain ⟨z2, e2, _, _⟩ := DataW.trod_int Try.underlying3 g2
    simp at e0 e1 e2
    exact ⟨z0, z1, z2, by rw [e0, e1, e2]⟩

set_option maxRecDepth 100000 in
theorem open_meter {H : Type} {enc : TypeId × Value → H} {w : World} {base : Nat} {spare : Nat → Bool} {held : Bool} {r : Reach} {b0 : Nat} {v : Value} {d : DataW H} {p : List MemPlace}
    (hv : Value.okWide Try.prog w r b0 42 v) (h : DataW.Trod enc Try.prog w base spare held 42 v d p) :
    ∃ z0 z1 z2 z3 : Int, v = .agg #[.int .i64 z0, .int .i64 z1, .int .i64 z2, .int .i64 z3] := by
  obtain ⟨cs, rfl, hsz⟩ := okWide_struct Try.underlying42 hv
  obtain ⟨fuel, hf⟩ := h
  obtain ⟨xs, n, _, _, hl, hxl, hg⟩ := DataW.trod_struct Try.underlying42 hf
  have h3 : Try.prog.cellsOf 42 = 4 := by kernel_rfl
  obtain ⟨l⟩ := cs
  have hl3 : l.length = 4 := by rw [← h3]; simpa using hsz
  match l, hl3, xs, hxl with
  | [c0, c1, c2, c3], _, [y0, y1, y2, y3], _ =>
    have g0 := hg 0 _ rfl
    have g1 := hg 1 _ rfl
    have g2 := hg 2 _ rfl
    have g3 := hg 3 _ rfl
    simp [Value.cells, cellsI] at g0 g1 g2 g3
    obtain ⟨z0, e0, _, _⟩ := DataW.trod_int Try.underlying3 g0
    obtain ⟨z1, e1, _, _⟩ := DataW.trod_int Try.underlying3 g1
    obtain ⟨z2, e2, _, _⟩ := DataW.trod_int Try.underlying3 g2
    obtain ⟨z3, e3, _, _⟩ := DataW.trod_int Try.underlying3 g3
    simp at e0 e1 e2 e3
    exact ⟨z0, z1, z2, z3, by rw [e0, e1, e2, e3]⟩

/-- Numbers as they come in. -/
theorem open_rd {H : Type} {enc : TypeId × Value → H} {w : World} {base : Nat} {spare : Nat → Bool} {held : Bool} {A : Option Addr} {n c : Nat} {d : DataW H} {p : List MemPlace}
    (h : DataW.Trod enc Try.prog w base spare held 43 (.slice A n c) d p) : ∃ l, RdI w A n l ∧ n ≤ c ∧ c ≤ 9223372036854775807 ∧ (A = none → n = 0 ∧ c = 0) := by
  obtain ⟨fuel, hf⟩ := h
  rcases open_ints Try.underlying43 Try.underlying3 cellsInt1 hf with ⟨hcs, _⟩ | ⟨a, len, cap, zs, hcs, _, hl, hm, hz, _, hcell, _⟩
  · simp [Value.cells] at hcs
    obtain ⟨rfl, rfl, rfl⟩ := hcs
    exact ⟨[], ⟨rfl, fun h => absurd h (by omega)⟩, by omega, by omega, fun _ => ⟨rfl, rfl⟩⟩
  · simp [Value.cells] at hcs
    obtain ⟨rfl, rfl, rfl⟩ := hcs
    have hlen : n ≤ zs.length := by rw [hz]; split <;> omega
    refine ⟨zs.take n, ⟨by rw [List.length_take]; omega, fun hn => ⟨a, rfl, ?_, fun j hj => ?_⟩⟩, hl, by unfold maxLen at hm; omega, fun h => by cases h⟩
    · have := lt_of_cell (hcell 0 (by omega))
      rwa [addBlock] at this
    · rw [hcell j (by omega)]
      simp [List.getD_eq_getElem?_getD, List.getElem?_take, hj]

/-- Numbers of a field as they come in. -/
theorem open_rdf {H : Type} {enc : TypeId × Value → H} {w : World} {base : Nat} {spare : Nat → Bool} {held : Bool} {fuel : Nat} {v : Value} {x : DataW H × List MemPlace}
    (hf : DataW.trod enc Try.prog w base spare held fuel 43 [v] = some x) : ∃ A n c l, v = .slice A n c ∧ RdI w A n l ∧ n ≤ c ∧ c ≤ 9223372036854775807 ∧ (A = none → n = 0 ∧ c = 0) := by
  rcases open_ints Try.underlying43 Try.underlying3 cellsInt1 hf with ⟨hcs, _⟩ | ⟨a, len, cap, zs, hcs, _, hl, hm, hz, _, hcell, _⟩
  · injection hcs with hcs
    exact ⟨none, 0, 0, [], hcs, ⟨rfl, fun h => absurd h (by omega)⟩, by omega, by omega, fun _ => ⟨rfl, rfl⟩⟩
  · injection hcs with hcs
    have hlen : len ≤ zs.length := by rw [hz]; split <;> omega
    refine ⟨some a, len, cap, zs.take len, hcs, ⟨by rw [List.length_take]; omega, fun hn => ⟨a, rfl, ?_, fun j hj => ?_⟩⟩, hl, by unfold maxLen at hm; omega, fun h => by cases h⟩
    · have := lt_of_cell (hcell 0 (by omega))
      rwa [addBlock] at this
    · rw [hcell j (by omega)]
      simp [List.getD_eq_getElem?_getD, List.getElem?_take, hj]
end Go.Proofs.Ytccoflhoggpgoaa.op

namespace Go.Proofs.Ytccoflhoggpgoaa.op
open Go.ChangeShapes Go.WideShapes Go.ChangeAt Go.RowKit

set_option maxRecDepth 100000 in
theorem openb_frac {H : Type} {enc : TypeId × Value → H} {w : World} {base : Nat} {spare : Nat → Bool} {held : Bool} {r : Reach} {b0 : Nat} {v : Value} {d : DataW H} {p : List MemPlace}
    (hv : Value.okWide Try.prog w r b0 23 v) (h : DataW.Trod enc Try.prog w base spare held 23 v d p) :
    ∃ z0 z1 : Int, v = .agg #[.int .i64 z0, .int .i64 z1] ∧ (-9223372036854775808 ≤ z0 ∧ z0 ≤ 9223372036854775807) ∧ (-9223372036854775808 ≤ z1 ∧ z1 ≤ 9223372036854775807) := by
  obtain ⟨cs, rfl, hsz⟩ := okWide_struct Try.underlying23 hv
  obtain ⟨fuel, hf⟩ := h
  obtain ⟨xs, n, _, _, hl, hxl, hg⟩ := DataW.trod_struct Try.underlying23 hf
  have h3 : Try.prog.cellsOf 23 = 2 := by kernel_rfl
  obtain ⟨l⟩ := cs
  have hl3 : l.length = 2 := by rw [← h3]; simpa using hsz
  match l, hl3, xs, hxl with
  | [c0, c1], _, [y0, y1], _ =>
    have g0 := hg 0 _ rfl
    have g1 := hg 1 _ rfl
    simp [Value.cells, cellsI] at g0 g1
    obtain ⟨z0, e0, _, f0⟩ := DataW.trod_int Try.underlying3 g0
    obtain ⟨z1, e1, _, f1⟩ := DataW.trod_int Try.underlying3 g1
    simp at e0 e1
    exact ⟨z0, z1, by rw [e0, e1], bounds_i64 f0, bounds_i64 f1⟩

set_option maxRecDepth 100000 in
theorem openb_meter {H : Type} {enc : TypeId × Value → H} {w : World} {base : Nat} {spare : Nat → Bool} {held : Bool} {r : Reach} {b0 : Nat} {v : Value} {d : DataW H} {p : List MemPlace}
    (hv : Value.okWide Try.prog w r b0 42 v) (h : DataW.Trod enc Try.prog w base spare held 42 v d p) :
    ∃ z0 z1 z2 z3 : Int, v = .agg #[.int .i64 z0, .int .i64 z1, .int .i64 z2, .int .i64 z3] ∧ (-9223372036854775808 ≤ z0 ∧ z0 ≤ 9223372036854775807) ∧ (-9223372036854775808 ≤ z1 ∧ z1 ≤ 9223372036854775807) ∧ (-9223372036854775808 ≤ z2 ∧ z2 ≤ 9223372036854775807) ∧ (-9223372036854775808 ≤ z3 ∧ z3 ≤ 9223372036854775807) := by
  obtain ⟨cs, rfl, hsz⟩ := okWide_struct Try.underlying42 hv
  obtain ⟨fuel, hf⟩ := h
  obtain ⟨xs, n, _, _, hl, hxl, hg⟩ := DataW.trod_struct Try.underlying42 hf
  have h3 : Try.prog.cellsOf 42 = 4 := by kernel_rfl
  obtain ⟨l⟩ := cs
  have hl3 : l.length = 4 := by rw [← h3]; simpa using hsz
  match l, hl3, xs, hxl with
  | [c0, c1, c2, c3], _, [y0, y1, y2, y3], _ =>
    have g0 := hg 0 _ rfl
    have g1 := hg 1 _ rfl
    have g2 := hg 2 _ rfl
    have g3 := hg 3 _ rfl
    simp [Value.cells, cellsI] at g0 g1 g2 g3
    obtain ⟨z0, e0, _, f0⟩ := DataW.trod_int Try.underlying3 g0
    obtain ⟨z1, e1, _, f1⟩ := DataW.trod_int Try.underlying3 g1
    obtain ⟨z2, e2, _, f2⟩ := DataW.trod_int Try.underlying3 g2
    obtain ⟨z3, e3, _, f3⟩ := DataW.trod_int Try.underlying3 g3
    simp at e0 e1 e2 e3
    exact ⟨z0, z1, z2, z3, by rw [e0, e1, e2, e3], bounds_i64 f0, bounds_i64 f1, bounds_i64 f2, bounds_i64 f3⟩

theorem openb_int {H : Type} {enc : TypeId × Value → H} {w : World} {base : Nat} {spare : Nat → Bool} {held : Bool} {z : Int} {d : DataW H} {p : List MemPlace}
    (h : DataW.Trod enc Try.prog w base spare held 3 (.int .i64 z) d p) : -9223372036854775808 ≤ z ∧ z ≤ 9223372036854775807 := by
  obtain ⟨fuel, hf⟩ := h
  obtain ⟨z0, e0, _, f0⟩ := DataW.trod_int Try.underlying3 hf
  simp [Value.cells] at e0
  subst e0
  exact bounds_i64 f0
end Go.Proofs.Ytccoflhoggpgoaa.op

namespace Go.Proofs.Ytccoflhoggpgoaa.op
open Go.ChangeShapes Go.WideShapes Go.ChangeAt Go.RowKit

theorem row_of {H : Type} {enc : TypeId × Value → H} {w : World} {base : Nat} {spare : Nat → Bool} {held : Bool} {v : Value} {fuel : Nat} {x : DataW H × List MemPlace}
    (h : DataW.trod enc Try.prog w base spare held fuel 43 [v] = some x) : ∃ B m c l, v = .slice B m c ∧ RdI w B m l ∧ (B = none → m = 0 ∧ c = 0) := by
  obtain ⟨B, m, c, l, h1, h2, _, _, h3⟩ := open_rdf h
  exact ⟨B, m, c, l, h1, h2, h3⟩

/-- Lists of numbers as they come in. -/
theorem open_rows {H : Type} {enc : TypeId × Value → H} {w : World} {base : Nat} {spare : Nat → Bool} {held : Bool} {A : Option Addr} {n c : Nat} {d : DataW H} {p : List MemPlace}
    (h : DataW.Trod enc Try.prog w base spare held 95 (.slice A n c) d p) : ∃ rows, RdGo w A n rows ∧ n ≤ c := by
  obtain ⟨fuel, hf⟩ := h
  rcases Deep.open_slice1 Try.underlying95 cellsInts hf with ⟨hcs, _⟩ | ⟨a, len, cap, m, k, V, D, Pl, hcs, _, hl, hm, hz, _, hx⟩
  · simp [Value.cells] at hcs
    obtain ⟨rfl, rfl, rfl⟩ := hcs
    exact ⟨[], ⟨rfl, fun h => absurd h (by omega)⟩, by omega⟩
  · simp [Value.cells] at hcs
    obtain ⟨rfl, rfl, rfl⟩ := hcs
    have hlen : n ≤ m := by rw [hz]; split <;> omega
    obtain ⟨f, hf⟩ := Deep.choose_lt (α := List Int) (n := n) (p := fun i l => ∃ B m c, w.cell? (a.add i) = some (.slice B m c) ∧ RdI w B m l ∧ (B = none → m = 0 ∧ c = 0)) (fun i hi => by
      obtain ⟨h1, h2⟩ := hx i (by omega)
      obtain ⟨B, m', c', l, hv, h3⟩ := row_of h2
      exact ⟨l, B, m', c', by rw [h1, hv], h3⟩)
    refine ⟨(List.range n).map f, ⟨by simp, fun hn => ⟨a, rfl, ?_, fun j hj => ?_⟩⟩, hl⟩
    · have := lt_of_cell (hx 0 (by omega)).1
      rwa [addBlock] at this
    · have e : ((List.range n).map f).getD j [] = f j := by simp [List.getD_eq_getElem?_getD, hj]
      rw [e]
      exact hf j hj
end Go.Proofs.Ytccoflhoggpgoaa.op

