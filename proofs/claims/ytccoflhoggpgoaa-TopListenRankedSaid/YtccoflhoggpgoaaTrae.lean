import Derived.Test.YtccoflhoggpgoaaTrad
import Derived.Test.YtccoflhoggpgoaaTrac
import Derived.Test.YtccoflhoggpgoaaTraa
import Derived.Test.YtccoflhoggpgoaaRows
import Derived.ProofKit
import Derived.OpenShut
import Derived.Deep.Slices
namespace Go.Proofs.Ytccoflhoggpgoaa
open Go.RowKit

open Go.Shelf

/-! ### one before another in an order -/
def agA (x y : Int) : List Int → Int
  | [] => 0
  | z :: l => (if z = x ∧ y ∈ z :: l then 1 else 0) + agA x y l
def dlt (x y u v : Int) : Int := if x = u ∧ y = v then 1 else 0
theorem agA_no {x y : Int} : ∀ l : List Int, x ∉ l → agA x y l = 0
  | [], _ => rfl
  | z :: l, h => by
    unfold agA
    rw [if_neg (fun h2 => h (by rw [← h2.1]; exact List.mem_cons_self ..)), agA_no l (fun h2 => h (List.mem_cons_of_mem _ h2))]; rfl
theorem agA_no2 {x y : Int} : ∀ l : List Int, y ∉ l → agA x y l = 0
  | [], _ => rfl
  | z :: l, h => by
    unfold agA
    rw [if_neg (fun h2 => h h2.2), agA_no2 l (fun h2 => h (List.mem_cons_of_mem _ h2))]; rfl
theorem agA_nn (x y : Int) : ∀ l : List Int, 0 ≤ agA x y l
  | [] => Int.le_refl _
  | z :: l => by
    have := agA_nn x y l
    unfold agA
    split <;> omega
theorem agA_le {x y : Int} : ∀ l : List Int, l.Nodup → agA x y l ≤ 1
  | [], _ => by simp [agA]
  | z :: l, h => by
    have h2 := List.nodup_cons.1 h
    have ih := agA_le (x := x) (y := y) l h2.2
    unfold agA
    by_cases hz : z = x
    · subst hz
      rw [agA_no l h2.1]
      split <;> omega
    · rw [if_neg (fun h3 => hz h3.1)]; omega
theorem dl_sum {x y z : Int} : ∀ l : List Int, l.Nodup → (l.map (dlt x y z)).sum = if x = z ∧ y ∈ l then 1 else 0
  | [], _ => by simp
  | v :: l, h => by
    have h2 := List.nodup_cons.1 h
    have ih := dl_sum (x := x) (y := y) (z := z) l h2.2
    rw [List.map_cons, List.sum_cons, ih]
    unfold dlt
    by_cases hx : x = z
    · by_cases hv : y = v
      · subst hv
        rw [if_pos ⟨hx, rfl⟩, if_neg (fun h3 => h2.1 h3.2), if_pos ⟨hx, List.mem_cons_self ..⟩]; rfl
      · rw [if_neg (fun h3 => hv h3.2)]
        by_cases hl : y ∈ l
        · rw [if_pos ⟨hx, hl⟩, if_pos ⟨hx, List.mem_cons_of_mem _ hl⟩]; rfl
        · rw [if_neg (fun h3 => hl h3.2), if_neg (fun h3 => (List.mem_cons.1 h3.2).elim hv hl)]; rfl
    · rw [if_neg (fun h3 => hx h3.1), if_neg (fun h3 => hx h3.1), if_neg (fun h3 => hx h3.1)]; rfl
theorem dl_ag {x y : Int} (hxy : x ≠ y) : ∀ l : List Int, l.Nodup → psF (dlt x y) l = agA x y l
  | [], _ => rfl
  | z :: l, h => by
    have h2 := List.nodup_cons.1 h
    unfold psF agA
    rw [dl_ag hxy l h2.2, dl_sum l h2.2]
    congr 1
    by_cases hz : z = x
    · subst hz
      by_cases hl : y ∈ l
      · rw [if_pos ⟨rfl, hl⟩, if_pos ⟨rfl, List.mem_cons_of_mem _ hl⟩]
      · rw [if_neg (fun h3 => hl h3.2), if_neg (fun h3 => (List.mem_cons.1 h3.2).elim (fun e => hxy e.symm) hl)]
    · rw [if_neg (fun h3 => hz h3.1.symm), if_neg (fun h3 => hz h3.1)]
theorem dl_diag {x : Int} : ∀ l : List Int, l.Nodup → psF (dlt x x) l = 0
  | [], _ => rfl
  | z :: l, h => by
    have h2 := List.nodup_cons.1 h
    unfold psF
    rw [dl_diag l h2.2, dl_sum l h2.2, if_neg (fun h3 : x = z ∧ x ∈ l => h2.1 (h3.1 ▸ h3.2))]; rfl
theorem psF_congr {g h : Int → Int → Int} : ∀ l : List Int, l.Nodup → (∀ x ∈ l, ∀ y ∈ l, x ≠ y → g x y = h x y) → psF g l = psF h l
  | [], _, _ => rfl
  | z :: l, hn, hh => by
    have h2 := List.nodup_cons.1 hn
    unfold psF
    rw [psF_congr l h2.2 (fun x hx y hy => hh x (List.mem_cons_of_mem _ hx) y (List.mem_cons_of_mem _ hy))]
    congr 2
    refine List.map_congr_left fun y hy => hh z (List.mem_cons_self ..) y (List.mem_cons_of_mem _ hy) ?_
    rintro rfl
    exact h2.1 hy
theorem map_add (f g : Int → Int) : ∀ l : List Int, (l.map fun x => f x + g x).sum = (l.map f).sum + (l.map g).sum
  | [] => rfl
  | z :: l => by
    have := map_add f g l
    simp only [List.map_cons, List.sum_cons] at this ⊢
    omega
theorem psF_add (g h : Int → Int → Int) : ∀ l : List Int, psF (fun x y => g x y + h x y) l = psF g l + psF h l
  | [] => rfl
  | z :: l => by
    have := psF_add g h l
    simp only [psF, map_add] at this ⊢
    omega
theorem psF_zero : ∀ l : List Int, psF (fun _ _ => 0) l = 0
  | [] => rfl
  | z :: l => by
    have := psF_zero l
    have h2 : (l.map fun _ : Int => (0 : Int)).sum = 0 := by
      clear this
      induction l with
      | nil => rfl
      | cons y l ih => simpa using ih
    simp only [psF] at this ⊢
    omega
/-- How often one is before another. -/
def cnE (qs : List (List Int)) (x y : Int) : Int := (qs.map fun q => psF (dlt x y) q).sum
def agO (q o : List Int) : Int := psF (fun x y => agA y x q) o
def agT (qs : List (List Int)) (o : List Int) : Int := (qs.map fun q => agO q o).sum
theorem cn_ag : ∀ (qs : List (List Int)) (o : List Int), (∀ q ∈ qs, q.Nodup) → o.Nodup → psF (fun x y => cnE qs y x) o = agT qs o
  | [], o, _, _ => psF_zero o
  | q :: qs, o, hq, ho => by
    have ih := cn_ag qs o (fun r hr => hq r (List.mem_cons_of_mem _ hr)) ho
    show psF (fun x y => psF (dlt y x) q + cnE qs y x) o = agO q o + agT qs o
    rw [psF_add, ih]
    congr 1
    exact psF_congr o ho (fun x _ y _ hxy => dl_ag (Ne.symm hxy) q (hq q (List.mem_cons_self ..)))
theorem cnE_bd : ∀ (qs : List (List Int)) (x y : Int), (∀ q ∈ qs, q.Nodup) → 0 ≤ cnE qs x y ∧ cnE qs x y ≤ qs.length
  | [], _, _, _ => by simp [cnE]
  | q :: qs, x, y, hq => by
    have ih := cnE_bd qs x y (fun r hr => hq r (List.mem_cons_of_mem _ hr))
    have h1 : 0 ≤ psF (dlt x y) q ∧ psF (dlt x y) q ≤ 1 := by
      by_cases hxy : x = y
      · subst hxy; rw [dl_diag q (hq q (List.mem_cons_self ..))]; omega
      · rw [dl_ag hxy q (hq q (List.mem_cons_self ..))]; exact ⟨agA_nn _ _ _, agA_le q (hq q (List.mem_cons_self ..))⟩
    have e : cnE (q :: qs) x y = psF (dlt x y) q + cnE qs x y := rfl
    rw [e, List.length_cons]; omega
theorem cnE_diag : ∀ (qs : List (List Int)) (x : Int), (∀ q ∈ qs, q.Nodup) → cnE qs x x = 0
  | [], _, _ => rfl
  | q :: qs, x, hq => by
    have e : cnE (q :: qs) x x = psF (dlt x x) q + cnE qs x x := rfl
    rw [e, cnE_diag qs x (fun r hr => hq r (List.mem_cons_of_mem _ hr)), dl_diag q (hq q (List.mem_cons_self ..))]; rfl

/-! ### when all agree -/
theorem agA_app {x y : Int} : ∀ (p l : List Int), x ∉ p → agA x y (p ++ l) = agA x y l
  | [], _, _ => rfl
  | z :: p, l, h => by
    rw [List.cons_append]
    unfold agA
    rw [if_neg (fun h2 => h (by rw [← h2.1]; exact List.mem_cons_self ..)), agA_app p l (fun h2 => h (List.mem_cons_of_mem _ h2)), Int.zero_add]
    cases l with
    | nil => rfl
    | cons => rfl
theorem agO_selfP : ∀ (l p : List Int), (p ++ l).Nodup → psF (fun x y => agA y x (p ++ l)) l = 0
  | [], _, _ => rfl
  | x :: l, p, h => by
    have h1 := agO_selfP l (p ++ [x]) (by rw [List.append_assoc]; exact h)
    rw [List.append_assoc, List.singleton_append] at h1
    unfold psF
    rw [h1, Int.add_zero]
    have h2 := List.nodup_append.1 h
    have h3 := List.nodup_cons.1 h2.2.1
    have e : ∀ y ∈ l, agA y x (p ++ x :: l) = 0 := by
      intro y hy
      rw [agA_app p _ (fun hp => h2.2.2 y hp y (List.mem_cons_of_mem _ hy) rfl)]
      unfold agA
      rw [if_neg (fun h4 : x = y ∧ x ∈ x :: l => h3.1 (h4.1 ▸ hy)), agA_no2 l h3.1]; rfl
    rw [List.map_congr_left e]
    clear h1 h2 h3 e h
    induction l with
    | nil => rfl
    | cons y l ih => simpa using ih
theorem agO_self {q : List Int} (h : q.Nodup) : agO q q = 0 := agO_selfP q [] h
theorem sum_nn {f : Int → Int} (hf : ∀ x, 0 ≤ f x) : ∀ l : List Int, 0 ≤ (l.map f).sum
  | [] => Int.le_refl _
  | y :: l => by have h1 := sum_nn hf l; have h2 := hf y; rw [List.map_cons, List.sum_cons]; omega
theorem agO_nn (q : List Int) : ∀ o : List Int, 0 ≤ agO q o
  | [] => Int.le_refl _
  | x :: o => by
    have h1 := agO_nn q o
    have h2 : 0 ≤ (o.map fun y => agA y x q).sum := by
      clear h1
      induction o with
      | nil => exact Int.le_refl _
      | cons y o ih => have := agA_nn y x q; simp only [List.map_cons, List.sum_cons]; omega
    unfold agO at h1 ⊢
    unfold psF
    omega
theorem sum_zero {f : Int → Int} (hf : ∀ x, 0 ≤ f x) : ∀ l : List Int, (l.map f).sum = 0 → ∀ x ∈ l, f x = 0
  | [], _, x, hx => absurd hx (by simp)
  | z :: l, h, x, hx => by
    have hs : ∀ m : List Int, 0 ≤ (m.map f).sum := by
      intro m
      induction m with
      | nil => exact Int.le_refl _
      | cons y m ih => have := hf y; simp only [List.map_cons, List.sum_cons]; omega
    rw [List.map_cons, List.sum_cons] at h
    have h1 := hf z
    have h2 := hs l
    rcases List.mem_cons.1 hx with rfl | hx
    · omega
    · exact sum_zero hf l (by omega) x hx
theorem agO_eq : ∀ (o q : List Int), o.Perm q → q.Nodup → agO q o = 0 → o = q
  | [], q, hp, _, _ => by have := hp.length_eq; simp at this; exact (List.eq_nil_of_length_eq_zero this.symm).symm
  | x :: o, q, hp, hn, h0 => by
    match q, hp, hn, h0 with
    | [], hp, _, _ => have := hp.length_eq; simp at this
    | z :: q', hp, hn, h0 =>
      have hnn := agO_nn (z :: q') o
      have hs : 0 ≤ (o.map fun y => agA y x (z :: q')).sum := sum_nn (f := fun y => agA y x (z :: q')) (fun y => agA_nn _ _ _) o
      have h1 : (o.map fun y => agA y x (z :: q')).sum + agO (z :: q') o = 0 := h0
      have h2 : (o.map fun y => agA y x (z :: q')).sum = 0 := by omega
      have h3 := sum_zero (f := fun y => agA y x (z :: q')) (fun y => agA_nn _ _ _) o h2
      have hxq : x ∈ z :: q' := hp.mem_iff.1 (List.mem_cons_self ..)
      by_cases hzx : z = x
      · subst hzx
        have hp2 : o.Perm q' := List.Perm.cons_inv hp
        have hn2 := List.nodup_cons.1 hn
        have h4 : agO q' o = 0 := by
          have h5 : agO (z :: q') o = 0 := by omega
          rw [← h5]
          unfold agO
          refine psF_congr o (hp2.nodup_iff.2 hn2.2) (fun u _ v hv _ => ?_)
          have hvz : v ≠ z := by
            rintro rfl
            exact hn2.1 (hp2.mem_iff.1 hv)
          have := agA_app (x := v) (y := u) [z] q' (by simp [hvz])
          exact this.symm
        rw [agO_eq o q' hp2 hn2.2 h4]
      · exfalso
        have hzo : z ∈ o := by
          have := hp.mem_iff.2 (List.mem_cons_self (a := z) (l := q'))
          rcases List.mem_cons.1 this with h | h
          · exact absurd h hzx
          · exact h
        have h5 := h3 z hzo
        have h6 := agA_nn z x q'
        unfold agA at h5
        rw [if_pos ⟨rfl, hxq⟩] at h5
        omega
theorem agT_nn : ∀ (qs : List (List Int)) (o : List Int), 0 ≤ agT qs o
  | [], _ => Int.le_refl _
  | q :: qs, o => by
    have h1 := agT_nn qs o
    have h2 := agO_nn q o
    have e : agT (q :: qs) o = agO q o + agT qs o := rfl
    omega
theorem agT_same : ∀ (qs : List (List Int)) (q0 : List Int), (∀ q ∈ qs, q = q0) → q0.Nodup → agT qs q0 = 0
  | [], _, _, _ => rfl
  | q :: qs, q0, h, hn => by
    have e : agT (q :: qs) q0 = agO q q0 + agT qs q0 := rfl
    rw [e, agT_same qs q0 (fun r hr => h r (List.mem_cons_of_mem _ hr)) hn, h q (List.mem_cons_self ..), agO_self hn]; rfl
theorem agT_head {q : List Int} {qs : List (List Int)} {o : List Int} (h : agT (q :: qs) o = 0) : agO q o = 0 := by
  have h1 := agT_nn qs o
  have h2 := agO_nn q o
  have e : agT (q :: qs) o = agO q o + agT qs o := rfl
  omega

end Go.Proofs.Ytccoflhoggpgoaa

namespace Go.Proofs.Ytccoflhoggpgoaa
open Go.RowKit

open Go.Shelf

set_option maxRecDepth 100000 in
set_option maxHeartbeats 4000000 in
theorem listenAwake_any (w : World) : Calls Try.prog 75 #[] w fun e w' => e = .returned (.bool true) ∧ Below w.heap.size w w' := by
  go_enter Try.func75, Try.ntmps75
  go_wp2_with fail
  refine (ex_tl w).mono ?_
  rintro e w5 ⟨rfl, hb5⟩
  have l5 := Lib.hid hb5
  clear hb5
  have M5 := Lib.hid (Bk.new w5 23 #[.int .i64 3, .int .i64 16])
  have l6 := Lib.hid ((l5.out.alloc l5.out.size (.cells #[.int .i64 3, .int .i64 16] 23)))
  go_wp2_with fail
  obtain ⟨g5, hg5⟩ : ∃ g, w5.heap.size = g := ⟨_, rfl⟩
  obtain ⟨wA, hwA⟩ : ∃ W, w5.alloc (.cells #[.int .i64 3, .int .i64 16] 23) = W := ⟨_, rfl⟩
  have hsA : g5 + 1 = wA.heap.size := by rw [← hwA, ← hg5]; simp
  rw [hwA] at l6 M5 ⊢
  rw [hg5] at M5 ⊢
  rw [hsA]
  clear hwA hg5 hsA l5
  refine (ex_br _ 3 _ (rdgo_ex wA)).mono ?_
  rintro e w7 ⟨⟨B, d, rfl, hr7⟩, hb7⟩
  have hb7' : Below wA.heap.size wA w7 := (((((Below.refl _ wA).alloc (Nat.le_refl _) _).alloc (by simp) _).alloc (by simp; omega) _).alloc (by simp; omega) _).trans (hb7.mono (by simp; omega))
  have l7 := Lib.hid (l6.out.trans (hb7'.mono l6.out.size))
  have M7 := Lib.hid (M5.out.later hb7')
  have R7 := Lib.hid hr7
  clear hb7 hb7' hr7 l6 M5
  obtain ⟨c0, c1⟩ := bkf2 M7.out
  have HI : Hid (Calls Try.prog 36 #[.slice (some B) 3 d, .slice (some ⟨w7.heap.size, 0, none⟩) 3 3] (w7.alloc (.cells #[.int .i64 0, .int .i64 1, .int .i64 2] 3)) fun e w' => e = .returned (.bool true) ∧ Below w7.heap.size w7 w') :=
    (ints_any (some B) (some ⟨w7.heap.size, 0, none⟩) 3 3 d 3 [0, 1, 2] [0, 1, 2] (w7.alloc (.cells #[.int .i64 0, .int .i64 1, .int .i64 2] 3)) (R7.out.below (belowA (Below.refl _ _) _)) (litA w7) (by omega) (by omega)).mono fun e w' ⟨he, k, hk⟩ => ⟨he, by rw [hk]; exact blw_drewN (belowA (Below.refl _ _) _) k⟩
  go_wp2_with fail
  refine HI.out.mono ?_
  rintro e w10 ⟨rfl, hb10⟩
  go_wp2
  go_ret
  exact ⟨rfl, l7.out.trans (hb10.mono l7.out.size)⟩

end Go.Proofs.Ytccoflhoggpgoaa

namespace Go.Proofs.Ytccoflhoggpgoaa
open Go.RowKit

open Go.Shelf

set_option maxRecDepth 100000 in
set_option maxHeartbeats 4000000 in
theorem refDisagreements_any (A : Option Addr) (n c : Nat) (p : List (List Int)) (B : Option Addr) (d : Nat) (o : List Int) (w : World) (hp : RdGo w A n p) (ho : RdI w B n o) (hn : n ≤ 6) (hv : VP n p) (hvo : VO n o) :
    Calls Try.prog 73 #[.slice A n c, .slice B n d] w fun e w' => e = .returned (.int .i64 (dsF p o)) ∧ ∃ q, w' = w.drewN q := by
  have HP := Lib.hid hp
  have HO := Lib.hid ho
  have HV := Lib.hid hv
  have HVO := Lib.hid hvo
  have hol : o.length = n := hvo.1
  have hb : ∀ x ∈ o, ∀ y ∈ o, 0 ≤ agE p x y ∧ agE p x y ≤ 1000 := fun x hx y hy => hv.ent (hvo.2 y hy) (hvo.2 x hx)
  have HF : Hid (dsF p o = psP (agE p) o n) := by show _ = _; rw [← agF_eq, ← psP_end, hol]
  have HBD := Lib.hid (psP_bd hb (by omega))
  have HRB := Lib.hid (fun i (hi : i < n) a b => psR_part hb (by omega) (getD_mem (l := o) (i := i) (by omega)) a b)
  have HST := Lib.hid (psP_step (agE p) o)
  have HNX := Lib.hid (fun x i k (h : i ≤ k) (h2 : k < n) => psR_next (agE p) x o i k h (by omega))
  rw [hol] at HST HBD
  obtain ⟨V, hV⟩ : ∃ V, dsF p o = V := ⟨_, rfl⟩
  rw [hV] at HF ⊢
  clear hp ho hv hvo hV hol hb
  go_enter Try.func73, Try.ntmps73
  go_wp2
  go_loopw [5, 6] (fun s i wr => ∃ k : Nat, k ≤ n ∧ i = .int .i64 k ∧ s = .int .i64 (psP (agE p) o k) ∧ Hid (∃ q, wr = w.drewN q)) (fun _ i _ => n - (intOf i).toNat)
  case atStart => exact ⟨0, Nat.zero_le _, rfl, rfl, ⟨0, rfl⟩⟩
  case round =>
    obtain ⟨i, hi, rfl, rfl, HD⟩ := hrel
    obtain ⟨q, rfl⟩ := HD.out
    by_cases hlt : i < n
    · have hiI : (i : Int) < (n : Int) := by omega
      have hi0 : (0 : Int) ≤ (i : Int) := by omega
      obtain ⟨bd, hB, _, hcb⟩ := HO.out.2 (by omega)
      subst hB
      have hci := hcb i hlt
      have hxv := HVO.out.at hlt
      have HSI := Lib.hid (HST.out i)
      have hbi := HBD.out i hi
      have HRI := Lib.hid (HRB.out i hlt)
      have HNI := Lib.hid (HNX.out (o.getD i 0))
      obtain ⟨x, hx⟩ : ∃ x, o.getD i 0 = x := ⟨_, rfl⟩
      rw [hx] at hci hxv HSI HRI HNI
      obtain ⟨x, rfl⟩ : ∃ xn : Nat, x = xn := ⟨x.toNat, by omega⟩
      obtain ⟨s0, hs0⟩ : ∃ s, psP (agE p) o i = s := ⟨_, rfl⟩
      rw [hs0] at HSI hbi ⊢
      obtain ⟨ad, ha, _, hca⟩ := HP.out.2 (by omega)
      subst ha
      have hxn : x < n := by omega
      have hxI : (x : Int) < (n : Int) := by omega
      have hx0 : (0 : Int) ≤ (x : Int) := by omega
      have HCA := Lib.hid hca
      have HCB := Lib.hid hcb
      obtain ⟨i1, hi1⟩ : ∃ j, i + 1 = j := ⟨_, rfl⟩
      have hiw : IntKind.i64.wrap ((i : Int) + 1) = (i1 : Int) := by rw [IntWalk.i64_in _ (by omega)]; omega
      rw [hi1] at HSI
      have HI1 := Lib.hid hi1
      have hi1n : i1 ≤ n := by omega
      clear hca hcb hx hs0 hi1
      go_wp2
      go_loopw [5, 7] (fun s i wr => ∃ k : Nat, i1 ≤ k ∧ k ≤ n ∧ i = .int .i64 k ∧ s = .int .i64 (s0 + psR (agE p) x ((o.drop i1).take (k - i1))) ∧ Hid (∃ q, wr = w.drewN q)) (fun _ i _ => n - (intOf i).toNat)
      case atStart => exact ⟨i1, Nat.le_refl _, hi1n, rfl, by rw [Nat.sub_self]; show _ = Value.int .i64 (s0 + 0); rw [Int.add_zero], ⟨q, rfl⟩⟩
      case round =>
        obtain ⟨k, hk1, hk, rfl, rfl, HD2⟩ := hrel
        obtain ⟨q2, rfl⟩ := HD2.out
        by_cases hkl : k < n
        · have hkI : (k : Int) < (n : Int) := by omega
          have hk0 : (0 : Int) ≤ (k : Int) := by omega
          have hck := HCB.out k hkl
          have hyv := HVO.out.at hkl
          have HSN := Lib.hid (HNI.out i1 k hk1 hkl)
          have hbk := HRI.out i1 (k - i1)
          obtain ⟨y, hy⟩ : ∃ x, o.getD k 0 = x := ⟨_, rfl⟩
          rw [hy] at hck hyv HSN
          obtain ⟨y, rfl⟩ : ∃ xn : Nat, y = xn := ⟨y.toNat, by omega⟩
          have hyn : y < n := by omega
          have hyI : (y : Int) < (n : Int) := by omega
          have hy0 : (0 : Int) ≤ (y : Int) := by omega
          obtain ⟨R, m, rc, hrow, hrd, _⟩ := HCA.out y hyn
          have hrl := (HV.out.row hyn).1
          have hmn : m = n := by have := hrd.1; omega
          subst hmn
          obtain ⟨rd, hR, _, hcr⟩ := hrd.2 (by omega)
          subst hR
          have hcx : w.cell? (rd.add x) = some (.int .i64 (agE p x y)) := by rw [hcr x hxn]; rfl
          have hav := HV.out.ent (x := (y : Int)) (y := (x : Int)) (by omega) (by omega)
          have hae : agE p x y = ent p y x := rfl
          rw [← hae] at hav
          obtain ⟨e1, he1⟩ : ∃ e, agE p x y = e := ⟨_, rfl⟩
          rw [he1] at hcx hav HSN
          obtain ⟨r, hr⟩ : ∃ e, psR (agE p) x ((o.drop i1).take (k - i1)) = e := ⟨_, rfl⟩
          rw [hr] at HSN hbk ⊢
          have hw : IntKind.i64.wrap (s0 + r + e1) = s0 + r + e1 := IntWalk.i64_in _ (by omega)
          clear hrd hrl hcr hy hae he1 hr
          go_wp2
          go_quiet (fail)
          go_wp2
          go_roundw
          case rel => exact ⟨k + 1, by omega, by omega, by go_num, by rw [HSN.out, Int.add_assoc], ⟨_, by first | rfl | exact World.drewN_drewN _ _ _⟩⟩
          case measure => simp only [intOf]; omega
        · obtain rfl : n = k := by omega
          have hkI : ¬ (n : Int) < (n : Int) := by omega
          rw [← HSI.out]
          go_wp2
          go_roundw
          case rel => exact ⟨i1, by omega, by first | rfl | go_num | (rw [hiw]), rfl, ⟨_, by first | rfl | exact World.drewN_drewN _ _ _⟩⟩
          case measure => have := HI1.out; simp only [intOf]; omega
    · obtain rfl : n = i := by omega
      have hiI : ¬ (n : Int) < (n : Int) := by omega
      rw [← HF.out]
      go_wp2
      go_ret
      exact ⟨rfl, HD.out⟩

end Go.Proofs.Ytccoflhoggpgoaa

namespace Go.Proofs.Ytccoflhoggpgoaa
open Go.RowKit

open Go.Shelf

set_option maxRecDepth 100000 in
set_option maxHeartbeats 4000000 in
theorem refRankingBound_any (A : Option Addr) (n c : Nat) (p : List (List Int)) (w : World) (hp : RdGo w A n p) (hn : n ≤ 6) (hv : VP n p) :
    Calls Try.prog 71 #[.slice A n c] w fun e w' => e = .returned (.int .i64 (rbF p)) ∧ ∃ q, w' = w.drewN q := by
  have HP := Lib.hid hp
  have HV := Lib.hid hv
  have hol : (rgL n).length = n := rgL_len n
  have hb : ∀ x ∈ rgL n, ∀ y ∈ rgL n, 0 ≤ mnE p x y ∧ mnE p x y ≤ 1000 := fun x hx y hy => mnE_bd hv (rgL_mem hx) (rgL_mem hy)
  have HF : Hid (rbF p = psP (mnE p) (rgL n) n) := by
    show _ = _
    have h := psP_end (mnE p) (rgL n)
    rw [hol] at h
    rw [rbF_pairs, hp.1, h]; rfl
  have HBD := Lib.hid (psP_bd hb (by omega))
  have HRB := Lib.hid (fun i (hi : i < n) a b => psR_part hb (by omega) (getD_mem (l := rgL n) (i := i) (by omega)) a b)
  have HST := Lib.hid (psP_step (mnE p) (rgL n))
  have HNX := Lib.hid (fun x i k (h : i ≤ k) (h2 : k < n) => psR_next (mnE p) x (rgL n) i k h (by omega))
  have HAT := Lib.hid (fun i (h : i < n) => rgL_at n i h)
  rw [hol] at HST HBD
  obtain ⟨V, hV⟩ : ∃ V, rbF p = V := ⟨_, rfl⟩
  rw [hV] at HF ⊢
  obtain ⟨o, ho⟩ : ∃ o, rgL n = o := ⟨_, rfl⟩
  rw [ho] at HF HBD HRB HST HNX HAT
  clear hp hv hV hol hb ho
  go_enter Try.func71, Try.ntmps71
  go_wp2
  go_loopw [3, 4] (fun s i wr => ∃ k : Nat, k ≤ n ∧ i = .int .i64 k ∧ s = .int .i64 (psP (mnE p) o k) ∧ Hid (∃ q, wr = w.drewN q)) (fun _ i _ => n - (intOf i).toNat)
  case atStart => exact ⟨0, Nat.zero_le _, rfl, rfl, ⟨0, rfl⟩⟩
  case round =>
    obtain ⟨ir, hi, rfl, rfl, HD⟩ := hrel
    obtain ⟨q, rfl⟩ := HD.out
    by_cases hlt : ir < n
    · have hiI : (ir : Int) < (n : Int) := by omega
      have hi0 : (0 : Int) ≤ (ir : Int) := by omega
      have HSI := Lib.hid (HST.out ir)
      have hbi := HBD.out ir hi
      have HRI := Lib.hid (HRB.out ir hlt)
      have HNI := Lib.hid (HNX.out (o.getD ir 0))
      rw [HAT.out ir hlt] at HSI HRI HNI
      obtain ⟨s0, hs0⟩ : ∃ s, psP (mnE p) o ir = s := ⟨_, rfl⟩
      rw [hs0] at HSI hbi ⊢
      obtain ⟨ad, ha, _, hca⟩ := HP.out.2 (by omega)
      subst ha
      have HCA := Lib.hid hca
      obtain ⟨i1, hi1⟩ : ∃ j, ir + 1 = j := ⟨_, rfl⟩
      have hiw : IntKind.i64.wrap ((ir : Int) + 1) = (i1 : Int) := by rw [IntWalk.i64_in _ (by omega)]; omega
      rw [hi1] at HSI
      have HI1 := Lib.hid hi1
      have hi1n : i1 ≤ n := by omega
      clear hca hs0 hi1
      go_wp2
      go_loopw [3, 5] (fun s i wr => ∃ k : Nat, i1 ≤ k ∧ k ≤ n ∧ i = .int .i64 k ∧ s = .int .i64 (s0 + psR (mnE p) (ir : Int) ((o.drop i1).take (k - i1))) ∧ Hid (∃ q, wr = w.drewN q)) (fun _ i _ => n - (intOf i).toNat)
      case atStart => exact ⟨i1, Nat.le_refl _, hi1n, rfl, by rw [Nat.sub_self]; show _ = Value.int .i64 (s0 + 0); rw [Int.add_zero], ⟨q, rfl⟩⟩
      case round =>
        obtain ⟨k, hk1, hk, rfl, rfl, HD2⟩ := hrel
        obtain ⟨q2, rfl⟩ := HD2.out
        by_cases hkl : k < n
        · have hkI : (k : Int) < (n : Int) := by omega
          have hk0 : (0 : Int) ≤ (k : Int) := by omega
          have HSN := Lib.hid (HNI.out i1 k hk1 hkl)
          rw [HAT.out k hkl] at HSN
          have hbk := HRI.out i1 (k - i1)
          obtain ⟨B1, m1, c1, hr1, hd1, _⟩ := HCA.out ir hlt
          obtain ⟨B2, m2, c2, hr2, hd2, _⟩ := HCA.out k hkl
          have hm1 : m1 = n := by have := hd1.1; have := (HV.out.row hlt).1; omega
          have hm2 : m2 = n := by have := hd2.1; have := (HV.out.row hkl).1; omega
          subst hm1
          subst hm2
          obtain ⟨r1, hB1, _, hx1⟩ := hd1.2 (by omega)
          obtain ⟨r2, hB2, _, hx2⟩ := hd2.2 (by omega)
          subst hB1 hB2
          have he1 : w.cell? (r1.add k) = some (.int .i64 (ent p ir k)) := by rw [hx1 k hkl]; rfl
          have he2 : w.cell? (r2.add ir) = some (.int .i64 (ent p k ir)) := by rw [hx2 ir hlt]; rfl
          have h1 := HV.out.ent (x := (ir : Int)) (y := (k : Int)) (by omega) (by omega)
          have h2 := HV.out.ent (x := (k : Int)) (y := (ir : Int)) (by omega) (by omega)
          have hae : mnE p ir k = min (ent p ir k) (ent p k ir) := rfl
          rw [hae] at HSN
          obtain ⟨e1, hh1⟩ : ∃ e, ent p ir k = e := ⟨_, rfl⟩
          obtain ⟨e2, hh2⟩ : ∃ e, ent p k ir = e := ⟨_, rfl⟩
          rw [hh1] at he1 h1 HSN
          rw [hh2] at he2 h2 HSN
          have hmn := minB e1 e2
          have hmb : 0 ≤ min e1 e2 ∧ min e1 e2 ≤ 1000 := by omega
          obtain ⟨z, hz⟩ : ∃ z, min e1 e2 = z := ⟨_, rfl⟩
          rw [hz] at hmn HSN hmb
          obtain ⟨r, hr⟩ : ∃ e, psR (mnE p) ir ((o.drop i1).take (k - i1)) = e := ⟨_, rfl⟩
          rw [hr] at HSN hbk ⊢
          have hw : IntKind.i64.wrap (s0 + r + z) = s0 + r + z := IntWalk.i64_in _ (by omega)
          clear hd1 hd2 hx1 hx2 hae hh1 hh2 hz hr
          go_wp2
          go_quiet (fail)
          go_wp2
          go_roundw
          case rel => exact ⟨k + 1, by omega, by omega, by go_num, by rw [HSN.out, Int.add_assoc], ⟨_, by first | rfl | exact World.drewN_drewN _ _ _⟩⟩
          case measure => simp only [intOf]; omega
        · obtain rfl : n = k := by omega
          have hkI : ¬ (n : Int) < (n : Int) := by omega
          rw [← HSI.out]
          go_wp2
          go_roundw
          case rel => exact ⟨i1, by omega, by first | rfl | go_num | (rw [hiw]), rfl, ⟨_, by first | rfl | exact World.drewN_drewN _ _ _⟩⟩
          case measure => have := HI1.out; simp only [intOf]; omega
    · obtain rfl : n = ir := by omega
      have hiI : ¬ (n : Int) < (n : Int) := by omega
      rw [← HF.out]
      go_wp2
      go_ret
      exact ⟨rfl, HD.out⟩

end Go.Proofs.Ytccoflhoggpgoaa

namespace Go.Proofs.Ytccoflhoggpgoaa
open Go.RowKit

open Go.Shelf

/-- What the loop has gathered before item i. -/
def ordP (n f : Nat) (b : List Int) (i : Nat) : List (List Int) := (List.range i).flatMap fun (i : Nat) => if b.contains (Int.ofNat i) then [] else ordX n f (b ++ [Int.ofNat i])
theorem ordX_succ (n f : Nat) (b : List Int) : ordX n (f + 1) b = ordP n f b n := rfl
theorem ordP_step (n f : Nat) (b : List Int) (i : Nat) : ordP n f b (i + 1) = ordP n f b i ++ (if (i : Int) ∈ b then [] else ordX n f (b ++ [(i : Int)])) := by
  unfold ordP
  rw [List.range_succ, List.flatMap_append, List.flatMap_singleton]
  congr 1
  by_cases h : (i : Int) ∈ b
  · rw [if_pos h, if_pos (by simpa using h)]
  · rw [if_neg h, if_neg (by simpa using h)]; rfl
theorem ordP_len {n f : Nat} {b : List Int} {K : Nat} (h : ∀ b', (ordX n f b').length ≤ K) : ∀ i, (ordP n f b i).length ≤ i * K
  | 0 => by simp [ordP]
  | i + 1 => by
    rw [ordP_step, List.length_append, Nat.add_mul, Nat.one_mul]
    have h1 := ordP_len (b := b) h i
    by_cases hc : (i : Int) ∈ b
    · rw [if_pos hc, List.length_nil]; omega
    · rw [if_neg hc]
      have := h (b ++ [(i : Int)])
      omega
theorem ordX_len {n : Nat} (hn : n ≤ 6) : ∀ (f : Nat) (b : List Int), (ordX n f b).length ≤ 6 ^ f
  | 0, b => by simp [ordX]
  | f + 1, b => by
    rw [ordX_succ, Nat.pow_succ]
    have h := ordP_len (b := b) (ordX_len hn f) n
    have : n * 6 ^ f ≤ 6 * 6 ^ f := Nat.mul_le_mul_right _ hn
    omega
theorem nodup_sub : ∀ (l b : List Int), l.Nodup → (∀ x ∈ l, x ∈ b) → l.length ≤ b.length
  | [], _, _, _ => Nat.zero_le _
  | x :: l, b, hn, h => by
    have hx := h x (List.mem_cons_self ..)
    have hn2 := List.nodup_cons.1 hn
    have ih := nodup_sub l (b.erase x) hn2.2 (fun y hy => (List.mem_erase_of_ne (by rintro rfl; exact hn2.1 hy)).2 (h y (List.mem_cons_of_mem _ hy)))
    rw [List.length_erase_of_mem hx] at ih
    have : 0 < b.length := List.length_pos_of_mem hx
    rw [List.length_cons]; omega
theorem rgL_nodup (n : Nat) : (rgL n).Nodup := by
  refine List.Pairwise.map _ ?_ List.nodup_range
  intro a b hab he
  exact hab (Int.ofNat.inj he)
theorem free_some {n : Nat} {b : List Int} (h : b.length < n) : ∃ i : Nat, i < n ∧ (i : Int) ∉ b := by
  apply Classical.byContradiction
  intro hc
  have hs : ∀ x ∈ rgL n, x ∈ b := by
    intro x hx
    obtain ⟨i, hi, e⟩ := List.mem_map.1 hx
    have e2 : (i : Int) = x := e
    subst e2
    apply Classical.byContradiction
    intro hb
    exact hc ⟨i, List.mem_range.1 hi, hb⟩
  have := nodup_sub _ _ (rgL_nodup n) hs
  rw [rgL_len] at this
  omega
theorem ordX_ne (n : Nat) : ∀ (f : Nat) (b : List Int), b.length + f = n → ordX n f b ≠ []
  | 0, b, _ => by simp [ordX]
  | f + 1, b, h => by
    obtain ⟨i, hi, hb⟩ := free_some (b := b) (n := n) (by omega)
    have ih := ordX_ne n f (b ++ [(i : Int)]) (by rw [List.length_append]; simp; omega)
    rw [ordX_succ]
    unfold ordP
    intro hc
    rw [List.flatMap_eq_nil_iff] at hc
    have := hc i (List.mem_range.2 hi)
    rw [if_neg (by simpa using hb)] at this
    exact ih this
theorem row_cells {w : World} {base : Nat} {A : Option Addr} {c k : Nat} {xs : List Value} (h : w.ownsRow base 43 1 (.slice A k c) k xs) (hk : 0 < k) : ∃ ad, A = some ad ∧ ∀ j u, xs[j]? = some u → w.cell? (ad.add j) = some u := by
  rcases h.2 with ⟨e, h0⟩ | ⟨g, cap, cur, e, _, hh, hnc, _, _, htk⟩
  · have := h.1; rw [h0] at this; simp at this; omega
  · injection e with e1 e2 e3
    refine ⟨⟨g, 0, none⟩, e1, fun j u hu => ?_⟩
    rw [addOff, cell_of_row w g j cur 43 (0, 0) hh, ← Array.getElem?_toList]
    rw [← htk, List.getElem?_take] at hu
    by_cases hj : j < k * 1
    · rw [if_pos hj] at hu; simpa using hu
    · rw [if_neg hj] at hu; cases hu

end Go.Proofs.Ytccoflhoggpgoaa

namespace Go.Proofs.Ytccoflhoggpgoaa
open Go.RowKit

open Go.Shelf

/-- Rows that can be cut. -/
def RdGc (w : World) (A : Option Addr) (n : Nat) (rows : List (List Int)) : Prop :=
  rows.length = n ∧ (0 < n → ∃ ad, A = some ad ∧ ad.block < w.heap.size ∧ ∀ j, j < n → ∃ B m c, w.cell? (ad.add j) = some (.slice B m c) ∧ RdI w B m (rows.getD j []) ∧ m ≤ c ∧ (B = none → m = 0 ∧ c = 0))
theorem RdGc.below {w w' : World} {A : Option Addr} {n : Nat} {rows : List (List Int)} (h : RdGc w A n rows) (hb : Below w.heap.size w w') : RdGc w' A n rows := by
  refine ⟨h.1, fun hn => ?_⟩
  obtain ⟨ad, e, hlt, hc⟩ := h.2 hn
  refine ⟨ad, e, Nat.lt_of_lt_of_le hlt hb.size, fun j hj => ?_⟩
  obtain ⟨B, m, c, h1, h2, h3⟩ := hc j hj
  exact ⟨B, m, c, (hb.cell (by rw [addBlock]; exact hlt)).trans h1, h2.below hb, h3⟩
theorem odE_perm {n : Nat} {o : List Int} (hn : n < 7) (h : odE n o = 0) : o.Perm (rgL n) := by
  obtain ⟨k, hk, e⟩ := ords_all h
  rw [← e]
  exact (ords_ok hn hk).2
theorem odE_nodup {n : Nat} {o : List Int} (hn : n < 7) (h : odE n o = 0) : o.Nodup := (odE_perm hn h).nodup_iff.2 (rgL_nodup n)
def agG (q : List Int) (x y : Int) : Int := agA y x q
theorem agG_bd {q : List Int} (h : q.Nodup) (x y : Int) : 0 ≤ agG q x y ∧ agG q x y ≤ 1 := ⟨agA_nn _ _ _, agA_le q h⟩
theorem agA_drop (y x : Int) (q : List Int) (a : Nat) (h : a < q.length) : agA y x (q.drop a) = (if q.getD a 0 = y ∧ x ∈ q.drop a then 1 else 0) + agA y x (q.drop (a + 1)) := by
  rw [List.getD_eq_getElem?_getD, List.getElem?_eq_getElem h, Option.getD_some, List.drop_eq_getElem_cons h]
  rfl
theorem agT_step (qs : List (List Int)) (o : List Int) (k : Nat) (h : k < qs.length) : agT (qs.take (k + 1)) o = agT (qs.take k) o + agO (qs.getD k []) o := by
  unfold agT
  rw [List.take_add_one, List.getD_eq_getElem?_getD, List.getElem?_eq_getElem h]
  rw [Option.getD_some, Option.toList_some, List.map_append, List.sum_append]; simp only [List.map_cons, List.map_nil, List.sum_cons, List.sum_nil, Int.add_zero]
theorem agO_bd {q o : List Int} (hq : q.Nodup) (hl : o.length ≤ 6) : 0 ≤ agO q o ∧ agO q o ≤ 36000 := by
  have h1 := psP_bd (g := agG q) (l := o) (fun x _ y _ => ⟨(agG_bd hq x y).1, by have := (agG_bd hq x y).2; omega⟩) hl o.length (Nat.le_refl _)
  rw [psP_end] at h1
  have e : agO q o = psF (agG q) o := rfl
  rw [e]; omega
theorem agT_bd {qs : List (List Int)} {o : List Int} (hq : ∀ q ∈ qs, q.Nodup) (hl : o.length ≤ 6) : ∀ k, k ≤ qs.length → 0 ≤ agT (qs.take k) o ∧ agT (qs.take k) o ≤ 36000 * k
  | 0, _ => by simp [agT]
  | k + 1, hk => by
    have h1 := agT_bd hq hl k (by omega)
    have h2 := agO_bd (q := qs.getD k []) (o := o) (hq _ (by rw [List.getD_eq_getElem?_getD, List.getElem?_eq_getElem (by omega), Option.getD_some]; exact List.getElem_mem _)) hl
    rw [agT_step qs o k (by omega)]
    omega
theorem rd_drop {w : World} {a : Option Addr} {n : Nat} {xs : List Int} (h : RdI w a n xs) (lo c : Nat) (h1 : lo ≤ n) (h2 : n ≤ c) : RdI w (cutA a lo c) (n - lo) (xs.drop lo) := by
  have h3 := h.cut lo c (n - lo) (by omega) h2
  rwa [List.take_of_length_le (by rw [List.length_drop, h.1]; omega)] at h3

set_option maxRecDepth 100000 in
set_option maxHeartbeats 8000000 in
theorem listenAgainst_any (A : Option Addr) (K c : Nat) (qs : List (List Int)) (B : Option Addr) (n d : Nat) (o : List Int) (w : World) (hp : RdGc w A K qs) (hr : RdI w B n o) (hq : ∀ q ∈ qs, odE n q = 0) (ho : odE n o = 0) (hn : n ≤ 6) (hK : K ≤ 9) :
    Calls Try.prog 76 #[.slice A K c, .slice B n d] w fun e w' => e = .returned (.int .i64 (agT qs o)) ∧ ∃ z, w' = w.drewN z := by
  have HP := Lib.hid hp
  have HO := Lib.hid hr
  have hqn : ∀ q ∈ qs, q.Nodup := fun q h => odE_nodup (by omega) (hq q h)
  have hol : o.length = n := hr.1
  have hql : qs.length = K := hp.1
  have hm : ∀ k, k < K → qs.getD k [] ∈ qs := fun k hk => by rw [List.getD_eq_getElem?_getD, List.getElem?_eq_getElem (by omega), Option.getD_some]; exact List.getElem_mem _
  have HQN : Hid (∀ k, k < K → (qs.getD k []).Nodup) := fun k hk => hqn _ (hm k hk)
  have HQL : Hid (∀ k, k < K → (qs.getD k []).length = n) := fun k hk => (odE_zero (hq _ (hm k hk))).1
  have HTB := Lib.hid (agT_bd hqn (by omega : o.length ≤ 6))
  have HTS := Lib.hid (fun k (hk : k < K) => agT_step qs o k (by omega))
  have HF : Hid (agT (qs.take K) o = agT qs o) := by show _ = _; rw [List.take_of_length_le (by omega)]
  rw [hql] at HTB
  have HPE : Hid (∀ q, agO q o = psP (agG q) o n) := fun q => by rw [← hol]; exact (psP_end (agG q) o).symm
  have HPB : Hid (∀ q : List Int, q.Nodup → ∀ i, i ≤ n → 0 ≤ psP (agG q) o i ∧ psP (agG q) o i ≤ 6000 * i) := fun q h i hi => psP_bd (g := agG q) (fun x _ y _ => ⟨(agG_bd h x y).1, by have := (agG_bd h x y).2; omega⟩) (by omega) i (by omega)
  have HRB : Hid (∀ q : List Int, q.Nodup → ∀ i, i < n → ∀ a b, 0 ≤ psR (agG q) (o.getD i 0) ((o.drop a).take b) ∧ psR (agG q) (o.getD i 0) ((o.drop a).take b) ≤ 6000) := fun q h i hi a b => psR_part (g := agG q) (fun x _ y _ => ⟨(agG_bd h x y).1, by have := (agG_bd h x y).2; omega⟩) (by omega) (getD_mem (l := o) (i := i) (by omega)) a b
  have HST : Hid (∀ q i, psP (agG q) o (i + 1) = psP (agG q) o i + psR (agG q) (o.getD i 0) ((o.drop (i + 1)).take (n - (i + 1)))) := fun q i => by rw [← hol]; exact psP_step (agG q) o i
  have HNX : Hid (∀ q x i k, i ≤ k → k < n → psR (agG q) x ((o.drop i).take (k + 1 - i)) = psR (agG q) x ((o.drop i).take (k - i)) + agG q x (o.getD k 0)) := fun q x i k h h2 => psR_next (agG q) x o i k h (by omega)
  obtain ⟨V, hV⟩ : ∃ V, agT qs o = V := ⟨_, rfl⟩
  rw [hV] at HF ⊢
  clear hp hr hq ho hqn hol hql hm hV
  go_enter Try.func76, Try.ntmps76
  go_wp2
  go_loopw [5, 6] (fun s i wr => ∃ k : Nat, k ≤ K ∧ i = .int .i64 k ∧ s = .int .i64 (agT (qs.take k) o) ∧ Hid (∃ q, wr = w.drewN q)) (fun _ i _ => K - (intOf i).toNat)
  case atStart => exact ⟨0, Nat.zero_le _, rfl, rfl, ⟨0, rfl⟩⟩
  case round =>
    obtain ⟨k, hk, rfl, rfl, HD⟩ := hrel
    by_cases hkl : k < K
    case neg =>
      obtain rfl : K = k := by omega
      have hkI : ¬ (K : Int) < (K : Int) := by omega
      rw [HF.out]
      go_wp2
      go_ret
      exact ⟨rfl, HD.out⟩
    have hkI : (k : Int) < (K : Int) := by omega
    have hk0 : (0 : Int) ≤ (k : Int) := by omega
    have hqk := HQN.out k hkl
    have HQK := Lib.hid hqk
    have hqlk := HQL.out k hkl
    have HQLK := Lib.hid hqlk
    have htb := HTB.out k hk
    have HTSK := Lib.hid (HTS.out k hkl)
    rw [HPE.out] at HTSK
    have HPBK := Lib.hid (HPB.out _ hqk)
    have HRBK := Lib.hid (HRB.out _ hqk)
    have HSTK := Lib.hid (HST.out (qs.getD k []))
    have HNXK := Lib.hid (HNX.out (qs.getD k []))
    have HROW : Hid (∀ z, ∃ ad, A = some ad ∧ ∃ Bq qc, (w.drewN z).cell? (ad.add k) = some (.slice Bq n qc) ∧ RdI (w.drewN z) Bq n (qs.getD k []) ∧ n ≤ qc) := fun z => by
      have hb : Below w.heap.size w (w.drewN z) := blw_drewN (Below.refl _ _) z
      obtain ⟨ad, ha, _, hc⟩ := (HP.out.below hb).2 (by omega)
      obtain ⟨Bq, m, qc, h1, h2, h3, _⟩ := hc k hkl
      have hmn : m = n := by have := h2.1; omega
      subst hmn
      exact ⟨ad, ha, Bq, qc, h1, h2, h3⟩
    obtain ⟨q, hqv⟩ : ∃ q, qs.getD k [] = q := ⟨_, rfl⟩
    rw [hqv] at HQK HQLK HTSK HPBK HRBK HSTK HNXK HROW
    obtain ⟨s0, hs0⟩ : ∃ s, agT (qs.take k) o = s := ⟨_, rfl⟩
    rw [hs0] at htb HTSK ⊢
    clear hqk hqlk hqv hs0
    go_wp2
    go_loopw [5, 7] (fun s i wr => ∃ i' : Nat, i' ≤ n ∧ i = .int .i64 i' ∧ s = .int .i64 (s0 + psP (agG q) o i') ∧ Hid (∃ q, wr = w.drewN q)) (fun _ i _ => n - (intOf i).toNat)
    case atStart => exact ⟨0, Nat.zero_le _, rfl, by show _ = Value.int .i64 (s0 + 0); rw [Int.add_zero], HD⟩
    case round =>
      clear HD
      obtain ⟨i, hi, rfl, rfl, HD⟩ := hrel
      by_cases hil : i < n
      case neg =>
        obtain rfl : n = i := by omega
        have hiI : ¬ (n : Int) < (n : Int) := by omega
        rw [← HTSK.out]
        go_wp2
        go_roundw
        case rel => exact ⟨k + 1, by omega, by go_num, rfl, HD⟩
        case measure => simp only [intOf]; omega
      have hiI : (i : Int) < (n : Int) := by omega
      have hi0 : (0 : Int) ≤ (i : Int) := by omega
      have hpb := HPBK.out i hi
      have HRBI := Lib.hid (HRBK.out i hil)
      have HSTI := Lib.hid (HSTK.out i)
      have HNXI := Lib.hid (HNXK.out (o.getD i 0))
      obtain ⟨x, hx⟩ : ∃ x, o.getD i 0 = x := ⟨_, rfl⟩
      have HXE := Lib.hid hx
      rw [hx] at HRBI HSTI HNXI
      clear hx
      have HXI : Hid (∀ z, ∃ bd, B = some bd ∧ (∀ j, j < n → (w.drewN z).cell? (bd.add j) = some (.int .i64 (o.getD j 0)))) := fun z => by
        obtain ⟨bd, hb, _, hc⟩ := (HO.out.below (blw_drewN (Below.refl _ _) z)).2 (by omega)
        exact ⟨bd, hb, hc⟩
      obtain ⟨s1, hs1⟩ : ∃ s, psP (agG q) o i = s := ⟨_, rfl⟩
      rw [hs1] at hpb HSTI ⊢
      obtain ⟨i1, hi1⟩ : ∃ j, i + 1 = j := ⟨_, rfl⟩
      have hiw : IntKind.i64.wrap ((i : Int) + 1) = (i1 : Int) := by rw [IntWalk.i64_in _ (by omega)]; omega
      rw [hi1] at HSTI
      have HI1 := Lib.hid hi1
      have hi1n : i1 ≤ n := by omega
      clear hs1 hi1
      go_wp2
      go_loopw [5, 8] (fun s ii wr => ∃ j : Nat, i1 ≤ j ∧ j ≤ n ∧ ii = .int .i64 j ∧ s = .int .i64 (s0 + s1 + psR (agG q) x ((o.drop i1).take (j - i1))) ∧ Hid (∃ q, wr = w.drewN q)) (fun _ i _ => n - (intOf i).toNat)
      case atStart => exact ⟨i1, Nat.le_refl _, hi1n, rfl, by rw [Nat.sub_self]; show _ = Value.int .i64 (s0 + s1 + 0); rw [Int.add_zero], HD⟩
      case round =>
        clear HD
        obtain ⟨j, hj1, hj, rfl, rfl, HD⟩ := hrel
        by_cases hjl : j < n
        case neg =>
          obtain rfl : n = j := by omega
          have hjI : ¬ (n : Int) < (n : Int) := by omega
          have hadd : s0 + s1 + psR (agG q) x ((o.drop i1).take (n - i1)) = s0 + psP (agG q) o i1 := by rw [HSTI.out, Int.add_assoc]
          rw [hadd]
          clear hadd
          go_wp2
          go_roundw
          case rel => exact ⟨i1, by omega, by first | rfl | go_num | (rw [hiw]), rfl, HD⟩
          case measure => have := HI1.out; simp only [intOf]; omega
        have hjI : (j : Int) < (n : Int) := by omega
        have hj0 : (0 : Int) ≤ (j : Int) := by omega
        have HSN := Lib.hid (HNXI.out i1 j hj1 hjl)
        have hrb := HRBI.out i1 (j - i1)
        obtain ⟨s2, hs2⟩ : ∃ s, psR (agG q) x ((o.drop i1).take (j - i1)) = s := ⟨_, rfl⟩
        rw [hs2] at HSN hrb ⊢
        have hgb := agG_bd HQK.out x (o.getD j 0)
        have HGA : Hid (agG q x (o.getD j 0) = agA (o.getD j 0) x q) := rfl
        have HDR := Lib.hid (fun a (h : a < n) => agA_drop (o.getD j 0) x q a (by have := HQLK.out; omega))
        have HDB : Hid (∀ a, 0 ≤ agA (o.getD j 0) x (q.drop a) ∧ agA (o.getD j 0) x (q.drop a) ≤ 1) := fun a => ⟨agA_nn _ _ _, agA_le _ (List.Nodup.sublist (List.drop_sublist _ _) HQK.out)⟩
        have HDE : Hid (agA (o.getD j 0) x (q.drop n) = 0) := by show _ = _; rw [List.drop_eq_nil_of_le (by have := HQLK.out; omega)]; rfl
        have HD0 : Hid (agA (o.getD j 0) x (q.drop 0) = agA (o.getD j 0) x q) := by show _ = _; rw [List.drop_zero]
        have HXY : Hid (∀ z, ∃ bd, B = some bd ∧ (w.drewN z).cell? (bd.add i) = some (.int .i64 x) ∧ (w.drewN z).cell? (bd.add j) = some (.int .i64 (o.getD j 0))) := fun z => by
          obtain ⟨bd, hb, hc⟩ := HXI.out z
          exact ⟨bd, hb, by rw [← HXE.out]; exact hc i hil, hc j hjl⟩
        obtain ⟨y, hy⟩ : ∃ y, o.getD j 0 = y := ⟨_, rfl⟩
        rw [hy] at HSN hgb HGA HDR HDB HDE HD0 HXY
        obtain ⟨T, hT⟩ : ∃ t, agG q x y = t := ⟨_, rfl⟩
        rw [hT] at HSN hgb HGA
        rw [← HGA.out] at HD0
        clear hs2 hy hT
        go_wp2
        go_loopw [5, 9] (fun s i wr => ∃ a : Nat, a ≤ n ∧ i = .int .i64 a ∧ s = .int .i64 (s0 + s1 + s2 + (T - agA y x (q.drop a))) ∧ Hid (∃ q, wr = w.drewN q)) (fun _ i _ => n - (intOf i).toNat)
        case atStart => exact ⟨0, Nat.zero_le _, rfl, by rw [HD0.out, Int.sub_self, Int.add_zero], HD⟩
        case round =>
          clear HD
          obtain ⟨a, ha, rfl, rfl, HD⟩ := hrel
          obtain ⟨z0, hz0⟩ := HD.out
          obtain ⟨ad, hA, Bq, qc, hrow, hrd, hqc⟩ := HROW.out z0
          obtain ⟨bd, hB, hcx, hcy⟩ := HXY.out z0
          rw [← hz0] at hrow hrd hcx hcy
          have HRD := Lib.hid hrd
          have HDN : Hid (∀ z, ∃ q, wr.drewN z = w.drewN q) := fun z => ⟨z0 + z, by rw [hz0]; exact World.drewN_drewN _ _ _⟩
          subst hA
          subst hB
          clear hz0 hrd
          by_cases hal : a < n
          case neg =>
            obtain rfl : n = a := by omega
            have haI : ¬ (n : Int) < (n : Int) := by omega
            have hadd : s0 + s1 + s2 + (T - agA y x (q.drop n)) = s0 + s1 + psR (agG q) x ((o.drop i1).take (j + 1 - i1)) := by rw [HDE.out, HSN.out]; omega
            rw [hadd]
            clear hadd hcx hcy
            go_wp2
            go_roundw
            case rel => exact ⟨j + 1, by omega, by omega, by go_num, rfl, HD⟩
            case measure => simp only [intOf]; omega
          have haI : (a : Int) < (n : Int) := by omega
          have ha0 : (0 : Int) ≤ (a : Int) := by omega
          obtain ⟨qd, hQ, _, hcq⟩ := HRD.out.2 (by omega)
          subst hQ
          have hca := hcq a hal
          have HDRA := Lib.hid (HDR.out a hal)
          have hdb := HDB.out a
          have hdb1 := HDB.out (a + 1)
          have hcut : ∀ W, (Instr.slice 43 (.slice (some qd) n qc) (some (.int .i64 (a : Int))) none none).run Try.prog W = .ok (.slice (cutA (some qd) a qc) (n - a) (qc - a)) W := fun W => cutFrom_run (some qd) n qc a (n - a) (qc - a) (a : Int) rfl (by omega) rfl rfl W
          have CH : Hid (∀ z, Calls Try.prog 39 #[.slice (cutA (some qd) a qc) (n - a) (qc - a), .int .i64 x] (wr.drewN z) fun e w' => e = .returned (.bool (decide (x ∈ q.drop a))) ∧ wr.drewN z = w') := fun z => has_any _ (n - a) (qc - a) (q.drop a) x (wr.drewN z) (rd_drop (RdI.drewN HRD.out z) a qc (by omega) hqc) (by omega)
          obtain ⟨v, hv⟩ : ∃ v, q.getD a 0 = v := ⟨_, rfl⟩
          rw [hv] at hca HDRA
          obtain ⟨b2, hb2⟩ : ∃ b, decide (x ∈ q.drop a) = b := ⟨_, rfl⟩
          have HB2 := Lib.hid hb2
          rw [hb2] at CH
          obtain ⟨cb, hcbv⟩ : ∃ b, cutA (some qd) a qc = b := ⟨_, rfl⟩
          rw [hcbv] at hcut CH
          obtain ⟨na, hna⟩ : ∃ na, n - a = na := ⟨_, rfl⟩
          rw [hna] at hcut CH
          obtain ⟨ca, hca2⟩ : ∃ na, qc - a = na := ⟨_, rfl⟩
          rw [hca2] at hcut CH
          obtain ⟨r0, hr0⟩ : ∃ r, agA y x (q.drop a) = r := ⟨_, rfl⟩
          obtain ⟨r1, hr1⟩ : ∃ r, agA y x (q.drop (a + 1)) = r := ⟨_, rfl⟩
          have HR1 := Lib.hid hr1
          rw [hr0] at HDRA hdb ⊢
          rw [hr1] at HDRA hdb1
          clear hcq hv hb2 hcbv hna hca2 hr0 hr1
          by_cases hvy : v = y
          · subst hvy
            cases b2 with
            | true =>
              have hst : r0 = 1 + r1 := by rw [HDRA.out, if_pos ⟨rfl, of_decide_eq_true HB2.out⟩]
              have hw : IntKind.i64.wrap (s0 + s1 + s2 + (T - r0) + 1) = s0 + s1 + s2 + (T - r1) := by rw [IntWalk.i64_in _ (by omega)]; omega
              clear hst
              go_wp2
              go_quiet ((go_at_call 39; exact quietP (CH.out _)))
              go_wp2
              go_roundw
              case rel => exact ⟨a + 1, by omega, by go_num, by rw [HR1.out], HDN.out _⟩
              case measure => simp only [intOf]; omega
            | false =>
              have hst : r0 = r1 := by rw [HDRA.out, if_neg (fun h => of_decide_eq_false HB2.out h.2), Int.zero_add]
              subst hst
              go_wp2
              go_quiet ((go_at_call 39; exact quietP (CH.out _)))
              go_wp2
              go_roundw
              case rel => exact ⟨a + 1, by omega, by go_num, by rw [HR1.out], HDN.out _⟩
              case measure => simp only [intOf]; omega
          · have hst : r0 = r1 := by rw [HDRA.out, if_neg (fun h => hvy h.1), Int.zero_add]
            subst hst
            have hvb : (v == y) = false := by rw [beq_eq_false_iff_ne]; exact hvy
            have hvd : decide (v = y) = false := decide_eq_false hvy
            clear hvy
            go_wp2
            go_quiet (fail)
            go_wp2
            go_roundw
            case rel => exact ⟨a + 1, by omega, by go_num, by rw [HR1.out], HDN.out _⟩
            case measure => simp only [intOf]; omega

end Go.Proofs.Ytccoflhoggpgoaa

namespace Go.Proofs.Ytccoflhoggpgoaa
open Go.RowKit

open Go.Shelf

/-! ### a matrix of the call's own -/
def rowE (n : Nat) (E : Int → Int → Int) (x : Nat) : List Int := (List.range n).map fun (y : Nat) => E x y
def matE (n : Nat) (E : Int → Int → Int) : List (List Int) := (List.range n).map (rowE n E)
theorem rowE_len (n : Nat) (E : Int → Int → Int) (x : Nat) : (rowE n E x).length = n := by simp [rowE]
theorem rowE_at (n : Nat) (E : Int → Int → Int) (x y : Nat) (h : y < n) : (rowE n E x).getD y 0 = E x y := by
  unfold rowE
  rw [List.getD_eq_getElem?_getD, List.getElem?_map, List.getElem?_range h]; rfl
theorem matE_len (n : Nat) (E : Int → Int → Int) : (matE n E).length = n := by simp [matE]
theorem matE_at (n : Nat) (E : Int → Int → Int) (x : Nat) (h : x < n) : (matE n E).getD x [] = rowE n E x := by
  unfold matE
  rw [List.getD_eq_getElem?_getD, List.getElem?_map, List.getElem?_range h]; rfl
theorem matE_ent {n : Nat} {E : Int → Int → Int} {x y : Int} (hx : 0 ≤ x ∧ x < n) (hy : 0 ≤ y ∧ y < n) : ent (matE n E) x y = E x y := by
  unfold ent
  rw [matE_at n E x.toNat (by omega), rowE_at n E _ y.toNat (by omega)]
  congr 1 <;> omega
theorem rowE_get (n : Nat) (E : Int → Int → Int) (x i : Nat) (h : i < (rowE n E x).length) : (rowE n E x)[i] = E x i := by simp [rowE]
theorem rowE_set (n : Nat) (E : Int → Int → Int) (u v : Nat) (hv : v < n) : (rowE n E u).set v (E u v + 1) = rowE n (fun x y => E x y + dlt x y u v) u := by
  apply List.ext_getElem (by rw [List.length_set, rowE_len, rowE_len])
  intro i h1 h2
  rw [List.length_set] at h1
  rw [List.getElem_set, rowE_get _ _ _ _ h2, rowE_get _ _ _ _ h1]
  show _ = E u i + dlt u i u v
  unfold dlt
  by_cases hi : v = i
  · subst hi; rw [if_pos rfl, if_pos ⟨rfl, rfl⟩]
  · rw [if_neg hi, if_neg (fun h => hi (by omega)), Int.add_zero]
theorem rowE_other (n : Nat) (E : Int → Int → Int) (u v x : Nat) (hx : x ≠ u) : rowE n (fun x y => E x y + dlt x y u v) x = rowE n E x := by
  unfold rowE
  refine List.map_congr_left fun y _ => ?_
  show E x y + dlt x y u v = E x y
  unfold dlt
  rw [if_neg (fun h => hx (by omega)), Int.add_zero]
theorem rowE_zero (n x : Nat) : rowE n (fun _ _ => 0) x = List.replicate n 0 := by
  apply List.ext_getElem (by simp [rowE])
  intro i h1 h2
  simp [rowE]
theorem rwE_of (i : Nat) : ∀ (r : List Int) (j : Nat), (∀ t, t < r.length → celE i (j + t) (r.getD t 0) = 0) → rwE i j r = 0
  | [], _, _ => rfl
  | x :: r, j, h => by
    unfold rwE
    have h0 := h 0 (by simp)
    rw [Nat.add_zero] at h0
    rw [if_pos (by simpa using h0)]
    refine rwE_of i r (j + 1) (fun t ht => ?_)
    have := h (t + 1) (by simpa using ht)
    rw [show j + (t + 1) = j + 1 + t by omega] at this
    simpa using this
theorem rwsE_of : ∀ (p : List (List Int)) (i : Nat), (∀ t, t < p.length → rwE (i + t) 0 (p.getD t []) = 0) → rwsE i p = 0
  | [], _, _ => rfl
  | r :: p, i, h => by
    unfold rwsE
    have h0 := h 0 (by simp)
    rw [Nat.add_zero] at h0
    rw [if_pos (by simpa using h0)]
    refine rwsE_of p (i + 1) (fun t ht => ?_)
    have := h (t + 1) (by simpa using ht)
    rw [show i + (t + 1) = i + 1 + t by omega] at this
    simpa using this
theorem matE_ok {n : Nat} {E : Int → Int → Int} (hn : n ≤ 6) (hE : ∀ x y, 0 ≤ E x y ∧ E x y ≤ 1000) (hd : ∀ x, E x x = 0) : pfE (matE n E) = 0 := by
  unfold pfE
  rw [matE_len, if_neg (by omega)]
  have hs : shE n (matE n E) = 0 := by
    unfold shE
    rw [if_pos]
    rw [List.all_eq_true]
    intro r hr
    obtain ⟨x, _, rfl⟩ := List.mem_map.1 hr
    simp [rowE_len]
  rw [if_pos hs]
  refine rwsE_of _ 0 (fun t ht => ?_)
  rw [matE_len] at ht
  rw [matE_at n E t ht, Nat.zero_add]
  refine rwE_of t _ 0 (fun s hs2 => ?_)
  rw [rowE_len] at hs2
  rw [rowE_at n E t s hs2, Nat.zero_add, celE_vals]
  have h1 := hE t s
  rw [if_pos (by simp [fromB]; omega), if_neg]
  rintro ⟨rfl, h2⟩
  exact h2 (hd _)
def hdP (n i : Nat) (h : Nat → Nat) : Array Value := ((List.range n).map fun j => if j < i then Value.slice (some ⟨h j, 0, none⟩) n n else Value.slice none 0 0).toArray
theorem hdP_at (n i : Nat) (h : Nat → Nat) (j : Nat) (hj : j < n) : (hdP n i h)[j]? = some (if j < i then Value.slice (some ⟨h j, 0, none⟩) n n else Value.slice none 0 0) := by
  unfold hdP
  rw [List.getElem?_toArray, List.getElem?_map, List.getElem?_range hj]; rfl
theorem hdP_zero (n : Nat) (h : Nat → Nat) : hdP n 0 h = (List.replicate n (Value.slice none 0 0)).toArray := by
  unfold hdP
  congr 1
  apply List.ext_getElem (by simp)
  intro i h1 h2
  simp
theorem hdP_set (n i : Nat) (h : Nat → Nat) (g : Nat) (hi : i < n) : (hdP n i h).setIfInBounds i (.slice (some ⟨g, 0, none⟩) n n) = hdP n (i + 1) (fun j => if j = i then g else h j) := by
  unfold hdP
  rw [List.setIfInBounds_toArray]
  congr 1
  apply List.ext_getElem (by simp)
  intro j h1 h2
  rw [List.getElem_set]
  simp only [List.getElem_map, List.getElem_range]
  by_cases hj : i = j
  · subst hj; rw [if_pos rfl, if_pos (by omega), if_pos rfl]
  · rw [if_neg hj]
    by_cases hj2 : j < i
    · rw [if_pos hj2, if_pos (by omega), if_neg (by omega)]
    · rw [if_neg hj2, if_neg (by omega)]
structure MatP (b0 : Nat) (w : World) (g : Nat) (h : Nat → Nat) (n i : Nat) (E : Int → Int → Int) : Prop where
  head : Bk w g 43 (hdP n i h)
  row : ∀ j, j < i → Bk w (h j) 3 (iArr (rowE n E j))
  inj : ∀ j k, j < i → k < i → h j = h k → j = k
  lo : b0 ≤ g ∧ ∀ j, j < i → b0 ≤ h j
theorem MatP.ne {b0 : Nat} {w : World} {g : Nat} {h : Nat → Nat} {n i : Nat} {E : Int → Int → Int} (H : MatP b0 w g h n i E) {j : Nat} (hj : j < i) : h j ≠ g := by
  intro e
  have h1 : w.heap[g]? = _ := H.head
  have h2 : w.heap[h j]? = _ := H.row j hj
  rw [e] at h2
  have h3 := h1.symm.trans h2
  simp at h3
theorem MatP.later {b0 : Nat} {w w' : World} {g : Nat} {h : Nat → Nat} {n i : Nat} {E : Int → Int → Int} (H : MatP b0 w g h n i E) (hb : Below w.heap.size w w') : MatP b0 w' g h n i E :=
  ⟨H.head.later hb, fun j hj => (H.row j hj).later hb, H.inj, H.lo⟩
theorem MatP.start {b0 : Nat} (w : World) (n : Nat) (h : Nat → Nat) (hb : b0 ≤ w.heap.size) : MatP b0 (w.alloc (.cells (List.replicate n (Value.slice none 0 0)).toArray 43)) w.heap.size h n 0 (fun _ _ => 0) :=
  ⟨by rw [hdP_zero]; exact Bk.new _ _ _, fun j hj => absurd hj (by omega), fun j k hj => absurd hj (by omega), hb, fun j hj => absurd hj (by omega)⟩
theorem MatP.step {b0 : Nat} {w : World} {g : Nat} {h : Nat → Nat} {n i : Nat} (H : MatP b0 w g h n i (fun _ _ => 0)) (hi : i < n) (hb : b0 ≤ w.heap.size) :
    MatP b0 ((w.alloc (.cells (iArr (List.replicate n 0)) 3)).setCell ⟨g, i, none⟩ (.slice (some ⟨w.heap.size, 0, none⟩) n n)) g (fun j => if j = i then w.heap.size else h j) n (i + 1) (fun _ _ => 0) := by
  have hB : Below w.heap.size w (w.alloc (.cells (iArr (List.replicate n 0)) 3)) := (Below.refl _ _).alloc (Nat.le_refl _) _
  have hg : g < w.heap.size := H.head.lt
  refine ⟨?_, fun j hj => ?_, fun j k hj hk => ?_, H.lo.1, fun j hj => ?_⟩
  · have := (H.head.later hB).set_ i (.slice (some ⟨w.heap.size, 0, none⟩) n n)
    rwa [hdP_set n i h _ hi] at this
  · by_cases hji : j = i
    · subst hji
      rw [if_pos rfl]
      rw [rowE_zero]
      exact (Bk.new w _ _).far _ (by show w.heap.size ≠ g; omega) _
    · rw [if_neg hji]
      exact ((H.row j (by omega)).later hB).far _ (H.ne (by omega)) _
  · by_cases hji : j = i
    · by_cases hki : k = i
      · intro _; omega
      · rw [if_pos hji, if_neg hki]
        intro e
        have := (H.row k (by omega)).lt
        omega
    · by_cases hki : k = i
      · rw [if_neg hji, if_pos hki]
        intro e
        have := (H.row j (by omega)).lt
        omega
      · rw [if_neg hji, if_neg hki]
        exact H.inj j k (by omega) (by omega)
  · by_cases hji : j = i
    · rw [if_pos hji]; exact hb
    · rw [if_neg hji]; exact H.lo.2 j (by omega)
theorem MatP.set {b0 : Nat} {w : World} {g : Nat} {h : Nat → Nat} {n : Nat} {E : Int → Int → Int} (H : MatP b0 w g h n n E) {u v : Nat} (hu : u < n) (hv : v < n) :
    MatP b0 (w.setCell ⟨h u, v, none⟩ (.int .i64 (E u v + 1))) g h n n (fun x y => E x y + dlt x y u v) := by
  refine ⟨H.head.far _ (Ne.symm (H.ne hu)) _, fun j hj => ?_, H.inj, H.lo⟩
  by_cases hj2 : j = u
  · subst hj2
    have := (H.row j hj).set_ v (.int .i64 (E j v + 1))
    rwa [iArr_set, rowE_set n E j v hv] at this
  · rw [rowE_other n E u v j hj2]
    exact (H.row j hj).far _ (fun e => hj2 (H.inj j u hj hu e)) _
theorem MatP.cells {b0 : Nat} {w : World} {g : Nat} {h : Nat → Nat} {n : Nat} {E : Int → Int → Int} (H : MatP b0 w g h n n E) {u v : Nat} (hu : u < n) (hv : v < n) :
    w.cell? ⟨g, u, none⟩ = some (.slice (some ⟨h u, 0, none⟩) n n) ∧ w.cell? ⟨h u, v, none⟩ = some (.int .i64 (E u v)) ∧ w.frozen? ⟨h u, v, none⟩ = false := by
  refine ⟨by rw [H.head.cell, hdP_at _ _ _ _ hu, if_pos hu], ?_, (H.row u hu).frozen v⟩
  rw [(H.row u hu).cell, iArr_at _ _ (by rw [rowE_len]; exact hv), rowE_at n E u v hv]
theorem MatP.rd {b0 : Nat} {w : World} {g : Nat} {h : Nat → Nat} {n : Nat} {E : Int → Int → Int} (H : MatP b0 w g h n n E) : RdGo w (some ⟨g, 0, none⟩) n (matE n E) := by
  refine ⟨matE_len n E, fun hn => ⟨_, rfl, H.head.lt, fun j hj => ?_⟩⟩
  refine ⟨some ⟨h j, 0, none⟩, n, n, ?_, ?_, fun e => by cases e⟩
  · rw [addOff, H.head.cell, hdP_at _ _ _ _ hj, if_pos hj]
  · rw [matE_at n E j hj]
    exact rd_of_bk (H.row j hj) (rowE_len _ _ _)

end Go.Proofs.Ytccoflhoggpgoaa

namespace Go.Proofs.Ytccoflhoggpgoaa
open Go.RowKit

open Go.Shelf

theorem dlt_bd (x y u v : Int) : 0 ≤ dlt x y u v ∧ dlt x y u v ≤ 1 := by
  unfold dlt
  split <;> omega
theorem cnE_step (qs : List (List Int)) (k : Nat) (h : k < qs.length) (x y : Int) : cnE (qs.take (k + 1)) x y = cnE (qs.take k) x y + psF (dlt x y) (qs.getD k []) := by
  unfold cnE
  rw [List.take_add_one, List.getD_eq_getElem?_getD, List.getElem?_eq_getElem h, Option.getD_some, Option.toList_some, List.map_append, List.sum_append]
  simp only [List.map_cons, List.map_nil, List.sum_cons, List.sum_nil, Int.add_zero]
theorem MatP.cast {b0 : Nat} {w : World} {g : Nat} {h : Nat → Nat} {n i : Nat} {E E' : Int → Int → Int} (H : MatP b0 w g h n i E) (e : ∀ x y, E x y = E' x y) : MatP b0 w g h n i E' := by
  have : E = E' := funext fun x => funext fun y => e x y
  rwa [← this]
theorem ranked_math {K n : Nat} {qs : List (List Int)} (hl : qs.length = K) (hK1 : 1 ≤ K) (hK9 : K ≤ 9) (hn : n ≤ 5) (hq : ∀ q ∈ qs, odE n q = 0) :
    pfE (matE n (cnE qs)) = 0 ∧ (matE n (cnE qs)).length = n ∧ odE n (brF (matE n (cnE qs))) = 0 ∧ (∀ o, odE n o = 0 → dsF (matE n (cnE qs)) o = agT qs o) ∧
    (∀ o, odE n o = 0 → dsF (matE n (cnE qs)) (brF (matE n (cnE qs))) ≤ agT qs o) ∧ 0 ≤ rbF (matE n (cnE qs)) ∧ rbF (matE n (cnE qs)) ≤ dsF (matE n (cnE qs)) (brF (matE n (cnE qs))) ∧
    ((qs.all fun q => decide (q = qs.getD 0 [])) = true → dsF (matE n (cnE qs)) (brF (matE n (cnE qs))) = 0 ∧ brF (matE n (cnE qs)) = qs.getD 0 []) := by
  have hqn : ∀ q ∈ qs, q.Nodup := fun q h => odE_nodup (by omega) (hq q h)
  have hP : pfE (matE n (cnE qs)) = 0 := matE_ok (by omega) (fun x y => by have := cnE_bd qs x y hqn; omega) (fun x => cnE_diag qs x hqn)
  have hPl : (matE n (cnE qs)).length = n := matE_len _ _
  have hbr := brF_in hPl (by omega)
  have hag : ∀ o, odE n o = 0 → dsF (matE n (cnE qs)) o = agT qs o := by
    intro o ho
    have hon := odE_nodup (by omega : n < 7) ho
    have hvo := VO.of_odE ho
    rw [← agF_eq, ← cn_ag qs o hqn hon]
    refine psF_congr o hon (fun x hx y hy _ => ?_)
    exact matE_ent (hvo.2 y hy) (hvo.2 x hx)
  have hvp := (pfE_zero hP).2
  rw [hPl] at hvp
  have hle : ∀ o, odE n o = 0 → dsF (matE n (cnE qs)) (brF (matE n (cnE qs))) ≤ agT qs o := fun o ho => by
    rw [← hag o ho]; exact (brF_least hPl (by omega) ho).1
  have hb0 : 0 ≤ rbF (matE n (cnE qs)) := by unfold rbF; rw [hPl]; exact (rbP_bd hvp (by omega) n (Nat.le_refl _)).1
  have hb1 := rbF_le hPl (by omega : n < 7)
  refine ⟨hP, hPl, hbr.1, hag, hle, hb0, hb1, fun hs => ?_⟩
  have hall : ∀ q ∈ qs, q = qs.getD 0 [] := fun q h => of_decide_eq_true (List.all_eq_true.1 hs q h)
  have hm0 : qs.getD 0 [] ∈ qs := by rw [List.getD_eq_getElem?_getD, List.getElem?_eq_getElem (by omega), Option.getD_some]; exact List.getElem_mem _
  have h1 := hle _ (hq _ hm0)
  rw [agT_same qs _ hall (hqn _ hm0)] at h1
  have hD : dsF (matE n (cnE qs)) (brF (matE n (cnE qs))) = 0 := by omega
  refine ⟨hD, ?_⟩
  rw [hag _ hbr.1] at hD
  obtain ⟨q1, qr, rfl⟩ : ∃ a b, qs = a :: b := by
    cases qs with
    | nil => simp at hl; omega
    | cons a b => exact ⟨a, b, rfl⟩
  have h3 := agT_head hD
  have h4 : (q1 :: qr).getD 0 [] = q1 := rfl
  rw [h4] at *
  exact agO_eq _ q1 (hbr.2.trans (odE_perm (by omega) (hq q1 hm0)).symm) (hqn q1 hm0) h3
theorem orderErrG_any (P : Option Addr) (n pc : Nat) (B : Option Addr) (m c : Nat) (o : List Int) (w : World) (hr : RdI w B m o) (hmc : m ≤ c) (hn : n ≤ 1000000) :
    Calls Try.prog 72 #[.slice P n pc, .slice B m c] w fun e w' => e = .returned (.int .i64 (odE n o)) ∧ Below w.heap.size w w' := by
  by_cases hmn : m = n
  · subst hmn
    exact orderErrB_any P m pc B m c o w hr hmc hn hn
  have hv : odE n o = 10 := by unfold odE; rw [hr.1, if_neg hmn]
  rw [hv]
  have hb : ((m : Int) != (n : Int)) = true := by rw [bne_iff_ne]; omega
  have hb2 : ((m : Int) == (n : Int)) = false := by rw [beq_eq_false_iff_ne]; omega
  clear hr
  go_enter Try.func72, Try.ntmps72
  go_wp2
  go_ret
  exact ⟨rfl, Below.refl _ _⟩
theorem listenAgainstB_any (A : Option Addr) (K c : Nat) (qs : List (List Int)) (B : Option Addr) (n d : Nat) (o : List Int) (w : World) (hp : RdGc w A K qs) (hr : RdI w B n o) (hq : ∀ q ∈ qs, odE n q = 0) (ho : odE n o = 0) (hn : n ≤ 6) (hK : K ≤ 9) :
    Calls Try.prog 76 #[.slice A K c, .slice B n d] w fun e w' => e = .returned (.int .i64 (agT qs o)) ∧ Below w.heap.size w w' := by
  refine (listenAgainst_any A K c qs B n d o w hp hr hq ho hn hK).mono ?_
  rintro e w' ⟨rfl, q, rfl⟩
  exact ⟨rfl, blw_drewN (Below.refl _ _) q⟩

end Go.Proofs.Ytccoflhoggpgoaa

namespace Go.Proofs.Ytccoflhoggpgoaa
open Go.RowKit

open Go.Shelf

def nlA (n : Nat) : Array Value := (List.replicate n (Value.slice none 0 0)).toArray
theorem make_rows (c : Nat) (hc : c ≤ 1000000) (W : World) :
    (Instr.makeSlice 95 (.int .i64 (c : Int)) (.int .i64 (c : Int))).run Try.prog W = .ok (.slice (some ⟨W.heap.size, 0, none⟩) c c) (W.alloc (.cells (nlA c) 43)) := by
  obtain ⟨i0, hi, hz0, hz1, hz2⟩ := info_parts slInfo
  have hr := run_make (P := Try.prog) W 95 43 i0 _ Try.underlying95 hi hz0 .i64 .i64 c c (by omega) (by omega) (by rw [hz2]; omega) (by omega)
  rw [hr]
  have e : madeCells (Value.cells (.slice none 0 0)) ((c : Int).toNat * i0.size) = nlA c := by
    rw [hz1]
    apply Array.ext'
    have := toList_madeCells_one (Value.slice none 0 0) c
    simp only [Int.toNat_natCast, Nat.mul_one]
    show (madeCells #[Value.slice none 0 0] c).toList = _
    rw [this]; rfl
  rw [e]
  simp

set_option maxRecDepth 100000 in
set_option maxHeartbeats 8000000 in
theorem ranked_0 (A : Option Addr) (K c : Nat) (B : Option Addr) (m d : Nat) (w : World) (hK : K = 0 ∨ 9 < K) :
    Calls Try.prog 13 #[.slice A K c, .slice B m d] w fun e w' => e = .returned (.bool true) ∧ Below w.heap.size w w' := by
  rcases hK with hK | hK
  · have h0 : ((K : Int) == 0) = true := by rw [beq_iff_eq]; omega
    have h0d : decide ((K : Int) = 0) = true := decide_eq_true (by omega)
    clear hK
    go_enter Try.func13, Try.ntmps13
    go_wp2_with fail
    refine (listenAwake_any _).mono ?_
    rintro e w1 ⟨rfl, hb1⟩
    have HB := Lib.hid hb1
    clear hb1
    go_wp2
    go_ret
    exact ⟨rfl, HB.out⟩
  · have h0 : ((K : Int) == 0) = false := by rw [beq_eq_false_iff_ne]; omega
    have h9 : (9 : Int) < (K : Int) := by omega
    clear hK
    go_enter Try.func13, Try.ntmps13
    go_wp2_with fail
    refine (listenAwake_any _).mono ?_
    rintro e w1 ⟨rfl, hb1⟩
    have HB := Lib.hid hb1
    clear hb1
    go_wp2
    go_ret
    exact ⟨rfl, HB.out⟩
set_option maxRecDepth 100000 in
set_option maxHeartbeats 8000000 in
theorem ranked_5 (A : Option Addr) (K c : Nat) (qs : List (List Int)) (B : Option Addr) (m d : Nat) (w : World) (hp : RdGc w A K qs) (hK1 : 1 ≤ K) (hK9 : K ≤ 9) (n : Nat) (hn : (qs.getD 0 []).length = n) (h5 : 5 < n) :
    Calls Try.prog 13 #[.slice A K c, .slice B m d] w fun e w' => e = .returned (.bool true) ∧ Below w.heap.size w w' := by
  obtain ⟨ad, hA, hal, hcc⟩ := hp.2 (by omega)
  subst hA
  have HROW : Hid (∀ W, Below w.heap.size w W → ∀ k, k < K → ∃ Bq mq qc, W.cell? (ad.add k) = some (.slice Bq mq qc) ∧ RdI W Bq mq (qs.getD k []) ∧ mq ≤ qc) := fun W hb k hk => by
    obtain ⟨ad', e, _, hc⟩ := (hp.below hb).2 (by omega)
    cases e
    obtain ⟨Bq, mq, qc, h1, h2, h3, _⟩ := hc k hk
    exact ⟨Bq, mq, qc, h1, h2, h3⟩
  have HROW0 : Hid (∀ W, Below w.heap.size w W → ∃ Bq qc, W.cell? (ad.add 0) = some (.slice Bq n qc) ∧ W.cell? ad = some (.slice Bq n qc) ∧ RdI W Bq n (qs.getD 0 []) ∧ n ≤ qc) := fun W hb => by
    obtain ⟨Bq, mq, qc, h1, h2, h3⟩ := HROW.out W hb 0 (by omega)
    have hm : mq = n := by rw [← hn]; exact h2.1.symm
    subst hm
    exact ⟨Bq, qc, h1, by rw [addZ] at h1; exact h1, h2, h3⟩
  have hK0 : ((K : Int) == 0) = false := by rw [beq_eq_false_iff_ne]; omega
  have hK9I : ¬ (9 : Int) < (K : Int) := by omega
  have h5I : (5 : Int) < (n : Int) := by omega
  clear hcc hn hp
  go_enter Try.func13, Try.ntmps13
  go_wp2_with fail
  refine (listenAwake_any _).mono ?_
  rintro e w1 ⟨rfl, hb1⟩
  have HB := Lib.hid hb1
  clear hb1
  obtain ⟨B0, c0, h00, h01, _⟩ := HROW0.out w1 HB.out
  go_wp2
  go_ret
  exact ⟨rfl, HB.out⟩
set_option maxRecDepth 100000 in
set_option maxHeartbeats 8000000 in
theorem ranked_m (A : Option Addr) (K c : Nat) (qs : List (List Int)) (B : Option Addr) (m d : Nat) (o : List Int) (w : World) (hp : RdGc w A K qs) (hr : RdI w B m o) (hmd : m ≤ d) (hK1 : 1 ≤ K) (hK9 : K ≤ 9) (n : Nat) (hn : (qs.getD 0 []).length = n) (hn5 : n ≤ 5) :
    Calls Try.prog 13 #[.slice A K c, .slice B m d] w fun e w' => e = .returned (.bool true) ∧ Below w.heap.size w w' := by
  obtain ⟨ad, hA, hal, hcc⟩ := hp.2 (by omega)
  subst hA
  have HROW : Hid (∀ W, Below w.heap.size w W → ∀ k, k < K → ∃ Bq mq qc, W.cell? (ad.add k) = some (.slice Bq mq qc) ∧ RdI W Bq mq (qs.getD k []) ∧ mq ≤ qc) := fun W hb k hk => by
    obtain ⟨ad', e, _, hc⟩ := (hp.below hb).2 (by omega)
    cases e
    obtain ⟨Bq, mq, qc, h1, h2, h3, _⟩ := hc k hk
    exact ⟨Bq, mq, qc, h1, h2, h3⟩
  have HROW0 : Hid (∀ W, Below w.heap.size w W → ∃ Bq qc, W.cell? (ad.add 0) = some (.slice Bq n qc) ∧ W.cell? ad = some (.slice Bq n qc) ∧ RdI W Bq n (qs.getD 0 []) ∧ n ≤ qc) := fun W hb => by
    obtain ⟨Bq, mq, qc, h1, h2, h3⟩ := HROW.out W hb 0 (by omega)
    have hm : mq = n := by rw [← hn]; exact h2.1.symm
    subst hm
    exact ⟨Bq, qc, h1, by rw [addZ] at h1; exact h1, h2, h3⟩
  have hK0 : ((K : Int) == 0) = false := by rw [beq_eq_false_iff_ne]; omega
  have hK9I : ¬ (9 : Int) < (K : Int) := by omega
  have h5I : ¬ (5 : Int) < (n : Int) := by omega
  have hql : qs.length = K := hp.1
  have HQL := Lib.hid hql
  have HQ0 := Lib.hid hn
  have HPC := Lib.hid hp
  have HRO := Lib.hid hr
  have hn00 : (0 : Int) ≤ (n : Int) := by omega
  clear hcc hn hql hp hr
  go_enter Try.func13, Try.ntmps13
  go_wp2_with fail
  refine (listenAwake_any _).mono ?_
  rintro e w1 ⟨rfl, hb1⟩
  have HB := Lib.hid hb1
  clear hb1
  obtain ⟨B0, c0, h00, h01, _⟩ := HROW0.out w1 HB.out
  have hmr := make_rows n (by omega)
  have HM0 : Hid (MatP w.heap.size (w1.alloc (.cells (nlA n) 43)) w1.heap.size (fun _ => 0) n 0 (fun _ _ => 0)) := MatP.start (b0 := w.heap.size) w1 n (fun _ => 0) HB.out.size
  have HB0 := Lib.hid (HB.out.alloc HB.out.size (.cells (nlA n) 43))
  go_wp2
  obtain ⟨g, hg⟩ : ∃ g, w1.heap.size = g := ⟨_, rfl⟩
  obtain ⟨wa, hwa⟩ : ∃ W, w1.alloc (.cells (nlA n) 43) = W := ⟨_, rfl⟩
  rw [hwa] at HM0 HB0 ⊢
  rw [hg] at HM0 ⊢
  have hgl : w.heap.size ≤ g := by have := HB.out.size; omega
  clear hg hwa h00 h01 hmr HB
  go_loopw [7] (fun i wr => ∃ (i' : Nat) (h : Nat → Nat), i' ≤ n ∧ i = .int .i64 i' ∧ Hid (MatP w.heap.size wr g h n i' (fun _ _ => 0)) ∧ Hid (Below w.heap.size w wr)) (fun i _ => n - (intOf i).toNat)
  case atStart => exact ⟨0, fun _ => 0, Nat.zero_le _, rfl, HM0, HB0⟩
  case round =>
    clear HM0 HB0
    obtain ⟨i, h, hi, rfl, HM, HB⟩ := hrel
    by_cases hil : i < n
    case pos =>
      have hiI : (i : Int) < (n : Int) := by omega
      have hi0 : (0 : Int) ≤ (i : Int) := by omega
      have hmk := make_ints n (by omega)
      have hal2 : Below wr.heap.size wr (wr.alloc (.cells (iArr (List.replicate n 0)) 3)) := (Below.refl _ _).alloc (Nat.le_refl _) _
      have p0 : wr.cell? ⟨g, i, none⟩ = some (.slice none 0 0) := by rw [HM.out.head.cell, hdP_at _ _ _ _ hil, if_neg (by omega)]
      have f0 : wr.frozen? ⟨g, i, none⟩ = false := HM.out.head.frozen i
      have p1 : (wr.alloc (.cells (iArr (List.replicate n 0)) 3)).cell? ⟨g, i, none⟩ = some (.slice none 0 0) := by rw [(HM.out.head.later hal2).cell, hdP_at _ _ _ _ hil, if_neg (by omega)]
      have f1 : (wr.alloc (.cells (iArr (List.replicate n 0)) 3)).frozen? ⟨g, i, none⟩ = false := (HM.out.head.later hal2).frozen i
      have HM2 := Lib.hid (HM.out.step hil HB.out.size)
      have HB2 := Lib.hid ((HB.out.alloc HB.out.size (.cells (iArr (List.replicate n 0)) 3)).setCell (p := ⟨g, i, none⟩) hgl (.slice (some ⟨wr.heap.size, 0, none⟩) n n))
      clear hal2 HM HB
      go_wp2
      go_roundw
      case rel => exact ⟨i + 1, _, by omega, by go_num, HM2, HB2⟩
      case measure => simp only [intOf]; omega
    obtain rfl : n = i := by omega
    have hiI : ¬ (n : Int) < (n : Int) := by omega
    have HMS : Hid (MatP w.heap.size wr g h n n (cnE (qs.take 0))) := HM.out.cast (fun x y => by rw [List.take_zero]; rfl)
    clear HM
    go_wp2
    go_loopw [8, 9] (fun b kk wr => ∃ k : Nat, k ≤ K ∧ kk = .int .i64 k ∧ b = .bool ((qs.take k).all fun q => decide (q = qs.getD 0 [])) ∧ Hid (∀ j, j < k → odE n (qs.getD j []) = 0) ∧ Hid (MatP w.heap.size wr g h n n (cnE (qs.take k))) ∧ Hid (Below w.heap.size w wr)) (fun _ kk _ => K - (intOf kk).toNat)
    case atStart => exact ⟨0, Nat.zero_le _, rfl, by rw [List.take_zero]; rfl, Lib.hid (fun j hj => absurd hj (by omega)), HMS, HB⟩
    case round =>
      clear HMS HB
      obtain ⟨k, hk, rfl, rfl, HOD, HM, HB⟩ := hrel
      by_cases hkl : k < K
      case neg =>
        obtain rfl : K = k := by omega
        have hkI : ¬ (K : Int) < (K : Int) := by omega
        have hqa : ∀ q ∈ qs, odE n q = 0 := fun q hq => by
          obtain ⟨j, hj, e⟩ := List.getElem_of_mem hq
          have := HOD.out j (by have := HQL.out; omega)
          rw [List.getD_eq_getElem?_getD, List.getElem?_eq_getElem hj, Option.getD_some, e] at this
          exact this
        have hmath := ranked_math HQL.out hK1 hK9 hn5 hqa
        have htk : qs.take K = qs := List.take_of_length_le (by have := HQL.out; omega)
        rw [htk] at HM ⊢
        have HMP : Hid (∀ W, Below wr.heap.size wr W → RdGo W (some ⟨g, 0, none⟩) n (matE n (cnE qs))) := fun W hb => (HM.out.later hb).rd
        obtain ⟨P, hP⟩ : ∃ P, matE n (cnE qs) = P := ⟨_, rfl⟩
        rw [hP] at hmath HMP
        obtain ⟨m1, m2, m3, m4, m5, m6, m7, m8⟩ := hmath
        have hvp := (pfE_zero m1).2
        rw [m2] at hvp
        have CCL : Hid (∀ W, RdGo W (some ⟨g, 0, none⟩) n P → Calls Try.prog 66 #[.slice (some ⟨g, 0, none⟩) n n] W fun e w' => (∃ A' c', e = .returned (.slice A' n c') ∧ RdGo w' A' n P) ∧ Below W.heap.size W w') := fun W h => (copyLists_any (some ⟨g, 0, none⟩) n n P W h (by omega) (fun k hk => by rw [(hvp.row hk).1]; omega)).mono (fun e w' ⟨⟨A', c', h1, _, h2, _⟩, h3⟩ => ⟨⟨A', c', h1, h2⟩, h3⟩)
        have CBR : Hid (∀ A' c' W, RdGo W A' n P → Calls Try.prog 67 #[.slice A' n c'] W fun e w' => (∃ B d, e = .returned (.tuple #[.slice B n d, .int .i64 (dsF P (brF P)), .int .i64 0]) ∧ n ≤ d ∧ RdI w' B n (brF P) ∧ (B = none → n = 0 ∧ d = 0)) ∧ Below W.heap.size W w') := fun A' c' W h => (bestRanking_any A' n c' P W h (by omega)).mono (fun e w' ⟨_, h2, h3⟩ => ⟨h2 m1, h3⟩)
        have CRB : Hid (∀ A' c' W, RdGo W A' n P → Calls Try.prog 68 #[.slice A' n c'] W fun e w' => e = .returned (.tuple #[.int .i64 (rbF P), .int .i64 0]) ∧ Below W.heap.size W w') := fun A' c' W h => (rankingBound_any A' n c' P W h (by omega)).mono (fun e w' ⟨h2, h3⟩ => ⟨by rw [h2, m1, if_pos rfl], h3⟩)
        have CLA : Hid (∀ W, Below w.heap.size w W → ∀ B' d' o', RdI W B' n o' → odE n o' = 0 → Calls Try.prog 76 #[.slice (some ad) K c, .slice B' n d'] W fun e w' => e = .returned (.int .i64 (agT qs o')) ∧ Below W.heap.size W w') := fun W hb B' d' o' h1 h2 => listenAgainstB_any (some ad) K c qs B' n d' o' W (HPC.out.below hb) h1 hqa h2 (by omega) hK9
        have CI : Hid (∀ O dO O' dO' W q, RdI W O n q → RdI W O' n q → Calls Try.prog 36 #[.slice O n dO, .slice O' n dO'] W fun e w' => e = .returned (.bool true) ∧ ∃ k, w' = W.drewN k) := fun O dO O' dO' W q h h' => (ints_any O O' n n dO dO' q q W h h' (by omega) (by omega)).mono fun e w' ⟨h1, h2⟩ => ⟨by rw [h1, decide_eq_true rfl], h2⟩
        have m9 := m4 _ m3
        have HLE := Lib.hid m5
        obtain ⟨br, hbr⟩ : ∃ b, brF P = b := ⟨_, rfl⟩
        rw [hbr] at CBR m3 m5 m7 m8 m9 HLE
        obtain ⟨D, hD⟩ : ∃ b, dsF P br = b := ⟨_, rfl⟩
        rw [hD] at CBR m5 m7 m8 m9 HLE
        obtain ⟨b, hb⟩ : ∃ b, rbF P = b := ⟨_, rfl⟩
        rw [hb] at CRB m6 m7
        have HBO := Lib.hid m3
        have HDA := Lib.hid m9
        have HSM := Lib.hid m8
        have CE1 := Lib.hid (fun W O dO (h : RdI W O n br) (hd : n ≤ dO) => orderErrG_any (some ⟨g, 0, none⟩) n n O n dO br W h hd (by omega))
        rw [m3] at CE1
        have hDD : (D != D) = false := by rw [bne_self_eq_false]
        have hbI : ¬ b > D := by omega
        obtain ⟨sb, hsb⟩ : ∃ b, (qs.all fun q => decide (q = qs.getD 0 [])) = b := ⟨_, rfl⟩
        rw [hsb] at HSM ⊢
        have HB1 := Lib.hid HB.out
        have HP1 := Lib.hid (HMP.out _ (Below.refl _ _))
        clear hqa htk hP m1 m2 m3 m4 m5 m8 m9 hvp hbr hD hb hsb HM HMP HB
        go_wp2_with fail
        refine (CCL.out _ HP1.out).mono ?_
        rintro e v2 ⟨⟨A1, cA1, rfl, hrr⟩, hb⟩
        have HB2 := Lib.hid (HB1.out.trans (hb.mono HB1.out.size))
        have HP2 := Lib.hid (HP1.out.below hb)
        clear HB1 HP1
        have HX2 := Lib.hid hrr
        clear hrr hb
        go_wp2_with fail
        refine (CBR.out _ _ _ HX2.out).mono ?_
        rintro e v3 ⟨⟨O, dO, rfl, hdO, hrO, hO⟩, hb⟩
        have HB3 := Lib.hid (HB2.out.trans (hb.mono HB2.out.size))
        have HP3 := Lib.hid (HP2.out.below hb)
        have HX3 := Lib.hid (HX2.out.below hb)
        clear HB2 HP2 HX2
        clear HX3
        have HO3 := Lib.hid hrO
        clear hrO hO hb
        go_wp2_with fail
        refine (CCL.out _ HP3.out).mono ?_
        rintro e v4 ⟨⟨A2, cA2, rfl, hrr⟩, hb⟩
        have HB4 := Lib.hid (HB3.out.trans (hb.mono HB3.out.size))
        have HP4 := Lib.hid (HP3.out.below hb)
        have HO4 := Lib.hid (HO3.out.below hb)
        clear HB3 HP3 HO3
        have HX4 := Lib.hid hrr
        clear hrr hb
        go_wp2_with fail
        refine (CRB.out _ _ _ HX4.out).mono ?_
        rintro e v5 ⟨rfl, hb⟩
        have HB5 := Lib.hid (HB4.out.trans (hb.mono HB4.out.size))
        have HP5 := Lib.hid (HP4.out.below hb)
        have HO5 := Lib.hid (HO4.out.below hb)
        have HX5 := Lib.hid (HX4.out.below hb)
        clear HB4 HP4 HO4 HX4
        clear HX5
        clear hb
        go_wp2_with fail
        refine (CE1.out _ _ _ HO5.out hdO).mono ?_
        rintro e v6 ⟨rfl, hb⟩
        have HB6 := Lib.hid (HB5.out.trans (hb.mono HB5.out.size))
        have HP6 := Lib.hid (HP5.out.below hb)
        have HO6 := Lib.hid (HO5.out.below hb)
        clear HB5 HP5 HO5
        clear hb
        have CA := Lib.hid (CLA.out _ HB6.out O dO br HO6.out HBO.out)
        rw [← HDA.out] at CA
        go_wp2_with fail
        refine CA.out.mono ?_
        rintro e v7 ⟨rfl, hb⟩
        have HB7 := Lib.hid (HB6.out.trans (hb.mono HB6.out.size))
        have HP7 := Lib.hid (HP6.out.below hb)
        have HO7 := Lib.hid (HO6.out.below hb)
        clear HB6 HP6 HO6
        clear hb CA
        clear HP7
        cases sb with
        | false =>
          go_wp2
          go_loopw [17] (fun ii wr => ∃ j : Nat, j ≤ K ∧ ii = .int .i64 j ∧ Hid (Below w.heap.size w wr)) (fun ii _ => K - (intOf ii).toNat)
          case atStart => exact ⟨0, Nat.zero_le _, rfl, HB7⟩
          case round =>
            clear HB7
            obtain ⟨j, hj, rfl, HBj⟩ := hrel
            by_cases hjl : j < K
            case pos =>
              have hjI : (j : Int) < (K : Int) := by omega
              have hj0 : (0 : Int) ≤ (j : Int) := by omega
              obtain ⟨Bq, mq, qc, hrow, hrd, _⟩ := HROW.out _ HBj.out j hjl
              have hoj := HOD.out j hjl
              have hmq : mq = n := by have := (odE_zero hoj).1; have := hrd.1; omega
              subst hmq
              have CA := Lib.hid (CLA.out _ HBj.out Bq qc _ hrd hoj)
              have hge := HLE.out _ hoj
              obtain ⟨av, hav⟩ : ∃ a, agT qs (qs.getD j []) = a := ⟨_, rfl⟩
              rw [hav] at CA hge
              have hlt : ¬ av < D := by omega
              clear hrd hoj hge hav
              go_wp2_with fail
              refine CA.out.mono ?_
              rintro e wz ⟨rfl, hb⟩
              have HBz := Lib.hid (HBj.out.trans (hb.mono HBj.out.size))
              clear hb CA
              go_wp2
              go_roundw
              case rel => exact ⟨j + 1, by omega, by go_num, HBz⟩
              case measure => simp only [intOf]; omega
            obtain rfl : K = j := by omega
            have hjI : ¬ (K : Int) < (K : Int) := by omega
            by_cases hm8 : 8 < m
            · have hmI : (8 : Int) < (m : Int) := by omega
              go_wp2
              go_ret
              exact ⟨rfl, HBj.out⟩
            have hmI : ¬ (8 : Int) < (m : Int) := by omega
            have hrO := HRO.out.below HBj.out
            have CE := Lib.hid (orderErrG_any (some ⟨g, 0, none⟩) n n B m d o _ hrO hmd (by omega))
            obtain ⟨OE, hOE⟩ : ∃ e, odE n o = e := ⟨_, rfl⟩
            have HOE := Lib.hid hOE
            rw [hOE] at CE
            clear hrO hOE
            go_wp2_with fail
            refine CE.out.mono ?_
            rintro e wz ⟨rfl, hb⟩
            have HBz := Lib.hid (HBj.out.trans (hb.mono HBj.out.size))
            clear hb CE HBj
            by_cases h0 : OE = 0
            case neg =>
              have hd : (OE != 0) = true := by rw [bne_iff_ne]; exact h0
              have hd1 : (OE == 0) = false := by rw [beq_eq_false_iff_ne]; exact h0
              clear h0
              go_wp2
              go_ret
              exact ⟨rfl, HBz.out⟩
            subst h0
            have hrO := HRO.out.below HBz.out
            have hmn : m = n := by have := (odE_zero HOE.out).1; have := hrO.1; omega
            subst hmn
            have CA := Lib.hid (CLA.out _ HBz.out B d o hrO HOE.out)
            have hge := HLE.out _ HOE.out
            obtain ⟨av, hav⟩ : ∃ a, agT qs o = a := ⟨_, rfl⟩
            rw [hav] at CA hge
            have hge2 : av ≥ D := by omega
            have hge3 : D ≤ av := by omega
            clear hrO hav hge
            go_wp2_with fail
            refine CA.out.mono ?_
            rintro e wy ⟨rfl, hb⟩
            have HBy := Lib.hid (HBz.out.trans (hb.mono HBz.out.size))
            clear hb CA
            go_wp2
            go_ret
            exact ⟨rfl, HBy.out⟩
        | true =>
          obtain ⟨hD0, hbr0⟩ := HSM.out rfl
          have hb0 : b = 0 := by omega
          obtain ⟨B0, c0, h00, h01, hrd0, _⟩ := HROW0.out _ HB7.out
          rw [← hbr0] at hrd0
          have CI2 := Lib.hid (CI.out O dO B0 c0 _ br HO7.out hrd0)
          clear hrd0 hbr0 m6 m7
          subst hD0
          subst hb0
          go_wp2_with fail
          refine CI2.out.mono ?_
          rintro e v8 ⟨rfl, q1, rfl⟩
          have HBw := Lib.hid (blw_drewN HB7.out q1)
          have HOw := Lib.hid (HO7.out.below (blw_drewN (Below.refl _ _) q1))
          clear HB7 HO7 h00 h01 CI2
          go_wp2
          go_loopw [17] (fun ii wr => ∃ j : Nat, j ≤ K ∧ ii = .int .i64 j ∧ Hid (Below w.heap.size w wr)) (fun ii _ => K - (intOf ii).toNat)
          case atStart => exact ⟨0, Nat.zero_le _, rfl, HBw⟩
          case round =>
            clear HBw
            obtain ⟨j, hj, rfl, HBj⟩ := hrel
            by_cases hjl : j < K
            case pos =>
              have hjI : (j : Int) < (K : Int) := by omega
              have hj0 : (0 : Int) ≤ (j : Int) := by omega
              obtain ⟨Bq, mq, qc, hrow, hrd, _⟩ := HROW.out _ HBj.out j hjl
              have hoj := HOD.out j hjl
              have hmq : mq = n := by have := (odE_zero hoj).1; have := hrd.1; omega
              subst hmq
              have CA := Lib.hid (CLA.out _ HBj.out Bq qc _ hrd hoj)
              have hge := HLE.out _ hoj
              obtain ⟨av, hav⟩ : ∃ a, agT qs (qs.getD j []) = a := ⟨_, rfl⟩
              rw [hav] at CA hge
              have hlt : ¬ av < 0 := by omega
              clear hrd hoj hge hav
              go_wp2_with fail
              refine CA.out.mono ?_
              rintro e wz ⟨rfl, hb⟩
              have HBz := Lib.hid (HBj.out.trans (hb.mono HBj.out.size))
              clear hb CA
              go_wp2
              go_roundw
              case rel => exact ⟨j + 1, by omega, by go_num, HBz⟩
              case measure => simp only [intOf]; omega
            obtain rfl : K = j := by omega
            have hjI : ¬ (K : Int) < (K : Int) := by omega
            by_cases hm8 : 8 < m
            · have hmI : (8 : Int) < (m : Int) := by omega
              go_wp2
              go_ret
              exact ⟨rfl, HBj.out⟩
            have hmI : ¬ (8 : Int) < (m : Int) := by omega
            have hrO := HRO.out.below HBj.out
            have CE := Lib.hid (orderErrG_any (some ⟨g, 0, none⟩) n n B m d o _ hrO hmd (by omega))
            obtain ⟨OE, hOE⟩ : ∃ e, odE n o = e := ⟨_, rfl⟩
            have HOE := Lib.hid hOE
            rw [hOE] at CE
            clear hrO hOE
            go_wp2_with fail
            refine CE.out.mono ?_
            rintro e wz ⟨rfl, hb⟩
            have HBz := Lib.hid (HBj.out.trans (hb.mono HBj.out.size))
            clear hb CE HBj
            by_cases h0 : OE = 0
            case neg =>
              have hd : (OE != 0) = true := by rw [bne_iff_ne]; exact h0
              have hd1 : (OE == 0) = false := by rw [beq_eq_false_iff_ne]; exact h0
              clear h0
              go_wp2
              go_ret
              exact ⟨rfl, HBz.out⟩
            subst h0
            have hrO := HRO.out.below HBz.out
            have hmn : m = n := by have := (odE_zero HOE.out).1; have := hrO.1; omega
            subst hmn
            have CA := Lib.hid (CLA.out _ HBz.out B d o hrO HOE.out)
            have hge := HLE.out _ HOE.out
            obtain ⟨av, hav⟩ : ∃ a, agT qs o = a := ⟨_, rfl⟩
            rw [hav] at CA hge
            have hge2 : av ≥ 0 := by omega
            have hge3 : 0 ≤ av := by omega
            clear hrO hav hge
            go_wp2_with fail
            refine CA.out.mono ?_
            rintro e wy ⟨rfl, hb⟩
            have HBy := Lib.hid (HBz.out.trans (hb.mono HBz.out.size))
            clear hb CA
            go_wp2
            go_ret
            exact ⟨rfl, HBy.out⟩
      have hkI : (k : Int) < (K : Int) := by omega
      have hk0 : (0 : Int) ≤ (k : Int) := by omega
      obtain ⟨Bq, mq, qc, hrow, hrd, hqc⟩ := HROW.out wr HB.out k hkl
      have CO := Lib.hid (orderErrG_any (some ⟨g, 0, none⟩) n n Bq mq qc (qs.getD k []) wr hrd hqc (by omega))
      have HRK : Hid (odE n (qs.getD k []) = 0 → ∀ W, Below w.heap.size w W → ∃ Bq qc, W.cell? (ad.add k) = some (.slice Bq n qc) ∧ RdI W Bq n (qs.getD k []) ∧ n ≤ qc) := fun h W hb => by
        obtain ⟨Bq, mq, qc, h1, h2, h3⟩ := HROW.out W hb k hkl
        have hmq : mq = n := by have := (odE_zero h).1; have := h2.1; omega
        subst hmq
        exact ⟨Bq, qc, h1, h2, h3⟩
      have HCS := Lib.hid (cnE_step qs k (by have := HQL.out; omega))
      have HTA : Hid ((qs.take (k + 1)).all (fun q => decide (q = qs.getD 0 [])) = ((qs.take k).all (fun q => decide (q = qs.getD 0 [])) && decide (qs.getD k [] = qs.getD 0 []))) := by
        show _ = _
        rw [List.take_add_one, List.getD_eq_getElem?_getD (i := k), List.getElem?_eq_getElem (i := k) (by have := HQL.out; omega), Option.getD_some, Option.toList_some, List.all_append]
        simp
      obtain ⟨q, hq⟩ : ∃ q, qs.getD k [] = q := ⟨_, rfl⟩
      have HQK := Lib.hid hq
      rw [hq] at CO HRK HCS HTA
      obtain ⟨q0, hq0⟩ : ∃ q, qs.getD 0 [] = q := ⟨_, rfl⟩
      have HQ00 := Lib.hid hq0
      rw [hq0] at HTA ⊢
      obtain ⟨sb, hsb⟩ : ∃ b, (qs.take k).all (fun q => decide (q = q0)) = b := ⟨_, rfl⟩
      rw [hsb] at HTA ⊢
      obtain ⟨OE, hOE⟩ : ∃ e, odE n q = e := ⟨_, rfl⟩
      have HOE := Lib.hid hOE
      rw [hOE] at CO HRK
      clear hOE hrd hqc hq hq0 hsb
      go_wp2_with fail
      refine CO.out.mono ?_
      rintro e wy ⟨rfl, hb⟩
      have HMy := Lib.hid (HM.out.later hb)
      have HBy := Lib.hid (HB.out.trans (hb.mono HB.out.size))
      clear hb HM HB CO hrow
      by_cases h0 : OE = 0
      case neg =>
        have hd : (OE != 0) = true := by rw [bne_iff_ne]; exact h0
        have hd1 : (OE == 0) = false := by rw [beq_eq_false_iff_ne]; exact h0
        clear h0
        go_wp2
        go_ret
        exact ⟨rfl, HBy.out⟩
      subst h0
      have HRK2 := Lib.hid (HRK.out rfl)
      have HOD2 : Hid (∀ j, j < k + 1 → odE n (qs.getD j []) = 0) := fun j hj => by
        by_cases hjk : j = k
        · subst hjk; rw [HQK.out]; exact HOE.out
        · exact HOD.out j (by omega)
      have HQN := Lib.hid (odE_nodup (by omega) HOE.out)
      have HQLN := Lib.hid (odE_zero HOE.out).1
      have HQV := Lib.hid (VO.of_odE HOE.out)
      have HEB : Hid (∀ x y, 0 ≤ cnE (qs.take k) x y ∧ cnE (qs.take k) x y ≤ 9) := fun x y => by
        have h1 := cnE_bd (qs.take k) x y (fun r hr => by
          obtain ⟨j, hj, e⟩ := List.getElem_of_mem hr
          have hj2 : j < k := by rw [List.length_take] at hj; omega
          have := HOD.out j hj2
          rw [List.getD_eq_getElem?_getD, List.getElem?_eq_getElem (by have := HQL.out; omega), Option.getD_some] at this
          rw [← e, List.getElem_take]
          exact odE_nodup (by omega) this)
        have h2 : (qs.take k).length ≤ 9 := by rw [List.length_take]; omega
        omega
      have HPB : Hid (∀ x y i, i ≤ n → 0 ≤ psP (dlt x y) q i ∧ psP (dlt x y) q i ≤ 6000 * i) := fun x y i hi => psP_bd (g := dlt x y) (fun u _ v _ => ⟨(dlt_bd x y u v).1, by have := (dlt_bd x y u v).2; omega⟩) (by have := HQLN.out; omega) i (by have := HQLN.out; omega)
      have HRB : Hid (∀ x y i, i < n → ∀ a b, 0 ≤ psR (dlt x y) (q.getD i 0) ((q.drop a).take b) ∧ psR (dlt x y) (q.getD i 0) ((q.drop a).take b) ≤ 6000) := fun x y i hi a b => psR_part (g := dlt x y) (fun u _ v _ => ⟨(dlt_bd x y u v).1, by have := (dlt_bd x y u v).2; omega⟩) (by have := HQLN.out; omega) (getD_mem (l := q) (i := i) (by have := HQLN.out; omega)) a b
      have HST : Hid (∀ x y i, psP (dlt x y) q (i + 1) = psP (dlt x y) q i + psR (dlt x y) (q.getD i 0) ((q.drop (i + 1)).take (n - (i + 1)))) := fun x y i => by rw [← HQLN.out]; exact psP_step (dlt x y) q i
      have HNX : Hid (∀ x y u i k, i ≤ k → k < n → psR (dlt x y) u ((q.drop i).take (k + 1 - i)) = psR (dlt x y) u ((q.drop i).take (k - i)) + dlt x y u (q.getD k 0)) := fun x y u i k h h2 => psR_next (dlt x y) u q i k h (by have := HQLN.out; omega)
      have HPN : Hid (∀ x y, psP (dlt x y) q n = psF (dlt x y) q) := fun x y => by rw [← HQLN.out]; exact psP_end _ _
      obtain ⟨E, hE⟩ : ∃ E, cnE (qs.take k) = E := ⟨_, rfl⟩
      rw [hE] at HMy HEB HCS
      have HM0 : Hid (MatP w.heap.size wy g h n n (fun x y => E x y + psP (dlt x y) q 0)) := HMy.out.cast (fun x y => by show E x y = E x y + 0; rw [Int.add_zero])
      clear hE HRK HMy
      go_wp2
      go_loopw [10] (fun ii wr => ∃ i : Nat, i ≤ n ∧ ii = .int .i64 i ∧ Hid (MatP w.heap.size wr g h n n (fun x y => E x y + psP (dlt x y) q i)) ∧ Hid (Below w.heap.size w wr)) (fun ii _ => n - (intOf ii).toNat)
      case atStart => exact ⟨0, Nat.zero_le _, rfl, HM0, HBy⟩
      case round =>
        clear HM0 HBy
        obtain ⟨i, hi, rfl, HM, HB⟩ := hrel
        by_cases hil : i < n
        case neg =>
          obtain rfl : n = i := by omega
          have hiI : ¬ (n : Int) < (n : Int) := by omega
          have HMz : Hid (MatP w.heap.size wr g h n n (cnE (qs.take (k + 1)))) := HM.out.cast (fun x y => by rw [HCS.out, HPN.out])
          obtain ⟨B0, c0, h00, h01, hrd0, _⟩ := HROW0.out wr HB.out
          obtain ⟨Bq, qc, hrow, hrd, _⟩ := HRK2.out wr HB.out
          rw [HQ00.out] at hrd0
          have CI : Hid (∀ z, Calls Try.prog 36 #[.slice Bq n qc, .slice B0 n c0] (wr.drewN z) fun e w' => e = .returned (.bool (decide (q = q0))) ∧ ∃ k, w' = (wr.drewN z).drewN k) := fun z => ints_any Bq B0 n n qc c0 q q0 (wr.drewN z) (RdI.drewN hrd z) (RdI.drewN hrd0 z) (by omega) (by omega)
          obtain ⟨b2, hb2⟩ : ∃ b, decide (q = q0) = b := ⟨_, rfl⟩
          rw [hb2] at CI HTA
          clear hrd hrd0 hb2 HM
          cases sb with
          | false =>
            have hta : (qs.take (k + 1)).all (fun q => decide (q = q0)) = false := by rw [HTA.out, Bool.false_and]
            have HTF := Lib.hid hta
            clear hta hrow h00 h01
            go_wp2
            go_quiet (fail)
            go_wp2
            go_roundw
            case rel => exact ⟨k + 1, by omega, by go_num, by rw [HTF.out], HOD2, HMz.out.later (blw_drewN (Below.refl _ _) _), blw_drewN HB.out _⟩
            case measure => simp only [intOf]; omega
          | true =>
            have hta : (qs.take (k + 1)).all (fun q => decide (q = q0)) = b2 := by rw [HTA.out, Bool.true_and]
            have HTF := Lib.hid hta
            clear hta
            go_wp2
            go_quiet ((go_at_call 36; exact quietD (CI.out _)))
            go_wp2
            go_roundw
            case rel => exact ⟨k + 1, by omega, by go_num, by rw [HTF.out], HOD2, HMz.out.later (blw_drewN (Below.refl _ _) _), blw_drewN HB.out _⟩
            case measure => simp only [intOf]; omega
        have hiI : (i : Int) < (n : Int) := by omega
        have hi0 : (0 : Int) ≤ (i : Int) := by omega
        have HPBI := Lib.hid (fun x y => HPB.out x y i hi)
        have HRBI := Lib.hid (fun x y => HRB.out x y i hil)
        have HSTI := Lib.hid (fun x y => HST.out x y i)
        have hqv := HQV.out.at hil
        have HRKI : Hid (∀ W, Below w.heap.size w W → ∃ qd qc, W.cell? (ad.add k) = some (.slice (some qd) n qc) ∧ W.cell? (qd.add i) = some (.int .i64 (q.getD i 0)) ∧ ∀ j, j < n → W.cell? (qd.add j) = some (.int .i64 (q.getD j 0))) := fun W hb => by
          obtain ⟨Bq, qc, h1, h2, _⟩ := HRK2.out W hb
          obtain ⟨qd, e, _, hc⟩ := h2.2 (by omega)
          subst e
          exact ⟨qd, qc, h1, hc i hil, hc⟩
        obtain ⟨u, hu⟩ : ∃ u, q.getD i 0 = u := ⟨_, rfl⟩
        rw [hu] at HRBI HSTI HRKI hqv
        obtain ⟨u, rfl⟩ : ∃ un : Nat, u = un := ⟨u.toNat, by omega⟩
        have hun : u < n := by omega
        have huI : (u : Int) < (n : Int) := by omega
        have hu0 : (0 : Int) ≤ (u : Int) := by omega
        obtain ⟨i1, hi1⟩ : ∃ j, i + 1 = j := ⟨_, rfl⟩
        have hiw : IntKind.i64.wrap ((i : Int) + 1) = (i1 : Int) := by rw [IntWalk.i64_in _ (by omega)]; omega
        rw [hi1] at HSTI
        have HI1 := Lib.hid hi1
        have hi1n : i1 ≤ n := by omega
        have HM1 : Hid (MatP w.heap.size wr g h n n (fun x y => E x y + psP (dlt x y) q i + psR (dlt x y) u ((q.drop i1).take (i1 - i1)))) := HM.out.cast (fun x y => by rw [Nat.sub_self]; show _ = E x y + psP (dlt x y) q i + 0; rw [Int.add_zero])
        clear hu hi1 HM hqv
        go_wp2
        go_loopw [11] (fun jj wr => ∃ j : Nat, i1 ≤ j ∧ j ≤ n ∧ jj = .int .i64 j ∧ Hid (MatP w.heap.size wr g h n n (fun x y => E x y + psP (dlt x y) q i + psR (dlt x y) u ((q.drop i1).take (j - i1)))) ∧ Hid (Below w.heap.size w wr)) (fun jj _ => n - (intOf jj).toNat)
        case atStart => exact ⟨i1, Nat.le_refl _, hi1n, rfl, HM1, HB⟩
        case round =>
          clear HM1 HB
          obtain ⟨j, hj1, hj, rfl, HM, HB⟩ := hrel
          by_cases hjl : j < n
          case neg =>
            obtain rfl : n = j := by omega
            have hjI : ¬ (n : Int) < (n : Int) := by omega
            have HMz : Hid (MatP w.heap.size wr g h n n (fun x y => E x y + psP (dlt x y) q i1)) := HM.out.cast (fun x y => by rw [HSTI.out, Int.add_assoc])
            clear HM
            go_wp2
            go_roundw
            case rel => exact ⟨i1, by omega, by first | rfl | go_num | (rw [hiw]), HMz, HB⟩
            case measure => have := HI1.out; simp only [intOf]; omega
          have hjI : (j : Int) < (n : Int) := by omega
          have hj0 : (0 : Int) ≤ (j : Int) := by omega
          have HNXJ := Lib.hid (fun x y => HNX.out x y u i1 j hj1 hjl)
          have hqv := HQV.out.at hjl
          have HRKJ : Hid (∀ W, Below w.heap.size w W → ∃ qd qc, W.cell? (ad.add k) = some (.slice (some qd) n qc) ∧ W.cell? (qd.add i) = some (.int .i64 u) ∧ W.cell? (qd.add j) = some (.int .i64 (q.getD j 0))) := fun W hb => by
            obtain ⟨qd, qc, h1, h2, h3⟩ := HRKI.out W hb
            exact ⟨qd, qc, h1, h2, h3 j hjl⟩
          obtain ⟨v, hv⟩ : ∃ v, q.getD j 0 = v := ⟨_, rfl⟩
          rw [hv] at HRKJ hqv HNXJ
          obtain ⟨v, rfl⟩ : ∃ vn : Nat, v = vn := ⟨v.toNat, by omega⟩
          have hvn : v < n := by omega
          have hvI : (v : Int) < (n : Int) := by omega
          have hv0 : (0 : Int) ≤ (v : Int) := by omega
          have HE2B : Hid (∀ x y, 0 ≤ E x y + psP (dlt x y) q i + psR (dlt x y) u ((q.drop i1).take (j - i1)) ∧ E x y + psP (dlt x y) q i + psR (dlt x y) u ((q.drop i1).take (j - i1)) ≤ 1000000) := fun x y => by
            have h1 := HEB.out x y
            have h2 := HPBI.out x y
            have h3 := HRBI.out x y i1 (j - i1)
            omega
          have HE3 : Hid (∀ x y, (E x y + psP (dlt x y) q i + psR (dlt x y) u ((q.drop i1).take (j - i1))) + dlt x y u v = E x y + psP (dlt x y) q i + psR (dlt x y) u ((q.drop i1).take (j + 1 - i1))) := fun x y => by rw [HNXJ.out]; omega
          obtain ⟨E2, hE2⟩ : ∃ E2, (fun x y => E x y + psP (dlt x y) q i + psR (dlt x y) u ((q.drop i1).take (j - i1))) = E2 := ⟨_, rfl⟩
          have HEE := Lib.hid hE2
          rw [hE2] at HM
          have HE2B' : Hid (∀ x y, 0 ≤ E2 x y ∧ E2 x y ≤ 1000000) := by rw [← hE2]; exact HE2B.out
          have HE3' : Hid (∀ x y, E2 x y + dlt x y u v = E x y + psP (dlt x y) q i + psR (dlt x y) u ((q.drop i1).take (j + 1 - i1))) := by rw [← hE2]; exact HE3.out
          obtain ⟨qd, qc, hrow, hcu, hcv⟩ := HRKJ.out wr HB.out
          obtain ⟨t1, t2, t3⟩ := HM.out.cells hun hvn
          have hwv := HE2B'.out u v
          have HMD := Lib.hid ((HM.out.later (Below.drew (Below.refl _ _))).set hun hvn)
          have HBD := Lib.hid ((Below.drew HB.out).setCell (p := ⟨h u, v, none⟩) (HM.out.lo.2 u hun) (.int .i64 (E2 u v + 1)))
          have t2d : wr.drew.cell? ⟨h u, v, none⟩ = some (.int .i64 (E2 u v)) := t2
          have t3d : wr.drew.frozen? ⟨h u, v, none⟩ = false := t3
          obtain ⟨gu, hgu⟩ : ∃ gu, h u = gu := ⟨_, rfl⟩
          rw [hgu] at t1 t2 t3 t2d t3d HMD HBD
          obtain ⟨ev, hev⟩ : ∃ ev, E2 u v = ev := ⟨_, rfl⟩
          rw [hev] at t2 t2d hwv HMD HBD
          have hw1 : IntKind.i64.wrap (ev + 1) = ev + 1 := IntWalk.i64_in _ (by omega)
          clear hE2 HE2B HE3 hv hqv hgu hev HM HB
          go_wp2
          go_still_tail 38, (by kernel_rfl)
          change wpList _ _ _ _ _ wr.drew
          obtain ⟨W5, hW5⟩ : ∃ W5, wr.drew = W5 := ⟨_, rfl⟩
          rw [hW5] at t2d t3d HMD HBD ⊢
          clear hW5 hrow hcu hcv t1 t2 t3
          go_wp2
          go_roundw
          case rel => exact ⟨j + 1, by omega, by omega, by go_num, HMD.out.cast HE3'.out, HBD⟩
          case measure => simp only [intOf]; omega

end Go.Proofs.Ytccoflhoggpgoaa

namespace Go.Proofs.Ytccoflhoggpgoaa
open Go.RowKit

open Go.Shelf

theorem ranked_any (A : Option Addr) (K c : Nat) (qs : List (List Int)) (B : Option Addr) (m d : Nat) (o : List Int) (w : World) (hp : RdGc w A K qs) (hr : RdI w B m o) (hmd : m ≤ d) (_hcm : d ≤ 9223372036854775807) (_hBn : B = none → m = 0 ∧ d = 0) :
    Calls Try.prog 13 #[.slice A K c, .slice B m d] w fun e w' => e = .returned (.bool true) ∧ Below w.heap.size w w' := by
  by_cases hK : K = 0 ∨ 9 < K
  · exact ranked_0 A K c B m d w hK
  by_cases h5 : 5 < (qs.getD 0 []).length
  · exact ranked_5 A K c qs B m d w hp (by omega) (by omega) _ rfl h5
  · exact ranked_m A K c qs B m d o w hp hr hmd (by omega) (by omega) _ rfl (by omega)

end Go.Proofs.Ytccoflhoggpgoaa

namespace Go.Proofs.Ytccoflhoggpgoaa.op
open Go.ChangeShapes Go.WideShapes Go.ChangeAt Go.RowKit

theorem own : ownKnob Try.prog.godebug = none := by kernel_rfl
theorem laidOut : laidOutB Try.prog = true := by kernel_rfl
theorem cellsInt1 : Try.prog.cellsOf 3 = 1 := by kernel_rfl
theorem cellsI : Try.prog.cellsOf 3 = 1 := cellsInt1
theorem cellsInts : Try.prog.cellsOf 43 = 1 := by kernel_rfl
theorem lt_of_cell {w : World} {a : Addr} {v : Value} (h : w.cell? a = some v) : a.block < w.heap.size := World.block_lt_of_cell? _ _ h

set_option maxRecDepth 100000 in
theorem open_frac {H : Type} {enc : TypeId × Value → H} {w : World} {base : Nat} {spare : Nat → Bool} {held : Bool} {r : Reach} {b0 : Nat} {v : Value} {d : DataW H} {p : List MemPlace}
    (hv : Value.okWide Try.prog w r b0 23 v) (h : DataW.Trod enc Try.prog w base spare held 23 v d p) :
    ∃ z0 z1 : Int, v = .agg #[.int .i64 z0, .int .i64 z1] := by
  obtain ⟨cs, rfl, hsz⟩ := okWide_struct Try.underlying23 hv
  obtain ⟨fuel, hf⟩ := h
  obtain ⟨xs, n, _, _, hl, hxl, hg⟩ := DataW.trod_struct Try.underlying23 hf
  have h3 : Try.prog.cellsOf 23 = 2 := by kernel_rfl
  obtain ⟨l⟩ := cs
  have hl3 : l.length = 2 := by rw [← h3]; simpa using hsz
  match l, hl3, xs, hxl with
  | [c0, c1], _, [y0, y1], _ =>
    have g0 := hg 0 _ rfl
    have g1 := hg 1 _ rfl
    simp [Value.cells, cellsI] at g0 g1
    obtain ⟨z0, e0, _, _⟩ := DataW.trod_int Try.underlying3 g0
    obtain ⟨z1, e1, _, _⟩ := DataW.trod_int Try.underlying3 g1
    simp at e0 e1
    exact ⟨z0, z1, by rw [e0, e1]⟩

set_option maxRecDepth 100000 in
theorem open_test {H : Type} {enc : TypeId × Value → H} {w : World} {base : Nat} {spare : Nat → Bool} {held : Bool} {r : Reach} {b0 : Nat} {v : Value} {d : DataW H} {p : List MemPlace}
    (hv : Value.okWide Try.prog w r b0 108 v) (h : DataW.Trod enc Try.prog w base spare held 108 v d p) :
    ∃ z0 z1 z2 : Int, v = .agg #[.int .i64 z0, .int .i64 z1, .int .i64 z2] := by
  obtain ⟨cs, rfl, hsz⟩ := okWide_struct Try.underlying108 hv
  obtain ⟨fuel, hf⟩ := h
  obtain ⟨xs, n, _, _, hl, hxl, hg⟩ := DataW.trod_struct Try.underlying108 hf
  have h3 : Try.prog.cellsOf 108 = 3 := by kernel_rfl
  obtain ⟨l⟩ := cs
  have hl3 : l.length = 3 := by rw [← h3]; simpa using hsz
  match l, hl3, xs, hxl with
  | [c0, c1, c2], _, [y0, y1, y2], _ =>
    have g0 := hg 0 _ rfl
    have g1 := hg 1 _ rfl
    have g2 := hg 2 _ rfl
    simp [Value.cells, cellsI] at g0 g1 g2
    obtain ⟨z0, e0, _, _⟩ := DataW.trod_int Try.underlying3 g0
    obtain ⟨z1, e1, _, _⟩ := DataW.trod_int Try.underlying3 g1
    obtain ⟨z2, e2, _, _⟩ := DataW.trod_int Try.underlying3 g2
    simp at e0 e1 e2
    exact ⟨z0, z1, z2, by rw [e0, e1, e2]⟩

set_option maxRecDepth 100000 in
theorem open_meter {H : Type} {enc : TypeId × Value → H} {w : World} {base : Nat} {spare : Nat → Bool} {held : Bool} {r : Reach} {b0 : Nat} {v : Value} {d : DataW H} {p : List MemPlace}
    (hv : Value.okWide Try.prog w r b0 42 v) (h : DataW.Trod enc Try.prog w base spare held 42 v d p) :
    ∃ z0 z1 z2 z3 : Int, v = .agg #[.int .i64 z0, .int .i64 z1, .int .i64 z2, .int .i64 z3] := by
  obtain ⟨cs, rfl, hsz⟩ := okWide_struct Try.underlying42 hv
  obtain ⟨fuel, hf⟩ := h
  obtain ⟨xs, n, _, _, hl, hxl, hg⟩ := DataW.trod_struct Try.underlying42 hf
  have h3 : Try.prog.cellsOf 42 = 4 := by kernel_rfl
  obtain ⟨l⟩ := cs
  have hl3 : l.length = 4 := by rw [← h3]; simpa using hsz
  match l, hl3, xs, hxl with
  | [c0, c1, c2, c3], _, [y0, y1, y2, y3], _ =>
    have g0 := hg 0 _ rfl
    have g1 := hg 1 _ rfl
    have g2 := hg 2 _ rfl
    have g3 := hg 3 _ rfl
    simp [Value.cells, cellsI] at g0 g1 g2 g3
    obtain ⟨z0, e0, _, _⟩ := DataW.trod_int Try.underlying3 g0
    obtain ⟨z1, e1, _, _⟩ := DataW.trod_int Try.underlying3 g1
    obtain ⟨z2, e2, _, _⟩ := DataW.trod_int Try.underlying3 g2
    obtain ⟨z3, e3, _, _⟩ := DataW.trod_int Try.underlying3 g3
    simp at e0 e1 e2 e3
    exact ⟨z0, z1, z2, z3, by rw [e0, e1, e2, e3]⟩

/-- Numbers as they come in. -/
theorem open_rd {H : Type} {enc : TypeId × Value → H} {w : World} {base : Nat} {spare : Nat → Bool} {held : Bool} {A : Option Addr} {n c : Nat} {d : DataW H} {p : List MemPlace}
    (h : DataW.Trod enc Try.prog w base spare held 43 (.slice A n c) d p) : ∃ l, RdI w A n l ∧ n ≤ c ∧ c ≤ 9223372036854775807 ∧ (A = none → n = 0 ∧ c = 0) := by
  obtain ⟨fuel, hf⟩ := h
  rcases open_ints Try.underlying43 Try.underlying3 cellsInt1 hf with ⟨hcs, _⟩ | ⟨a, len, cap, zs, hcs, _, hl, hm, hz, _, hcell, _⟩
  · simp [Value.cells] at hcs
    obtain ⟨rfl, rfl, rfl⟩ := hcs
    exact ⟨[], ⟨rfl, fun h => absurd h (by omega)⟩, by omega, by omega, fun _ => ⟨rfl, rfl⟩⟩
  · simp [Value.cells] at hcs
    obtain ⟨rfl, rfl, rfl⟩ := hcs
    have hlen : n ≤ zs.length := by rw [hz]; split <;> omega
    refine ⟨zs.take n, ⟨by rw [List.length_take]; omega, fun hn => ⟨a, rfl, ?_, fun j hj => ?_⟩⟩, hl, by unfold maxLen at hm; omega, fun h => by cases h⟩
    · have := lt_of_cell (hcell 0 (by omega))
      rwa [addBlock] at this
    · rw [hcell j (by omega)]
      simp [List.getD_eq_getElem?_getD, List.getElem?_take, hj]

/-- Numbers of a field as they come in. -/
theorem open_rdf {H : Type} {enc : TypeId × Value → H} {w : World} {base : Nat} {spare : Nat → Bool} {held : Bool} {fuel : Nat} {v : Value} {x : DataW H × List MemPlace}
    (hf : DataW.trod enc Try.prog w base spare held fuel 43 [v] = some x) : ∃ A n c l, v = .slice A n c ∧ RdI w A n l ∧ n ≤ c ∧ c ≤ 9223372036854775807 ∧ (A = none → n = 0 ∧ c = 0) := by
  rcases open_ints Try.underlying43 Try.underlying3 cellsInt1 hf with ⟨hcs, _⟩ | ⟨a, len, cap, zs, hcs, _, hl, hm, hz, _, hcell, _⟩
  · injection hcs with hcs
    exact ⟨none, 0, 0, [], hcs, ⟨rfl, fun h => absurd h (by omega)⟩, by omega, by omega, fun _ => ⟨rfl, rfl⟩⟩
  · injection hcs with hcs
    have hlen : len ≤ zs.length := by rw [hz]; split <;> omega
    refine ⟨some a, len, cap, zs.take len, hcs, ⟨by rw [List.length_take]; omega, fun hn => ⟨a, rfl, ?_, fun j hj => ?_⟩⟩, hl, by unfold maxLen at hm; omega, fun h => by cases h⟩
    · have := lt_of_cell (hcell 0 (by omega))
      rwa [addBlock] at this
    · rw [hcell j (by omega)]
      simp [List.getD_eq_getElem?_getD, List.getElem?_take, hj]
end Go.Proofs.Ytccoflhoggpgoaa.op

namespace Go.Proofs.Ytccoflhoggpgoaa.op
open Go.ChangeShapes Go.WideShapes Go.ChangeAt Go.RowKit

set_option maxRecDepth 100000 in
theorem openb_frac {H : Type} {enc : TypeId × Value → H} {w : World} {base : Nat} {spare : Nat → Bool} {held : Bool} {r : Reach} {b0 : Nat} {v : Value} {d : DataW H} {p : List MemPlace}
    (hv : Value.okWide Try.prog w r b0 23 v) (h : DataW.Trod enc Try.prog w base spare held 23 v d p) :
    ∃ z0 z1 : Int, v = .agg #[.int .i64 z0, .int .i64 z1] ∧ (-9223372036854775808 ≤ z0 ∧ z0 ≤ 9223372036854775807) ∧ (-9223372036854775808 ≤ z1 ∧ z1 ≤ 9223372036854775807) := by
  obtain ⟨cs, rfl, hsz⟩ := okWide_struct Try.underlying23 hv
  obtain ⟨fuel, hf⟩ := h
  obtain ⟨xs, n, _, _, hl, hxl, hg⟩ := DataW.trod_struct Try.underlying23 hf
  have h3 : Try.prog.cellsOf 23 = 2 := by kernel_rfl
  obtain ⟨l⟩ := cs
  have hl3 : l.length = 2 := by rw [← h3]; simpa using hsz
  match l, hl3, xs, hxl with
  | [c0, c1], _, [y0, y1], _ =>
    have g0 := hg 0 _ rfl
    have g1 := hg 1 _ rfl
    simp [Value.cells, cellsI] at g0 g1
    obtain ⟨z0, e0, _, f0⟩ := DataW.trod_int Try.underlying3 g0
    obtain ⟨z1, e1, _, f1⟩ := DataW.trod_int Try.underlying3 g1
    simp at e0 e1
    exact ⟨z0, z1, by rw [e0, e1], bounds_i64 f0, bounds_i64 f1⟩

set_option maxRecDepth 100000 in
theorem openb_meter {H : Type} {enc : TypeId × Value → H} {w : World} {base : Nat} {spare : Nat → Bool} {held : Bool} {r : Reach} {b0 : Nat} {v : Value} {d : DataW H} {p : List MemPlace}
    (hv : Value.okWide Try.prog w r b0 42 v) (h : DataW.Trod enc Try.prog w base spare held 42 v d p) :
    ∃ z0 z1 z2 z3 : Int, v = .agg #[.int .i64 z0, .int .i64 z1, .int .i64 z2, .int .i64 z3] ∧ (-9223372036854775808 ≤ z0 ∧ z0 ≤ 9223372036854775807) ∧ (-9223372036854775808 ≤ z1 ∧ z1 ≤ 9223372036854775807) ∧ (-9223372036854775808 ≤ z2 ∧ z2 ≤ 9223372036854775807) ∧ (-9223372036854775808 ≤ z3 ∧ z3 ≤ 9223372036854775807) := by
  obtain ⟨cs, rfl, hsz⟩ := okWide_struct Try.underlying42 hv
  obtain ⟨fuel, hf⟩ := h
  obtain ⟨xs, n, _, _, hl, hxl, hg⟩ := DataW.trod_struct Try.underlying42 hf
  have h3 : Try.prog.cellsOf 42 = 4 := by kernel_rfl
  obtain ⟨l⟩ := cs
  have hl3 : l.length = 4 := by rw [← h3]; simpa using hsz
  match l, hl3, xs, hxl with
  | [c0, c1, c2, c3], _, [y0, y1, y2, y3], _ =>
    have g0 := hg 0 _ rfl
    have g1 := hg 1 _ rfl
    have g2 := hg 2 _ rfl
    have g3 := hg 3 _ rfl
    simp [Value.cells, cellsI] at g0 g1 g2 g3
    obtain ⟨z0, e0, _, f0⟩ := DataW.trod_int Try.underlying3 g0
    obtain ⟨z1, e1, _, f1⟩ := DataW.trod_int Try.underlying3 g1
    obtain ⟨z2, e2, _, f2⟩ := DataW.trod_int Try.underlying3 g2
    obtain ⟨z3, e3, _, f3⟩ := DataW.trod_int Try.underlying3 g3
    simp at e0 e1 e2 e3
    exact ⟨z0, z1, z2, z3, by rw [e0, e1, e2, e3], bounds_i64 f0, bounds_i64 f1, bounds_i64 f2, bounds_i64 f3⟩

theorem openb_int {H : Type} {enc : TypeId × Value → H} {w : World} {base : Nat} {spare : Nat → Bool} {held : Bool} {z : Int} {d : DataW H} {p : List MemPlace}
    (h : DataW.Trod enc Try.prog w base spare held 3 (.int .i64 z) d p) : -9223372036854775808 ≤ z ∧ z ≤ 9223372036854775807 := by
  obtain ⟨fuel, hf⟩ := h
  obtain ⟨z0, e0, _, f0⟩ := DataW.trod_int Try.underlying3 hf
  simp [Value.cells] at e0
  subst e0
  exact bounds_i64 f0
end Go.Proofs.Ytccoflhoggpgoaa.op

namespace Go.Proofs.Ytccoflhoggpgoaa.op
open Go.ChangeShapes Go.WideShapes Go.ChangeAt Go.RowKit

theorem row_ofc {H : Type} {enc : TypeId × Value → H} {w : World} {base : Nat} {spare : Nat → Bool} {held : Bool} {v : Value} {fuel : Nat} {x : DataW H × List MemPlace}
    (h : DataW.trod enc Try.prog w base spare held fuel 43 [v] = some x) : ∃ B m c l, v = .slice B m c ∧ RdI w B m l ∧ m ≤ c ∧ (B = none → m = 0 ∧ c = 0) := by
  obtain ⟨B, m, c, l, h1, h2, h4, _, h3⟩ := open_rdf h
  exact ⟨B, m, c, l, h1, h2, h4, h3⟩

/-- Lists of numbers as they come in. -/
theorem open_rowsc {H : Type} {enc : TypeId × Value → H} {w : World} {base : Nat} {spare : Nat → Bool} {held : Bool} {A : Option Addr} {n c : Nat} {d : DataW H} {p : List MemPlace}
    (h : DataW.Trod enc Try.prog w base spare held 95 (.slice A n c) d p) : ∃ rows, RdGc w A n rows ∧ n ≤ c := by
  obtain ⟨fuel, hf⟩ := h
  rcases Deep.open_slice1 Try.underlying95 cellsInts hf with ⟨hcs, _⟩ | ⟨a, len, cap, m, k, V, D, Pl, hcs, _, hl, hm, hz, _, hx⟩
  · simp [Value.cells] at hcs
    obtain ⟨rfl, rfl, rfl⟩ := hcs
    exact ⟨[], ⟨rfl, fun h => absurd h (by omega)⟩, by omega⟩
  · simp [Value.cells] at hcs
    obtain ⟨rfl, rfl, rfl⟩ := hcs
    have hlen : n ≤ m := by rw [hz]; split <;> omega
    obtain ⟨f, hf⟩ := Deep.choose_lt (α := List Int) (n := n) (p := fun i l => ∃ B m c, w.cell? (a.add i) = some (.slice B m c) ∧ RdI w B m l ∧ m ≤ c ∧ (B = none → m = 0 ∧ c = 0)) (fun i hi => by
      obtain ⟨h1, h2⟩ := hx i (by omega)
      obtain ⟨B, m', c', l, hv, h3⟩ := row_ofc h2
      exact ⟨l, B, m', c', by rw [h1, hv], h3⟩)
    refine ⟨(List.range n).map f, ⟨by simp, fun hn => ⟨a, rfl, ?_, fun j hj => ?_⟩⟩, hl⟩
    · have := lt_of_cell (hx 0 (by omega)).1
      rwa [addBlock] at this
    · have e : ((List.range n).map f).getD j [] = f j := by simp [List.getD_eq_getElem?_getD, hj]
      rw [e]
      exact hf j hj
end Go.Proofs.Ytccoflhoggpgoaa.op

