import Derived.Test.YtjjflbnopphciabDoorTgaa
import Derived.Test.YtjjflbnopphciabDoorRows
import Derived.Test.YtjjflbnopphciabDoorTie
import Derived.ProofKit
import Derived.LaidMore
import Derived.OpenShut
import Derived.Stop.Joined
import Derived.Lib.LaidTab
import Derived.Laws.AppendOwnNone
import Derived.Laws.OwnMore
import Derived.StillTailTactics
import Derived.ChangeKeysEq
import Derived.Deep.Slices
namespace Go.Proofs.YtjjflbnopphciabDoor
open Go.RowKit

theorem RdI.drewN {w : World} {A : Option Addr} {n : Nat} {xs : List Int} (h : RdI w A n xs) (k : Nat) : RdI (w.drewN k) A n xs := h

theorem ints_any (A B : Option Addr) (n m c d : Nat) (xs ys : List Int) (w : World) (ha : RdI w A n xs) (hb : RdI w B m ys) (hn : n ≤ 9223372036854775806) (hm : m ≤ 9223372036854775806) :
    Calls Tryd.prog 22 #[.slice A n c, .slice B m d] w fun e w' => e = .returned (.bool (decide (xs = ys))) ∧ ∃ k, w' = w.drewN k := by
  by_cases hnm : n = m
  · subst hnm
    have HA := Lib.hid ha; clear ha
    have HB := Lib.hid hb; clear hb
    go_enter Tryd.func22, Tryd.ntmps22
    go_wp2
    go_loopw [5] (fun i wr => ∃ k : Nat, k ≤ n ∧ i = .int .i64 k ∧ Hid (xs.take k = ys.take k) ∧ Hid (∃ j, wr = w.drewN j)) (fun i _ => n - (intOf i).toNat)
    case atStart => exact ⟨0, Nat.zero_le _, rfl, rfl, 0, rfl⟩
    case round =>
      obtain ⟨k, hk, rfl, HE, HJ⟩ := hrel
      obtain ⟨j, hj⟩ := HJ.out
      by_cases hlt : k < n
      · obtain ⟨a, ha, _, hca⟩ := (HA.out.drewN j).2 (by omega)
        obtain ⟨b, hb, _, hcb⟩ := (HB.out.drewN j).2 (by omega)
        have h1 := hca k hlt
        have h2 := hcb k hlt
        rw [← hj] at h1 h2
        have HXT : Hid (xs.take (k + 1) = xs.take k ++ [xs.getD k 0]) := by
          show _ = _
          rw [List.take_succ_eq_append_getElem (by have := HA.out.1; omega)]
          simp [List.getD_eq_getElem?_getD, List.getElem?_eq_getElem (show k < xs.length by have := HA.out.1; omega)]
        have HYT : Hid (ys.take (k + 1) = ys.take k ++ [ys.getD k 0]) := by
          show _ = _
          rw [List.take_succ_eq_append_getElem (by have := HB.out.1; omega)]
          simp [List.getD_eq_getElem?_getD, List.getElem?_eq_getElem (show k < ys.length by have := HB.out.1; omega)]
        subst ha hb
        clear hca hcb
        have HX2 : Hid (xs.getD k 0 = xs.getD k 0) := rfl
        obtain ⟨x, hx⟩ : ∃ x, xs.getD k 0 = x := ⟨_, rfl⟩
        obtain ⟨y, hy⟩ : ∃ y, ys.getD k 0 = y := ⟨_, rfl⟩
        rw [hx] at h1 HXT
        rw [hy] at h2 HYT
        have HXk := Lib.hid hx
        have HYk := Lib.hid hy
        have HJ' := Lib.hid hj
        clear hx hy hj HX2 HJ
        obtain ⟨t, ht⟩ : ∃ t, (x != y) = t := ⟨_, rfl⟩
        have hkI : (k : Int) < (n : Int) := by omega
        have hk0 : (0 : Int) ≤ (k : Int) := by omega
        cases t
        · go_wp2
          go_quiet (fail)
          go_wp2
          go_roundw
          case rel =>
            have hxy : x = y := by simpa using ht
            refine ⟨k + 1, by omega, by go_num, ?_, ?_⟩
            · show _ = _
              rw [HXT.out, HYT.out, HE.out, hxy]
            · show ∃ _, _ = _
              rw [HJ'.out]; exact ⟨_, World.drewN_drewN _ _ _⟩
          case measure => simp [intOf]; omega
        · go_wp2
          go_quiet (fail)
          go_wp2
          go_ret
          have hxy : x ≠ y := by simpa using ht
          refine ⟨?_, ?_⟩
          · have : xs ≠ ys := by
              rintro e
              apply hxy
              rw [← HXk.out, ← HYk.out, e]
            simp [this]
          · rw [HJ'.out]; exact ⟨_, World.drewN_drewN _ _ _⟩
      · obtain rfl : k = n := by omega
        clear hj
        go_wp2
        go_ret
        refine ⟨?_, HJ.out⟩
        have e := HE.out
        rw [List.take_of_length_le (by have := HA.out.1; omega), List.take_of_length_le (by have := HB.out.1; omega)] at e
        simp [e]
  · have h1 : ((n : Int) != (m : Int)) = true := by simp; omega
    have h2 : ((n : Int) == (m : Int)) = false := by simp; omega
    have HX : Hid (xs ≠ ys) := by
      rintro rfl
      exact hnm (ha.1.symm.trans hb.1)
    clear ha hb
    go_enter Tryd.func22, Tryd.ntmps22
    go_wp2
    go_ret
    exact ⟨by simp [HX.out], 0, rfl⟩

theorem whole_any (n : Int) (w : World) :
    Calls Tryd.prog 21 #[.int .i64 n] w fun e w' => e = .returned (.agg #[.int .i64 n, .int .i64 1]) ∧ Below w.heap.size w w' := by
  go_enter Tryd.func21, Tryd.ntmps21
  go_wp2
  refine bodyPost_ret (v := .agg #[.int .i64 n, .int .i64 1]) (by simp [results, Tryd.results21, go_sem]) rfl ⟨rfl, (Below.refl _ _).alloc (Nat.le_refl _) _⟩

end Go.Proofs.YtjjflbnopphciabDoor

namespace Go.Proofs.YtjjflbnopphciabDoor
open Go.RowKit

def okCh (c : UInt8) : Bool := letB c.toNat || (digB c.toNat || (c.toNat : Int) == 45)
def nameB (l : List UInt8) : Bool := decide (1 ≤ l.length) && (decide (l.length ≤ 12) && (letB (l.getD 0 0).toNat && l.all okCh))

theorem okCh_take (s : ByteArray) (k : Nat) (h : k < s.size) : (s.data.toList.take (k + 1)).all okCh = ((s.data.toList.take k).all okCh && okCh s[k]) := by
  rw [List.take_succ_eq_append_getElem (by simpa using h)]
  simp only [List.all_append, List.all_cons, List.all_nil, Bool.and_true]
  rfl
theorem all_take_false (l : List UInt8) (k : Nat) (h : (l.take k).all okCh = false) : l.all okCh = false := by
  have e : l = l.take k ++ l.drop k := (List.take_append_drop k l).symm
  rw [e, List.all_append, h]; rfl

set_option maxHeartbeats 1000000 in
theorem isName_any (s : ByteArray) (w : World) (hs : s.size ≤ 9223372036854775806) :
    Calls Tryd.prog 66 #[.string s] w fun e w' => e = .returned (.bool (nameB s.data.toList)) ∧ w = w' := by
  have hlen : s.data.toList.length = s.size := by simp
  have HL := Lib.hid hlen; clear hlen
  by_cases h0 : s.size = 0
  · have g0 : ((s.size : Int) == 0) = true := by simp [h0]
    have HN : Hid (nameB s.data.toList = false) := by show _ = _; simp only [nameB, HL.out]; rw [h0]; rfl
    have H0 := Lib.hid h0
    clear h0
    go_enter Tryd.func66, Tryd.ntmps66
    go_wp2
    go_ret
    exact ⟨by rw [HN.out]; rfl, rfl⟩
  have g0 : ((s.size : Int) == 0) = false := beq_eq_false_iff_ne.2 (by omega)
  by_cases h1 : 12 < s.size
  · have g1 : (12 : Int) < s.size := by omega
    have HN : Hid (nameB s.data.toList = false) := by
      show _ = _; simp only [nameB, HL.out]
      have e : decide (s.size ≤ 12) = false := by simp; omega
      simp [e]
    go_enter Tryd.func66, Tryd.ntmps66
    go_wp2
    go_ret
    exact ⟨by rw [HN.out]; rfl, rfl⟩
  have hpos : 0 < s.size := by omega
  have g1 : ¬ (12 : Int) < s.size := by omega
  have hf : Hid (s.data.toList.getD 0 0 = s[0]) := by
    show _ = _
    rw [List.getD_eq_getElem?_getD, List.getElem?_eq_getElem (by simpa using hpos)]
    rfl
  obtain ⟨b, hb⟩ : ∃ b, letB ((s[0].toNat : Nat) : Int) = b := ⟨_, rfl⟩
  cases b
  · have HN : Hid (nameB s.data.toList = false) := by
      show _ = _; simp only [nameB, hf.out, hb]; simp
    go_enter Tryd.func66, Tryd.ntmps66
    go_wp2_with (go_at_call 78; refine (isLetter_any _ _).mono ?_; rintro e w' ⟨rfl, rfl⟩)
    go_ret
    exact ⟨by rw [HN.out]; rfl, rfl⟩
  · have HN : Hid (nameB s.data.toList = s.data.toList.all okCh) := by
      show _ = _; simp only [nameB, hf.out, hb, HL.out]
      have e1 : decide (1 ≤ s.size) = true := by simp; omega
      have e2 : decide (s.size ≤ 12) = true := by simp; omega
      rw [e1, e2]; rfl
    go_enter Tryd.func66, Tryd.ntmps66
    go_wp2_with (go_at_call 78; refine (isLetter_any _ _).mono ?_; rintro e w' ⟨rfl, rfl⟩)
    clear hb
    go_loop [3, 20] (fun _ i => ∃ k : Nat, k ≤ s.size ∧ i = .int .i64 k ∧ Hid ((s.data.toList.take k).all okCh = true)) (fun _ i => s.size - (intOf i).toNat)
    case atStart => exact ⟨0, Nat.zero_le _, rfl, rfl⟩
    case round =>
      obtain ⟨k, hk, rfl, HA⟩ := hrel
      by_cases hlt : k < s.size
      · have hst := okCh_take s k hlt
        have HST := Lib.hid hst; clear hst
        obtain ⟨b1, hb1⟩ : ∃ b, letB ((s[k].toNat : Nat) : Int) = b := ⟨_, rfl⟩
        obtain ⟨b2, hb2⟩ : ∃ b, digB ((s[k].toNat : Nat) : Int) = b := ⟨_, rfl⟩
        obtain ⟨b3, hb3⟩ : ∃ b, (((s[k].toNat : Nat) : Int) == 45) = b := ⟨_, rfl⟩
        have hb4 : (((s[k].toNat : Nat) : Int) != 45) = !b3 := by rw [← hb3]; rfl
        have HOK : Hid (okCh s[k] = (b1 || (b2 || b3))) := by show _ = _; rw [okCh, hb1, hb2, hb3]
        cases b1 <;> cases b2 <;> cases b3
        all_goals
          go_wp2_with (first
            | (go_at_call 78; refine (isLetter_any _ _).mono ?_; rintro e w' ⟨rfl, rfl⟩)
            | (go_at_call 79; refine (isDigit_any _ _).mono ?_; rintro e w' ⟨rfl, rfl⟩))
          first
            | (go_round
               case rel =>
                 refine ⟨k + 1, by omega, by go_num, ?_⟩
                 show _ = _
                 rw [HST.out, HA.out, HOK.out]; rfl
               case measure => simp [intOf]; omega)
            | (go_ret
               refine ⟨?_, rfl⟩
               rw [HN.out, all_take_false _ (k + 1) (by rw [HST.out, HA.out, HOK.out]; rfl)]
               rfl)
      · go_wp2
        go_ret
        refine ⟨?_, rfl⟩
        have e := HA.out
        rw [List.take_of_length_le (by rw [HL.out]; omega)] at e
        rw [HN.out, e]
        rfl

end Go.Proofs.YtjjflbnopphciabDoor

namespace Go.Proofs.YtjjflbnopphciabDoor
open Go.RowKit

def carrE (nm : List UInt8) (k sd n d : Int) : Int :=
  firstE [whenE (!(nameB nm)) 4, whenE (decide (k < 0) || decide (3 ≤ k)) 15, rangeE sd 1 2, whenE ((k != 0) && (sd == 2)) 3, whenE (!(lowB n d)) 3, rangeE n 1 10000, rangeE d 1 10000]

set_option maxRecDepth 100000 in
set_option maxHeartbeats 4000000 in
theorem checkCarrier_zero (nm : ByteArray) (sd n d : Int) (w : World) (b1 b2 : Bool)
    (h1 : ∀ W, Calls Tryd.prog 66 #[.string nm] W fun e w' => e = .returned (.bool b1) ∧ W = w')
    (h2 : ∀ W, Calls Tryd.prog 67 #[.agg #[.int .i64 n, .int .i64 d]] W fun e w' => e = .returned (.bool b2) ∧ Below W.heap.size W w') :
    Calls Tryd.prog 46 #[.agg #[.string nm, .int .i64 0, .int .i64 sd, .int .i64 n, .int .i64 d]] w fun e w' => e = .returned (.int .i64 (firstE [whenE (!b1) 4, whenE (false) 15, rangeE sd 1 2, whenE (false) 3, whenE (!b2) 3, rangeE n 1 10000, rangeE d 1 10000])) ∧ Below w.heap.size w w' := by
  have C1 := Lib.hid h1
  have C2 := Lib.hid h2
  clear h1 h2

  go_enter Tryd.func46, Tryd.ntmps46
  go_wp2_with fail
  refine wp_region_held_drew (S := (fun w' => w'.cell? ⟨w.heap.size, 0, none⟩ = some (.string nm) ∧ w'.cell? ⟨w.heap.size, 1, none⟩ = some (.int .i64 0) ∧ w'.cell? ⟨w.heap.size, 2, none⟩ = some (.int .i64 sd) ∧ w'.cell? ⟨w.heap.size, 3, none⟩ = some (.int .i64 n) ∧ w'.cell? ⟨w.heap.size, 4, none⟩ = some (.int .i64 d) ∧ w.heap.size < w'.heap.size)) (by kernel_rfl) ?_ ?_
  · (go_split_ands; refine ⟨?_, ?_, ?_, ?_, ?_, ?_⟩ <;> first | assumption | (rw [hb.cell (by first | assumption | simp)]; first | assumption | (simp [go_sem]; done)) | exact Nat.lt_of_lt_of_le (by first | assumption | simp) hb.size | (go_keep; done) | (simp [go_sem]; done) | (simp; omega))
  intro hHeld
  refine wpAnyH_take (i := 0) (v := ?_) rfl (by kernel_rfl) (by kernel_rfl) (by kernel_rfl) (fun _ _ _ h => h) (Or.inl ⟨by rfl, ?_⟩) (by assumption) ?_
  rotate_left
  · intro w hSw; (try dsimp only at hSw); go_simp; (try (with_reducible rfl))
  try simp only [List.getElem_toArray, List.getElem_cons_succ, List.getElem_cons_zero, Act.put, List.setIfInBounds_toArray, List.set_cons_zero, List.set_cons_succ]
  refine wpAnyH_take (i := 1) (v := ?_) rfl (by kernel_rfl) (by kernel_rfl) (by kernel_rfl) (fun _ _ _ h => h) (Or.inl ⟨by rfl, ?_⟩) (by assumption) ?_
  rotate_left
  · intro w hSw; (try dsimp only at hSw); go_simp; (try (with_reducible rfl))
  try simp only [List.getElem_toArray, List.getElem_cons_succ, List.getElem_cons_zero, Act.put, List.setIfInBounds_toArray, List.set_cons_zero, List.set_cons_succ]
  refine wpAnyH_take (i := 5) (v := ?_) rfl (by kernel_rfl) (by kernel_rfl) (by kernel_rfl) (fun _ _ _ h => h) (Or.inl ⟨by rfl, ?_⟩) (by assumption) ?_
  rotate_left
  · intro w hSw; (try dsimp only at hSw); go_simp; (try (with_reducible rfl))
  try simp only [List.getElem_toArray, List.getElem_cons_succ, List.getElem_cons_zero, Act.put, List.setIfInBounds_toArray, List.set_cons_zero, List.set_cons_succ]
  refine wpAnyH_take (i := 6) (v := ?_) rfl (by kernel_rfl) (by kernel_rfl) (by kernel_rfl) (fun _ _ _ h => h) (Or.inl ⟨by rfl, ?_⟩) (by assumption) ?_
  rotate_left
  · intro w hSw; (try dsimp only at hSw); go_simp; (try (with_reducible rfl))
  try simp only [List.getElem_toArray, List.getElem_cons_succ, List.getElem_cons_zero, Act.put, List.setIfInBounds_toArray, List.set_cons_zero, List.set_cons_succ]
  refine wpAnyH_take (i := 7) (v := ?_) rfl (by kernel_rfl) (by kernel_rfl) (by kernel_rfl) (fun _ _ _ h => h) (Or.inl ⟨by rfl, ?_⟩) (by assumption) ?_
  rotate_left
  · intro w hSw; (try dsimp only at hSw); go_simp; (try (with_reducible rfl))
  try simp only [List.getElem_toArray, List.getElem_cons_succ, List.getElem_cons_zero, Act.put, List.setIfInBounds_toArray, List.set_cons_zero, List.set_cons_succ]
  refine wpAnyH_take (i := 14) (v := ?_) rfl (by kernel_rfl) (by kernel_rfl) (by kernel_rfl) (fun _ _ _ h => h) (Or.inl ⟨by rfl, ?_⟩) (by assumption) ?_
  rotate_left
  · intro w hSw; (try dsimp only at hSw); go_simp; (try (with_reducible rfl))
  try simp only [List.getElem_toArray, List.getElem_cons_succ, List.getElem_cons_zero, Act.put, List.setIfInBounds_toArray, List.set_cons_zero, List.set_cons_succ]
  refine wpAnyH_take (i := 15) (v := ?_) rfl (by kernel_rfl) (by kernel_rfl) (by kernel_rfl) (fun _ _ _ h => h) (Or.inl ⟨by rfl, ?_⟩) (by assumption) ?_
  rotate_left
  · intro w hSw; (try dsimp only at hSw); go_simp; (try (with_reducible rfl))
  try simp only [List.getElem_toArray, List.getElem_cons_succ, List.getElem_cons_zero, Act.put, List.setIfInBounds_toArray, List.set_cons_zero, List.set_cons_succ]
  refine wpAnyH_take (i := 17) (v := ?_) rfl (by kernel_rfl) (by kernel_rfl) (by kernel_rfl) (fun _ _ _ h => h) (Or.inl ⟨by rfl, ?_⟩) (by assumption) ?_
  rotate_left
  · intro w hSw; (try dsimp only at hSw); go_simp; (try (with_reducible rfl))
  try simp only [List.getElem_toArray, List.getElem_cons_succ, List.getElem_cons_zero, Act.put, List.setIfInBounds_toArray, List.set_cons_zero, List.set_cons_succ]
  refine wpAnyH_take (i := 18) (v := ?_) rfl (by kernel_rfl) (by kernel_rfl) (by kernel_rfl) (fun _ _ _ h => h) (Or.inl ⟨by rfl, ?_⟩) (by assumption) ?_
  rotate_left
  · intro w hSw; (try dsimp only at hSw); go_simp; (try (with_reducible rfl))
  try simp only [List.getElem_toArray, List.getElem_cons_succ, List.getElem_cons_zero, Act.put, List.setIfInBounds_toArray, List.set_cons_zero, List.set_cons_succ]
  refine wpAnyH_take (i := 19) (v := ?_) rfl (by kernel_rfl) (by kernel_rfl) (by kernel_rfl) (fun _ _ _ h => h) (Or.inl ⟨by rfl, ?_⟩) (by assumption) ?_
  rotate_left
  · intro w hSw; (try dsimp only at hSw); go_simp; (try (with_reducible rfl))
  try simp only [List.getElem_toArray, List.getElem_cons_succ, List.getElem_cons_zero, Act.put, List.setIfInBounds_toArray, List.set_cons_zero, List.set_cons_succ]
  refine wpAnyH_take (i := 26) (v := ?_) rfl (by kernel_rfl) (by kernel_rfl) (by kernel_rfl) (fun _ _ _ h => h) (Or.inl ⟨by rfl, ?_⟩) (by assumption) ?_
  rotate_left
  · intro w hSw; (try dsimp only at hSw); go_simp; (try (with_reducible rfl))
  try simp only [List.getElem_toArray, List.getElem_cons_succ, List.getElem_cons_zero, Act.put, List.setIfInBounds_toArray, List.set_cons_zero, List.set_cons_succ]
  refine wpAnyH_take (i := 27) (v := ?_) rfl (by kernel_rfl) (by kernel_rfl) (by kernel_rfl) (fun _ _ _ h => h) (Or.inl ⟨by rfl, ?_⟩) (by assumption) ?_
  rotate_left
  · intro w hSw; (try dsimp only at hSw); go_simp; (try (with_reducible rfl))
  try simp only [List.getElem_toArray, List.getElem_cons_succ, List.getElem_cons_zero, Act.put, List.setIfInBounds_toArray, List.set_cons_zero, List.set_cons_succ]
  refine wpAnyH_take (i := 31) (v := ?_) rfl (by kernel_rfl) (by kernel_rfl) (by kernel_rfl) (fun _ _ _ h => h) (Or.inl ⟨by rfl, ?_⟩) (by assumption) ?_
  rotate_left
  · intro w hSw; (try dsimp only at hSw); go_simp; (try (with_reducible rfl))
  try simp only [List.getElem_toArray, List.getElem_cons_succ, List.getElem_cons_zero, Act.put, List.setIfInBounds_toArray, List.set_cons_zero, List.set_cons_succ]
  refine wpAnyH_take (i := 32) (v := ?_) rfl (by kernel_rfl) (by kernel_rfl) (by kernel_rfl) (fun _ _ _ h => h) (Or.inl ⟨by rfl, ?_⟩) (by assumption) ?_
  rotate_left
  · intro w hSw; (try dsimp only at hSw); go_simp; (try (with_reducible rfl))
  try simp only [List.getElem_toArray, List.getElem_cons_succ, List.getElem_cons_zero, Act.put, List.setIfInBounds_toArray, List.set_cons_zero, List.set_cons_succ]
  refine wpAnyH_take (i := 33) (v := ?_) rfl (by kernel_rfl) (by kernel_rfl) (by kernel_rfl) (fun _ _ _ h => h) (Or.inl ⟨by rfl, ?_⟩) (by assumption) ?_
  rotate_left
  · intro w hSw; (try dsimp only at hSw); go_simp; (try (with_reducible rfl))
  try simp only [List.getElem_toArray, List.getElem_cons_succ, List.getElem_cons_zero, Act.put, List.setIfInBounds_toArray, List.set_cons_zero, List.set_cons_succ]
  refine wpAnyH_take (i := 35) (v := ?_) rfl (by kernel_rfl) (by kernel_rfl) (by kernel_rfl) (fun _ _ _ h => h) (Or.inl ⟨by rfl, ?_⟩) (by assumption) ?_
  rotate_left
  · intro w hSw; (try dsimp only at hSw); go_simp; (try (with_reducible rfl))
  try simp only [List.getElem_toArray, List.getElem_cons_succ, List.getElem_cons_zero, Act.put, List.setIfInBounds_toArray, List.set_cons_zero, List.set_cons_succ]
  refine wpAnyH_take (i := 36) (v := ?_) rfl (by kernel_rfl) (by kernel_rfl) (by kernel_rfl) (fun _ _ _ h => h) (Or.inl ⟨by rfl, ?_⟩) (by assumption) ?_
  rotate_left
  · intro w hSw; (try dsimp only at hSw); go_simp; (try (with_reducible rfl))
  try simp only [List.getElem_toArray, List.getElem_cons_succ, List.getElem_cons_zero, Act.put, List.setIfInBounds_toArray, List.set_cons_zero, List.set_cons_succ]
  refine wpAnyH_take (i := 37) (v := ?_) rfl (by kernel_rfl) (by kernel_rfl) (by kernel_rfl) (fun _ _ _ h => h) (Or.inl ⟨by rfl, ?_⟩) (by assumption) ?_
  rotate_left
  · intro w hSw; (try dsimp only at hSw); go_simp; (try (with_reducible rfl))
  try simp only [List.getElem_toArray, List.getElem_cons_succ, List.getElem_cons_zero, Act.put, List.setIfInBounds_toArray, List.set_cons_zero, List.set_cons_succ]
  refine wpAnyH_ready (rs := [2]) (by kernel_rfl) (by simp) ?_
  refine AllReadyH.cons rfl (fun K hK => ?_) AllReadyH.nil
  go_simp
  refine (C1.out _).mono ?_; rintro e w' ⟨rfl, rfl⟩
  go_wp2_with fail
  refine hK.out _ _ ?_ (fun hHeld => ?_)
  · clear hK K; (go_split_ands; refine ⟨?_, ?_, ?_, ?_, ?_, ?_⟩ <;> first | assumption | (rw [hb.cell (by first | assumption | simp)]; first | assumption | (simp [go_sem]; done)) | exact Nat.lt_of_lt_of_le (by first | assumption | simp) hb.size | (go_keep; done) | (simp [go_sem]; done) | (simp; omega))
  clear hK K
  try simp only [List.getElem_toArray, List.getElem_cons_succ, List.getElem_cons_zero, Act.put, List.setIfInBounds_toArray, List.set_cons_zero, List.set_cons_succ]
  refine wpAnyH_take (i := 3) (v := ?_) rfl (by kernel_rfl) (by kernel_rfl) (by kernel_rfl) (fun _ _ _ h => h) (Or.inl ⟨by rfl, ?_⟩) (by assumption) ?_
  rotate_left
  · intro w hSw; (try dsimp only at hSw); go_simp; (try (with_reducible rfl))
  try simp only [List.getElem_toArray, List.getElem_cons_succ, List.getElem_cons_zero, Act.put, List.setIfInBounds_toArray, List.set_cons_zero, List.set_cons_succ]
  refine wpAnyH_ready (rs := [4]) (by kernel_rfl) (by simp) ?_
  refine AllReadyH.cons rfl (fun K hK => ?_) AllReadyH.nil
  go_simp
  refine (when_any _ _ _).mono ?_; rintro e w' ⟨rfl, rfl⟩
  go_wp2_with fail
  refine hK.out _ _ ?_ (fun hHeld => ?_)
  · clear hK K; (go_split_ands; refine ⟨?_, ?_, ?_, ?_, ?_, ?_⟩ <;> first | assumption | (rw [hb.cell (by first | assumption | simp)]; first | assumption | (simp [go_sem]; done)) | exact Nat.lt_of_lt_of_le (by first | assumption | simp) hb.size | (go_keep; done) | (simp [go_sem]; done) | (simp; omega))
  clear hK K
  try simp only [List.getElem_toArray, List.getElem_cons_succ, List.getElem_cons_zero, Act.put, List.setIfInBounds_toArray, List.set_cons_zero, List.set_cons_succ]
  refine wpAnyH_take (i := 8) (v := ?_) rfl (by kernel_rfl) (by kernel_rfl) (by kernel_rfl) (fun _ _ _ h => h) (Or.inl ⟨by rfl, ?_⟩) (by assumption) ?_
  rotate_left
  · intro w hSw; (try dsimp only at hSw); go_simp; (try (with_reducible rfl))
  try simp only [List.getElem_toArray, List.getElem_cons_succ, List.getElem_cons_zero, Act.put, List.setIfInBounds_toArray, List.set_cons_zero, List.set_cons_succ]
  refine wpAnyH_take (i := 9) (v := ?_) rfl (by kernel_rfl) (by kernel_rfl) (by kernel_rfl) (fun _ _ _ h => h) (Or.inl ⟨by rfl, ?_⟩) (by assumption) ?_
  rotate_left
  · intro w hSw; (try dsimp only at hSw); go_simp; (try (with_reducible rfl))
  try simp only [List.getElem_toArray, List.getElem_cons_succ, List.getElem_cons_zero, Act.put, List.setIfInBounds_toArray, List.set_cons_zero, List.set_cons_succ]
  refine wpAnyH_take (i := 10) (v := ?_) rfl (by kernel_rfl) (by kernel_rfl) (by kernel_rfl) (fun _ _ _ h => h) (Or.inl ⟨by rfl, ?_⟩) (by assumption) ?_
  rotate_left
  · intro w hSw; (try dsimp only at hSw); go_simp; (try (with_reducible rfl))
  try simp only [List.getElem_toArray, List.getElem_cons_succ, List.getElem_cons_zero, Act.put, List.setIfInBounds_toArray, List.set_cons_zero, List.set_cons_succ]
  refine wpAnyH_take (i := 11) (v := ?_) rfl (by kernel_rfl) (by kernel_rfl) (by kernel_rfl) (fun _ _ _ h => h) (Or.inl ⟨by rfl, ?_⟩) (by assumption) ?_
  rotate_left
  · intro w hSw; (try dsimp only at hSw); go_simp; (try (with_reducible rfl))
  try simp only [List.getElem_toArray, List.getElem_cons_succ, List.getElem_cons_zero, Act.put, List.setIfInBounds_toArray, List.set_cons_zero, List.set_cons_succ]
  refine wpAnyH_take (i := 12) (v := ?_) rfl (by kernel_rfl) (by kernel_rfl) (by kernel_rfl) (fun _ _ _ h => h) (Or.inl ⟨by rfl, ?_⟩) (by assumption) ?_
  rotate_left
  · intro w hSw; (try dsimp only at hSw); go_simp; (try (with_reducible rfl))
  try simp only [List.getElem_toArray, List.getElem_cons_succ, List.getElem_cons_zero, Act.put, List.setIfInBounds_toArray, List.set_cons_zero, List.set_cons_succ]
  refine wpAnyH_ready (rs := [13]) (by kernel_rfl) (by simp) ?_
  refine AllReadyH.cons rfl (fun K hK => ?_) AllReadyH.nil
  go_simp
  refine (when_any _ _ _).mono ?_; rintro e w' ⟨rfl, rfl⟩
  go_wp2_with fail
  refine hK.out _ _ ?_ (fun hHeld => ?_)
  · clear hK K; (go_split_ands; refine ⟨?_, ?_, ?_, ?_, ?_, ?_⟩ <;> first | assumption | (rw [hb.cell (by first | assumption | simp)]; first | assumption | (simp [go_sem]; done)) | exact Nat.lt_of_lt_of_le (by first | assumption | simp) hb.size | (go_keep; done) | (simp [go_sem]; done) | (simp; omega))
  clear hK K
  try simp only [List.getElem_toArray, List.getElem_cons_succ, List.getElem_cons_zero, Act.put, List.setIfInBounds_toArray, List.set_cons_zero, List.set_cons_succ]
  refine wpAnyH_ready (rs := [16]) (by kernel_rfl) (by simp) ?_
  refine AllReadyH.cons rfl (fun K hK => ?_) AllReadyH.nil
  go_simp
  refine (checkRange_any _ _ _ _).mono ?_; rintro e w' ⟨rfl, rfl⟩
  go_wp2_with fail
  refine hK.out _ _ ?_ (fun hHeld => ?_)
  · clear hK K; (go_split_ands; refine ⟨?_, ?_, ?_, ?_, ?_, ?_⟩ <;> first | assumption | (rw [hb.cell (by first | assumption | simp)]; first | assumption | (simp [go_sem]; done)) | exact Nat.lt_of_lt_of_le (by first | assumption | simp) hb.size | (go_keep; done) | (simp [go_sem]; done) | (simp; omega))
  clear hK K
  try simp only [List.getElem_toArray, List.getElem_cons_succ, List.getElem_cons_zero, Act.put, List.setIfInBounds_toArray, List.set_cons_zero, List.set_cons_succ]
  refine wpAnyH_take (i := 20) (v := ?_) rfl (by kernel_rfl) (by kernel_rfl) (by kernel_rfl) (fun _ _ _ h => h) (Or.inl ⟨by rfl, ?_⟩) (by assumption) ?_
  rotate_left
  · intro w hSw; (try dsimp only at hSw); go_simp; (try (with_reducible rfl))
  try simp only [List.getElem_toArray, List.getElem_cons_succ, List.getElem_cons_zero, Act.put, List.setIfInBounds_toArray, List.set_cons_zero, List.set_cons_succ]
  refine wpAnyH_take (i := 21) (v := undef) rfl (by kernel_rfl) (by kernel_rfl) (by kernel_rfl) (fun _ _ _ h => h) (Or.inr ⟨by rfl, rfl⟩) (by assumption) ?_
  try simp only [List.getElem_toArray, List.getElem_cons_succ, List.getElem_cons_zero, Act.put, List.setIfInBounds_toArray, List.set_cons_zero, List.set_cons_succ]
  refine wpAnyH_take (i := 22) (v := undef) rfl (by kernel_rfl) (by kernel_rfl) (by kernel_rfl) (fun _ _ _ h => h) (Or.inr ⟨by rfl, rfl⟩) (by assumption) ?_
  try simp only [List.getElem_toArray, List.getElem_cons_succ, List.getElem_cons_zero, Act.put, List.setIfInBounds_toArray, List.set_cons_zero, List.set_cons_succ]
  refine wpAnyH_take (i := 23) (v := undef) rfl (by kernel_rfl) (by kernel_rfl) (by kernel_rfl) (fun _ _ _ h => h) (Or.inr ⟨by rfl, rfl⟩) (by assumption) ?_
  try simp only [List.getElem_toArray, List.getElem_cons_succ, List.getElem_cons_zero, Act.put, List.setIfInBounds_toArray, List.set_cons_zero, List.set_cons_succ]
  refine wpAnyH_take (i := 24) (v := ?_) rfl (by kernel_rfl) (by kernel_rfl) (by kernel_rfl) (fun _ _ _ h => h) (Or.inl ⟨by rfl, ?_⟩) (by assumption) ?_
  rotate_left
  · intro w hSw; (try dsimp only at hSw); go_simp; (try (with_reducible rfl))
  try simp only [List.getElem_toArray, List.getElem_cons_succ, List.getElem_cons_zero, Act.put, List.setIfInBounds_toArray, List.set_cons_zero, List.set_cons_succ]
  refine wpAnyH_ready (rs := [25]) (by kernel_rfl) (by simp) ?_
  refine AllReadyH.cons rfl (fun K hK => ?_) AllReadyH.nil
  go_simp
  refine (when_any _ _ _).mono ?_; rintro e w' ⟨rfl, rfl⟩
  go_wp2_with fail
  refine hK.out _ _ ?_ (fun hHeld => ?_)
  · clear hK K; (go_split_ands; refine ⟨?_, ?_, ?_, ?_, ?_, ?_⟩ <;> first | assumption | (rw [hb.cell (by first | assumption | simp)]; first | assumption | (simp [go_sem]; done)) | exact Nat.lt_of_lt_of_le (by first | assumption | simp) hb.size | (go_keep; done) | (simp [go_sem]; done) | (simp; omega))
  clear hK K
  try simp only [List.getElem_toArray, List.getElem_cons_succ, List.getElem_cons_zero, Act.put, List.setIfInBounds_toArray, List.set_cons_zero, List.set_cons_succ]
  refine wpAnyH_ready (rs := [28]) (by kernel_rfl) (by simp) ?_
  refine AllReadyH.cons rfl (fun K hK => ?_) AllReadyH.nil
  go_simp
  refine (C2.out _).mono ?_; rintro e w' ⟨rfl, hb⟩
  go_wp2_with fail
  refine hK.out _ _ ?_ (fun hHeld => ?_)
  · clear hK K; (go_split_ands; refine ⟨?_, ?_, ?_, ?_, ?_, ?_⟩ <;> first | assumption | (rw [hb.cell (by first | assumption | simp)]; first | assumption | (simp [go_sem]; done)) | exact Nat.lt_of_lt_of_le (by first | assumption | simp) hb.size | (go_keep; done) | (simp [go_sem]; done) | (simp; omega))
  clear hK K
  try simp only [List.getElem_toArray, List.getElem_cons_succ, List.getElem_cons_zero, Act.put, List.setIfInBounds_toArray, List.set_cons_zero, List.set_cons_succ]
  refine wpAnyH_take (i := 29) (v := ?_) rfl (by kernel_rfl) (by kernel_rfl) (by kernel_rfl) (fun _ _ _ h => h) (Or.inl ⟨by rfl, ?_⟩) (by assumption) ?_
  rotate_left
  · intro w hSw; (try dsimp only at hSw); go_simp; (try (with_reducible rfl))
  try simp only [List.getElem_toArray, List.getElem_cons_succ, List.getElem_cons_zero, Act.put, List.setIfInBounds_toArray, List.set_cons_zero, List.set_cons_succ]
  refine wpAnyH_ready (rs := [30]) (by kernel_rfl) (by simp) ?_
  refine AllReadyH.cons rfl (fun K hK => ?_) AllReadyH.nil
  go_simp
  refine (when_any _ _ _).mono ?_; rintro e w' ⟨rfl, rfl⟩
  go_wp2_with fail
  refine hK.out _ _ ?_ (fun hHeld => ?_)
  · clear hK K; (go_split_ands; refine ⟨?_, ?_, ?_, ?_, ?_, ?_⟩ <;> first | assumption | (rw [hb.cell (by first | assumption | simp)]; first | assumption | (simp [go_sem]; done)) | exact Nat.lt_of_lt_of_le (by first | assumption | simp) hb.size | (go_keep; done) | (simp [go_sem]; done) | (simp; omega))
  clear hK K
  try simp only [List.getElem_toArray, List.getElem_cons_succ, List.getElem_cons_zero, Act.put, List.setIfInBounds_toArray, List.set_cons_zero, List.set_cons_succ]
  refine wpAnyH_ready (rs := [34]) (by kernel_rfl) (by simp) ?_
  refine AllReadyH.cons rfl (fun K hK => ?_) AllReadyH.nil
  go_simp
  refine (checkRange_any _ _ _ _).mono ?_; rintro e w' ⟨rfl, rfl⟩
  go_wp2_with fail
  refine hK.out _ _ ?_ (fun hHeld => ?_)
  · clear hK K; (go_split_ands; refine ⟨?_, ?_, ?_, ?_, ?_, ?_⟩ <;> first | assumption | (rw [hb.cell (by first | assumption | simp)]; first | assumption | (simp [go_sem]; done)) | exact Nat.lt_of_lt_of_le (by first | assumption | simp) hb.size | (go_keep; done) | (simp [go_sem]; done) | (simp; omega))
  clear hK K
  try simp only [List.getElem_toArray, List.getElem_cons_succ, List.getElem_cons_zero, Act.put, List.setIfInBounds_toArray, List.set_cons_zero, List.set_cons_succ]
  refine wpAnyH_ready (rs := [38]) (by kernel_rfl) (by simp) ?_
  refine AllReadyH.cons rfl (fun K hK => ?_) AllReadyH.nil
  go_simp
  refine (checkRange_any _ _ _ _).mono ?_; rintro e w' ⟨rfl, rfl⟩
  go_wp2_with fail
  refine hK.out _ _ ?_ (fun hHeld => ?_)
  · clear hK K; (go_split_ands; refine ⟨?_, ?_, ?_, ?_, ?_, ?_⟩ <;> first | assumption | (rw [hb.cell (by first | assumption | simp)]; first | assumption | (simp [go_sem]; done)) | exact Nat.lt_of_lt_of_le (by first | assumption | simp) hb.size | (go_keep; done) | (simp [go_sem]; done) | (simp; omega))
  clear hK K
  try simp only [List.getElem_toArray, List.getElem_cons_succ, List.getElem_cons_zero, Act.put, List.setIfInBounds_toArray, List.set_cons_zero, List.set_cons_succ]
  refine wpAnyH_ready (rs := [39]) (by kernel_rfl) (by simp) ?_
  refine AllReadyH.cons rfl (fun K hK => ?_) AllReadyH.nil
  go_simp
  refine hK.out _ _ ?_ (fun hHeld => ?_)
  · clear hK K; (go_split_ands; refine ⟨?_, ?_, ?_, ?_, ?_, ?_⟩ <;> first | assumption | (rw [hb.cell (by first | assumption | simp)]; first | assumption | (simp [go_sem]; done)) | exact Nat.lt_of_lt_of_le (by first | assumption | simp) hb.size | (go_keep; done) | (simp [go_sem]; done) | (simp; omega))
  clear hK K
  try simp only [List.getElem_toArray, List.getElem_cons_succ, List.getElem_cons_zero, Act.put, List.setIfInBounds_toArray, List.set_cons_zero, List.set_cons_succ]
  refine wpAnyH_ready (rs := [40]) (by kernel_rfl) (by simp) ?_
  refine AllReadyH.cons rfl (fun K hK => ?_) AllReadyH.nil
  go_simp
  refine (first7 _ _ _ _ _ _ _ _).mono ?_; rintro e w' ⟨rfl, rfl⟩
  go_wp2_with fail
  refine hK.out _ _ ?_ (fun hHeld => ?_)
  · clear hK K; (go_split_ands; refine ⟨?_, ?_, ?_, ?_, ?_, ?_⟩ <;> first | assumption | (rw [hb.cell (by first | assumption | simp)]; first | assumption | (simp [go_sem]; done)) | exact Nat.lt_of_lt_of_le (by first | assumption | simp) hb.size | (go_keep; done) | (simp [go_sem]; done) | (simp; omega))
  clear hK K
  try simp only [List.getElem_toArray, List.getElem_cons_succ, List.getElem_cons_zero, Act.put, List.setIfInBounds_toArray, List.set_cons_zero, List.set_cons_succ]
  refine wpAnyH_take (i := 41) (v := ?_) rfl (by kernel_rfl) (by kernel_rfl) (by kernel_rfl) (fun _ _ _ h => h) (Or.inl ⟨by rfl, ?_⟩) (by assumption) ?_
  rotate_left
  · intro w hSw; (try dsimp only at hSw); go_simp; (try (with_reducible rfl))
  try simp only [List.getElem_toArray, List.getElem_cons_succ, List.getElem_cons_zero, Act.put, List.setIfInBounds_toArray, List.set_cons_zero, List.set_cons_succ]
  refine wpAnyH_done (by kernel_rfl) ?_ _
  go_wp2
  go_ret
  exact ⟨rfl, ((((Below.refl _ _).alloc (Nat.le_refl _) _).drew).trans (hb.mono (by simp))).alloc (by have := hb.size; simp at this; omega) _⟩

end Go.Proofs.YtjjflbnopphciabDoor

namespace Go.Proofs.YtjjflbnopphciabDoor
open Go.RowKit

set_option maxRecDepth 100000 in
theorem reduced_any (a b : Int) (w : World) (ha0 : 0 ≤ a) (ha1 : a ≤ 1000000000000) (hb0 : 0 < b) (hb1 : b ≤ 1000000) :
    Calls Tryd.prog 47 #[.int .i64 a, .int .i64 b] w fun e w' => e = .returned (.agg #[.int .i64 (a / (Int.gcd a b : Int)), .int .i64 (b / (Int.gcd a b : Int))]) ∧ Below w.heap.size w w' := by
  obtain ⟨g, hg⟩ : ∃ g : Int, (Int.gcd a b : Int) = g := ⟨_, rfl⟩
  have hg1 : 1 ≤ g := by rw [← hg]; have := Int.gcd_pos_of_ne_zero_right a (show b ≠ 0 by omega); omega
  have hg2 : g ≤ 1000000 := by
    rw [← hg]
    have : (Int.gcd a b : Int) ≤ b := Int.le_of_dvd hb0 (Int.gcd_dvd_right ..)
    omega
  have C : Hid (∀ W, Calls Tryd.prog 68 #[.int .i64 a, .int .i64 b] W fun e w' => e = .returned (.int .i64 g) ∧ ∃ n, w' = W.drewN n) := fun W => by rw [← hg]; exact commonDivisor_any a b (by omega) (by omega) hb0 (by omega) W
  rw [hg]
  clear hg
  have hq1 := Int.ediv_nonneg ha0 (show 0 ≤ g by omega)
  have hq2 := Int.ediv_le_self g ha0
  have hq3 := Int.ediv_nonneg (Int.le_of_lt hb0) (show 0 ≤ g by omega)
  have hq4 := Int.ediv_le_self g (Int.le_of_lt hb0)
  have hgne : (g == 0) = false := beq_eq_false_iff_ne.2 (by omega)
  go_enter Tryd.func47, Tryd.ntmps47
  go_wp2_with (go_at_call 68; refine (C.out _).mono ?_; rintro e w' ⟨rfl, k, rfl⟩)
  go_region
  go_wp2
  refine bodyPost_ret (v := .agg #[.int .i64 (a / g), .int .i64 (b / g)]) (by simp [results, Tryd.results47, go_sem]) rfl ⟨rfl, ?_⟩
  exact (((blw_drewN ((Below.refl _ _).alloc (Nat.le_refl _) _) _).setCell (by simp) _).setCell (by simp) _)

/-- The samples of a turn of a valid carrier: the fraction and the error. -/
def turnN (n d rate : Int) : Int := rate * 60 * d / (Int.gcd (rate * 60 * d) n : Int)
def turnD (n d rate : Int) : Int := n / (Int.gcd (rate * 60 * d) n : Int)

set_option maxRecDepth 100000 in
set_option maxHeartbeats 2000000 in
theorem samples_head (nm : ByteArray) (k sd n d rate r r0 : Int) (w : World) (t : Bool) (ht : (k == 2) = t) (hr0 : firstE [r, whenE t 15, rangeE rate 1 200000] = r0) (hne : r0 ≠ 0)
    (h1 : ∀ W, Calls Tryd.prog 46 #[.agg #[.string nm, .int .i64 k, .int .i64 sd, .int .i64 n, .int .i64 d]] W fun e w' => e = .returned (.int .i64 r) ∧ Below W.heap.size W w') :
    Calls Tryd.prog 17 #[.agg #[.string nm, .int .i64 k, .int .i64 sd, .int .i64 n, .int .i64 d], .int .i64 rate] w fun e w' => e = .returned (.tuple #[.agg #[.int .i64 0, .int .i64 0], .int .i64 r0]) ∧ Below w.heap.size w w' := by
  have C1 := Lib.hid h1
  clear h1
  have hb0 : (r0 != 0) = true := by simpa using hne
  have HR := Lib.hid hr0
  clear hne hr0
  go_enter Tryd.func17, Tryd.ntmps17
  go_wp2_with fail
  go_region_held3 (fun w' => w'.cell? ⟨w.heap.size, 0, none⟩ = some (.string nm) ∧ w'.cell? ⟨w.heap.size, 1, none⟩ = some (.int .i64 k) ∧ w'.cell? ⟨w.heap.size, 2, none⟩ = some (.int .i64 sd) ∧ w'.cell? ⟨w.heap.size, 3, none⟩ = some (.int .i64 n) ∧ w'.cell? ⟨w.heap.size, 4, none⟩ = some (.int .i64 d) ∧ w.heap.size + 1 < w'.heap.size)
    ((go_split_ands; refine ⟨?_, ?_, ?_, ?_, ?_, ?_⟩ <;> first | assumption | (rw [hb.cell (by first | assumption | (simp; done) | (simp; omega))]; first | assumption | (simp [go_sem]; done)) | exact Nat.lt_of_lt_of_le (by first | assumption | simp) hb.size | (go_keep; done) | (simp; omega)))
    (first
      | (go_at_call 46; refine (C1.out _).mono ?_; rintro e w' ⟨rfl, hb⟩)
      | (go_at_call 25; refine (when_any _ _ _).mono ?_; rintro e w' ⟨rfl, rfl⟩)
      | (go_at_call 28; refine (checkRange_any _ _ _ _).mono ?_; rintro e w' ⟨rfl, rfl⟩)
      | (go_at_call 24; refine (first3 _ _ _ _).mono ?_; rintro e w' ⟨rfl, rfl⟩))
  rw [HR.out]
  have z1 := hb.size
  simp at z1
  have BR : Bk w' (w.heap.size + 1) 47 #[.int .i64 0, .int .i64 0] := by
    have b0 : Bk ((w.alloc (.cells #[.string nm, .int .i64 k, .int .i64 sd, .int .i64 n, .int .i64 d] 51)).alloc (.cells #[.int .i64 0, .int .i64 0] 47)) (w.heap.size + 1) 47 #[.int .i64 0, .int .i64 0] := by
      have := Bk.new (w.alloc (.cells #[.string nm, .int .i64 k, .int .i64 sd, .int .i64 n, .int .i64 d] 51)) 47 #[.int .i64 0, .int .i64 0]
      rw [World.size_alloc] at this
      exact this
    exact (b0.drew).below hb (by simp)
  have l1 : Hid (Below w.heap.size w w') := ((((Below.refl _ _).alloc (Nat.le_refl _) _).alloc (by simp) _).drew).trans (hb.mono (by simp; omega))
  have r1 := BR.cell 0
  have r2 := BR.cell 1
  simp at r1 r2
  have f1 := BR.frozen 0
  have f2 := BR.frozen 1
  have z2 : w.heap.size + 1 < w'.heap.size := by omega
  clear BR hb z1
  go_wp2
  refine bodyPost_ret (v := .tuple #[.agg #[.int .i64 0, .int .i64 0], .int .i64 r0]) (by simp [results, Tryd.results17, go_sem, r1, r2, z2]) rfl ⟨rfl, ?_⟩
  refine Below.alloc (Below.setCell (Below.setCell l1.out ?_ _) ?_ _) ?_ _
  · exact Nat.le_succ _
  · exact Nat.le_succ _
  · simp [World.setCell]; omega

set_option maxRecDepth 100000 in
set_option maxHeartbeats 2000000 in
theorem samples_ok (nm : ByteArray) (k sd n d rate : Int) (w : World) (ht : (k == 2) = false) (hn0 : 1 ≤ n) (hn1 : n ≤ 10000) (hd0 : 1 ≤ d) (hd1 : d ≤ 10000) (hr0 : 1 ≤ rate) (hr1 : rate ≤ 200000)
    (h1 : ∀ W, Calls Tryd.prog 46 #[.agg #[.string nm, .int .i64 k, .int .i64 sd, .int .i64 n, .int .i64 d]] W fun e w' => e = .returned (.int .i64 0) ∧ Below W.heap.size W w') :
    Calls Tryd.prog 17 #[.agg #[.string nm, .int .i64 k, .int .i64 sd, .int .i64 n, .int .i64 d], .int .i64 rate] w fun e w' =>
      e = .returned (if 1000000000 < turnN n d rate then .tuple #[.agg #[.int .i64 0, .int .i64 0], .int .i64 8] else .tuple #[.agg #[.int .i64 (turnN n d rate), .int .i64 (turnD n d rate)], .int .i64 0]) ∧ Below w.heap.size w w' := by
  have C1 := Lib.hid h1
  clear h1
  have hm1 := mul_bd2 rate 60 200000 60 (by omega) (by omega) hr1 (by omega)
  have hm2 := mul_bd2 (rate * 60) d 12000000 10000 hm1.1 (by omega) (by omega) hd1
  have hg1 : 1 ≤ (Int.gcd (rate * 60 * d) n : Int) := by have := Int.gcd_pos_of_ne_zero_right (rate * 60 * d) (show n ≠ 0 by omega); omega
  have hD1 : 0 ≤ turnD n d rate ∧ turnD n d rate ≤ 10000 := by
    unfold turnD
    have a := Int.ediv_nonneg (show 0 ≤ n by omega) (show 0 ≤ (Int.gcd (rate * 60 * d) n : Int) by omega)
    have b := Int.ediv_le_self (Int.gcd (rate * 60 * d) n : Int) (show 0 ≤ n by omega)
    omega
  have C2 : Hid (∀ W, Calls Tryd.prog 47 #[.int .i64 (rate * 60 * d), .int .i64 n] W fun e w' => e = .returned (.agg #[.int .i64 (turnN n d rate), .int .i64 (turnD n d rate)]) ∧ Below W.heap.size W w') := fun W => reduced_any (rate * 60 * d) n W hm2.1 (by omega) (by omega) (by omega)
  obtain ⟨N, hN⟩ : ∃ N, turnN n d rate = N := ⟨_, rfl⟩
  obtain ⟨D, hD⟩ : ∃ D, turnD n d rate = D := ⟨_, rfl⟩
  rw [hN, hD] at C2
  rw [hD] at hD1
  rw [hN, hD]
  clear hN hD hg1
  have hR : Hid (firstE [0, whenE false 15, rangeE rate 1 200000] = 0) := by
    have e : rangeE rate 1 200000 = 0 := (rangeE_zero _ _ _).2 ⟨hr0, hr1⟩
    show firstE _ = 0
    rw [e]; rfl
  go_enter Tryd.func17, Tryd.ntmps17
  go_wp2_with fail
  go_region_held3 (fun w' => w'.cell? ⟨w.heap.size, 0, none⟩ = some (.string nm) ∧ w'.cell? ⟨w.heap.size, 1, none⟩ = some (.int .i64 k) ∧ w'.cell? ⟨w.heap.size, 2, none⟩ = some (.int .i64 sd) ∧ w'.cell? ⟨w.heap.size, 3, none⟩ = some (.int .i64 n) ∧ w'.cell? ⟨w.heap.size, 4, none⟩ = some (.int .i64 d) ∧ w.heap.size + 1 < w'.heap.size)
    ((go_split_ands; refine ⟨?_, ?_, ?_, ?_, ?_, ?_⟩ <;> first | assumption | (rw [hb.cell (by first | assumption | (simp; done) | (simp; omega))]; first | assumption | (simp [go_sem]; done)) | exact Nat.lt_of_lt_of_le (by first | assumption | simp) hb.size | (go_keep; done) | (simp; omega)))
    (first
      | (go_at_call 46; refine (C1.out _).mono ?_; rintro e w' ⟨rfl, hb⟩)
      | (go_at_call 25; refine (when_any _ _ _).mono ?_; rintro e w' ⟨rfl, rfl⟩)
      | (go_at_call 28; refine (checkRange_any _ _ _ _).mono ?_; rintro e w' ⟨rfl, rfl⟩)
      | (go_at_call 24; refine (first3 _ _ _ _).mono ?_; rintro e w' ⟨rfl, rfl⟩))
  rw [hR.out]
  have z1 := hb.size
  simp at z1
  have BR : Bk w' (w.heap.size + 1) 47 #[.int .i64 0, .int .i64 0] := by
    have b0 : Bk ((w.alloc (.cells #[.string nm, .int .i64 k, .int .i64 sd, .int .i64 n, .int .i64 d] 51)).alloc (.cells #[.int .i64 0, .int .i64 0] 47)) (w.heap.size + 1) 47 #[.int .i64 0, .int .i64 0] := by
      have := Bk.new (w.alloc (.cells #[.string nm, .int .i64 k, .int .i64 sd, .int .i64 n, .int .i64 d] 51)) 47 #[.int .i64 0, .int .i64 0]
      rw [World.size_alloc] at this
      exact this
    exact (b0.drew).below hb (by simp)
  have BC : Bk w' w.heap.size 51 #[.string nm, .int .i64 k, .int .i64 sd, .int .i64 n, .int .i64 d] := (((Bk.new w _ _).alloc _).drew).below hb (by simp; omega)
  have l1 : Hid (Below w.heap.size w w') := ((((Below.refl _ _).alloc (Nat.le_refl _) _).alloc (by simp) _).drew).trans (hb.mono (by simp; omega))
  have z2 : w.heap.size + 1 < w'.heap.size := by omega
  obtain ⟨w4, hw4⟩ : ∃ w4, w'.alloc (.cells #[.int .i64 0, .int .i64 (whenE false 15), .int .i64 (rangeE rate 1 200000)] 27) = w4 := ⟨_, rfl⟩
  have BR4 : Bk w4 (w.heap.size + 1) 47 #[.int .i64 0, .int .i64 0] := by rw [← hw4]; exact BR.alloc _
  have BC4 : Bk w4 w.heap.size 51 #[.string nm, .int .i64 k, .int .i64 sd, .int .i64 n, .int .i64 d] := by rw [← hw4]; exact BC.alloc _
  have l4 : Hid (Below w.heap.size w w4) := by show Below _ _ _; rw [← hw4]; exact l1.out.alloc (by omega) _
  have z4 : w.heap.size + 1 < w4.heap.size := BR4.lt
  try rw [hw4]
  clear hw4 l1 z2 z1 BR BC hb
  have c3 := BC4.cell 3
  have c4 := BC4.cell 4
  simp at c3 c4
  have HBR4 := Lib.hid BR4
  clear BC4 BR4
  go_wp2_with fail
  refine (C2.out _).mono ?_
  rintro e w5 ⟨rfl, hb5⟩
  have BR5 := HBR4.out.below hb5 z4
  have l5 : Hid (Below w.heap.size w w5) := l4.out.trans (hb5.mono (by omega))
  have z5 : w.heap.size + 1 < w5.heap.size := BR5.lt
  have r1 := BR5.cell 0
  have r2 := BR5.cell 1
  simp at r1 r2
  have f1 := BR5.frozen 0
  have f2 := BR5.frozen 1
  clear BR5 hb5
  by_cases hbig : 1000000000 < N
  · have hd9 : ¬ (1000000000 < D) := by omega
    go_wp2
    refine bodyPost_ret (v := .tuple #[.agg #[.int .i64 0, .int .i64 0], .int .i64 8]) (by simp [results, Tryd.results17, go_sem, r1, r2, z5]) rfl ⟨rfl, ?_⟩
    refine Below.alloc (Below.setCell (Below.setCell l5.out ?_ _) ?_ _) ?_ _
    · exact Nat.le_succ _
    · exact Nat.le_succ _
    · simp [World.setCell]; omega
  · have hd9 : ¬ (1000000000 < D) := by omega
    go_wp2
    refine bodyPost_ret (v := .tuple #[.agg #[.int .i64 N, .int .i64 D], .int .i64 0]) (by simp [results, Tryd.results17, go_sem, r1, r2, z5]) rfl ⟨rfl, ?_⟩
    refine Below.alloc (Below.setCell (Below.setCell l5.out ?_ _) ?_ _) ?_ _
    · exact Nat.le_succ _
    · exact Nat.le_succ _
    · simp [World.setCell]; omega

end Go.Proofs.YtjjflbnopphciabDoor

namespace Go.Proofs.YtjjflbnopphciabDoor
open Go.RowKit

theorem rd_of_own {w : World} {base : Nat} {e : TypeId} {v : Value} {n : Nat} {xs : List Int} (h : w.ownsRow base e 1 v n (xs.map (Value.int .i64))) :
    ∃ A c, v = .slice A n c ∧ n ≤ c ∧ RdI w A n xs := by
  have hl : xs.length = n := by have := h.1; simpa using this
  rcases h.2 with ⟨rfl, rfl⟩ | ⟨g, cap, cur, rfl, _, hh, hnc, _, _, htk⟩
  · exact ⟨none, 0, rfl, Nat.le_refl _, hl, fun h0 => absurd h0 (by omega)⟩
  · refine ⟨_, cap, rfl, hnc, hl, fun _ => ⟨_, rfl, ?_, fun j hj => ?_⟩⟩
    · have : Bk w g e cur := hh
      exact this.lt
    · have hadd : (⟨g, 0, none⟩ : Addr).add j = ⟨g, j, none⟩ := by unfold Addr.add; split <;> simp_all
      rw [hadd, cell_of_row w g j cur e (0, 0) hh, ← Array.getElem?_toList]
      have e1 : (cur.toList.take (n * 1))[j]? = (xs.map (Value.int .i64))[j]? := by rw [htk]
      rw [List.getElem?_take, if_pos (by omega)] at e1
      rw [e1]
      simp [List.getElem?_eq_getElem (show j < xs.length by omega)]

def lpS : ByteArray := { data := #[108, 112] }

theorem lp_carrier (w : World) :
    Calls Tryd.prog 46 #[.agg #[.string lpS, .int .i64 0, .int .i64 2, .int .i64 100, .int .i64 3]] w fun e w' => e = .returned (.int .i64 0) ∧ Below w.heap.size w w' := by
  have n1 : nameB lpS.data.toList = true := by decide +kernel
  have n2 : lowB 100 3 = true := by decide +kernel
  have h := checkCarrier_zero lpS 2 100 3 w true true
    (fun W => by have := isName_any lpS W (by decide); rw [n1] at this; exact this)
    (fun W => by have := isLowest_any 100 3 (by omega) (by omega) (by omega) W; rw [n2] at this; exact this)
  have e : firstE [whenE (!true) 4, whenE false 15, rangeE 2 1 2, whenE false 3, whenE (!true) 3, rangeE 100 1 10000, rangeE 3 1 10000] = 0 := by decide +kernel
  rw [e] at h
  exact h

theorem lp_samples (w : World) :
    Calls Tryd.prog 17 #[.agg #[.string lpS, .int .i64 0, .int .i64 2, .int .i64 100, .int .i64 3], .int .i64 48000] w fun e w' => e = .returned (.tuple #[.agg #[.int .i64 86400, .int .i64 1], .int .i64 0]) ∧ Below w.heap.size w w' := by
  have h := samples_ok lpS 0 2 100 3 48000 w rfl (by omega) (by omega) (by omega) (by omega) (by omega) (by omega) lp_carrier
  have e1 : turnN 100 3 48000 = 86400 := by decide +kernel
  have e2 : turnD 100 3 48000 = 1 := by decide +kernel
  rw [e1, e2, if_neg (by omega)] at h
  exact h

def bits24 : List Int := [1, 0, 0, 0, 0, 0, 0, 1, 1, 1, 1, 1, 1, 0, 1, 1, 1, 0, 0, 0, 0, 0, 0, 0]
theorem pack24 : packT [3, 4, 5, 6, 7, 8, 9, 10] = bits24 := by decide +kernel

theorem ex_packed (w : World) (hw : Laid w) :
    Calls Tryd.prog 18 #[.agg #[.int .i64 3, .int .i64 4, .int .i64 5, .int .i64 6, .int .i64 7, .int .i64 8, .int .i64 9, .int .i64 10]] w fun e w' => (∃ A c, e = .returned (.tuple #[.slice A 24 c, .int .i64 0]) ∧ RdI w' A 24 bits24) ∧ Below w.heap.size w w' := by
  refine (packed_ok _ [3, 4, 5, 6, 7, 8, 9, 10] w hw (is8_lit 3 4 5 6 7 8 9 10) (by decide +kernel)).mono ?_
  rintro e w' ⟨v, rfl, ho, hb⟩
  rw [pack24] at ho
  obtain ⟨A, c, rfl, _, hr⟩ := rd_of_own ho
  exact ⟨⟨A, c, rfl, hr⟩, hb⟩

theorem ex_inverse (w : World) :
    Calls Tryd.prog 19 #[.int .i64 4] w fun e w' => e = .returned (.tuple #[.int .i64 49153, .int .i64 0]) ∧ Below w.heap.size w w' := by
  have h := inverse_ok 4 (by omega) (by omega) w
  have e : invT 4 = 49153 := by decide +kernel
  rw [e] at h
  exact h

theorem ex_sum (w : World) :
    Calls Tryd.prog 20 #[.agg #[.int .i64 5, .int .i64 0, .int .i64 0, .int .i64 0, .int .i64 0, .int .i64 0, .int .i64 0, .int .i64 0, .int .i64 0, .int .i64 0, .int .i64 0]] w fun e w' => e = .returned (.tuple #[.int .i64 27, .int .i64 0]) ∧ Below w.heap.size w w' := by
  have h := sum_ok 5 0 0 0 0 0 0 0 0 0 0 w (by decide +kernel)
  have e : sumT 5 0 [0, 0, 0, 0, 0, 0, 0, 0] = 27 := by decide +kernel
  rw [e] at h
  exact h

end Go.Proofs.YtjjflbnopphciabDoor

namespace Go.Proofs.YtjjflbnopphciabDoor
open Go.RowKit

theorem RdI.drew {w : World} {A : Option Addr} {n : Nat} {xs : List Int} (h : RdI w A n xs) : RdI w.drew A n xs := h

theorem lit24 (w : World) : RdI (w.alloc (.cells #[.int .i64 1, .int .i64 0, .int .i64 0, .int .i64 0, .int .i64 0, .int .i64 0, .int .i64 0, .int .i64 1, .int .i64 1, .int .i64 1, .int .i64 1, .int .i64 1, .int .i64 1, .int .i64 0, .int .i64 1, .int .i64 1, .int .i64 1, .int .i64 0, .int .i64 0, .int .i64 0, .int .i64 0, .int .i64 0, .int .i64 0, .int .i64 0] 3)) (some ⟨w.heap.size, 0, none⟩) 24 bits24 := by
  refine ⟨rfl, fun _ => ⟨_, rfl, by simp, fun j hj => ?_⟩⟩
  have hadd : (⟨w.heap.size, 0, none⟩ : Addr).add j = ⟨w.heap.size, j, none⟩ := by unfold Addr.add; split <;> simp_all
  rw [hadd, cell_of_row _ _ _ _ _ (0, 0) (heap_alloc_new w _)]
  rw [← Array.getElem?_toList]
  show (bits24.map (Value.int .i64))[j]? = _
  have h24 : bits24.length = 24 := rfl
  simp [List.getElem?_eq_getElem (show j < bits24.length by omega)]

set_option maxRecDepth 100000 in
set_option maxHeartbeats 2000000 in
theorem awake_any (w : World) (hw : Laid w) :
    Calls Tryd.prog 5 #[] w fun e w' => e = .returned (.bool true) ∧ Below w.heap.size w w' := by
  have HW := Lib.hid hw; clear hw
  go_enter Tryd.func5, Tryd.ntmps5
  go_wp2_with fail
  refine (lp_samples _).mono ?_
  rintro e w1 ⟨rfl, hb1⟩
  have l1 := Lib.hid hb1
  clear hb1
  go_wp2_with fail
  have F1 : Bk (w1.alloc (.cells #[.int .i64 86400, .int .i64 1] 47)) w1.heap.size 47 #[.int .i64 86400, .int .i64 1] := Bk.new _ _ _
  have l2 : Hid (Below w.heap.size w (w1.alloc (.cells #[.int .i64 86400, .int .i64 1] 47))) := l1.out.alloc l1.out.size _
  have HF1 := Lib.hid F1
  clear F1
  refine (ex_packed _ (HW.out.later l2.out)).mono ?_
  rintro e w3 ⟨⟨A, c, rfl, hr3⟩, hb3⟩
  have l3 : Hid (Below w.heap.size w w3) := l2.out.trans (hb3.mono l2.out.size)
  have F3 := Lib.hid (HF1.out.below hb3 (by simp))
  have R3 := Lib.hid hr3
  clear hr3 hb3 l2 HF1
  go_wp2_with fail
  refine (ex_inverse _).mono ?_
  rintro e w4 ⟨rfl, hb4⟩
  have l4 : Hid (Below w.heap.size w w4) := l3.out.trans (hb4.mono l3.out.size)
  have F4 := Lib.hid (F3.out.below hb4 F3.out.lt)
  have R4 := Lib.hid (R3.out.below hb4)
  clear hb4 l3 F3 R3
  go_wp2_with fail
  refine (ex_sum _).mono ?_
  rintro e w5 ⟨rfl, hb5⟩
  have l5 : Hid (Below w.heap.size w w5) := l4.out.trans (hb5.mono l4.out.size)
  have F5 := F4.out.below hb5 F4.out.lt
  have R5 := Lib.hid (R4.out.below hb5)
  clear hb5 l4 F4 R4
  have z5 : w1.heap.size < w5.heap.size := F5.lt
  have q1 := F5.cell 0
  have q2 := F5.cell 1
  simp at q1 q2
  clear F5
  go_wp2_with fail
  go_region_held3 (fun w' => w'.cell? ⟨w1.heap.size, 0, none⟩ = some (.int .i64 86400) ∧ w'.cell? ⟨w1.heap.size, 1, none⟩ = some (.int .i64 1) ∧ w1.heap.size < w'.heap.size)
    ((go_split_ands; refine ⟨?_, ?_, ?_⟩ <;> first | assumption | (rw [hb.cell (by first | assumption | (simp; done) | (simp; omega))]; first | assumption | (simp [go_sem]; done)) | exact Nat.lt_of_lt_of_le (by first | assumption | simp) hb.size | (go_keep; done) | (simp; omega)))
    (first
      | (go_at_call 21; refine (whole_any _ _).mono ?_; rintro e w' ⟨rfl, hb⟩)
      | (go_at_call 22; refine (ints_any _ _ _ _ _ _ bits24 bits24 _ ((R5.out.drew.below hb).below ((Below.refl _ _).alloc (Nat.le_refl _) _)) (lit24 _) (by omega) (by omega)).mono ?_; rintro e w' ⟨rfl, kk, rfl⟩))
  go_wp2
  go_ret
  refine ⟨rfl, ?_⟩
  have m1 := (l5.out.drew).trans (hb.mono (by have := l5.out.size; simpa using this))
  have m2 := m1.size
  first
    | exact blw_drewN (m1.alloc m2 _) _
    | exact (blw_drewN m1 _).alloc (by simpa using m2) _

end Go.Proofs.YtjjflbnopphciabDoor

namespace Go.Proofs.YtjjflbnopphciabDoor
open Go.RowKit

end Go.Proofs.YtjjflbnopphciabDoor

namespace Go.Proofs.YtjjflbnopphciabDoor
open Go.ChangeShapes Go.WideShapes Go.ChangeAt Go.RowKit

theorem own : ownKnob Tryd.prog.godebug = none := by kernel_rfl
theorem laidOut : laidOutB Tryd.prog = true := by kernel_rfl
theorem gPred : Tryd.prog.globalNamed "lacquer/transfer.predictors" = some 0 := by kernel_rfl
theorem tPred : (Tryd.prog.globals[0]?).map (·.type) = some 115 := by kernel_rfl
theorem underTab : Tryd.prog.underlying 115 = some (.array 3 114) := by kernel_rfl
theorem underPair : Tryd.prog.underlying 114 = some (.array 2 3) := by kernel_rfl
theorem underInt : Tryd.prog.underlying 3 = some (.int .i64) := by kernel_rfl
theorem cellsInt : Tryd.prog.cellsOf 3 = 1 := by kernel_rfl
theorem cellsPair : Tryd.prog.cellsOf 114 = 2 := by kernel_rfl

/-- What the rows of this seat list: the table of predictors. -/
def laidP : List (String × DataW Unit) := [("lacquer/transfer.predictors", Rows.laid_lacquer_transfer_predictors)]

theorem take_two {α : Type} {l : List α} {k : Nat} {a b : α} (h : (l.drop k).take 2 = [a, b]) : l[k]? = some a ∧ l[k + 1]? = some b := by
  have h0 := congrArg (fun x : List α => x[0]?) h
  have h1 := congrArg (fun x : List α => x[1]?) h
  simp only [List.getElem?_take, List.getElem?_drop] at h0 h1
  exact ⟨by simpa using h0, by simpa using h1⟩

theorem of_laid {W : World} (h : laidMetH Tryd.prog laidP W) : Laid W := by
  rw [MakeChecks.laidMetH_plain _ _ _ (by kernel_rfl)] at h
  obtain ⟨ps, ⟨g0, t0, cs0, f0, p0, q0, hg0, ht0, hv0, hd0, _, _⟩, _, _⟩ := h
  obtain rfl := Option.some.inj (gPred.symm.trans hg0)
  obtain rfl := Option.some.inj (tPred.symm.trans ht0)
  obtain ⟨xs, m, rfl, hx, hlen, hn3, hel⟩ := DataW.trod_array underTab hd0
  simp only [Prod.mk.injEq, DataW.agg.injEq, Rows.laid_lacquer_transfer_predictors] at hx
  have hcell : ∀ j, W.cell? ⟨0, j, none⟩ = cs0.toList[j]? := fun j => by
    have := World.var?_cell hg0 hv0 j
    rw [this]; simp
  match xs, hn3, hx, hel with
  | [x0, x1, x2], _, hx, hel =>
    simp only [List.map_cons, List.map_nil, List.cons.injEq] at hx
    obtain ⟨⟨e0, e1, e2, _⟩, _⟩ := hx
    have row : ∀ (i : Nat) (a b : Int) (x : DataW Unit × List MemPlace), i < 3 → [x0, x1, x2][i]? = some x → x.1 = .agg [.lit (.int .i64 a), .lit (.int .i64 b)] → W.cell? ⟨0, i * 2, none⟩ = some (.int .i64 a) ∧ W.cell? ⟨0, i * 2 + 1, none⟩ = some (.int .i64 b) := by
      intro i a b x hi hxi hx1
      have hq := (hel i hi).trans hxi
      rw [cellsPair] at hq
      obtain ⟨d, pl⟩ := x
      simp only at hx1
      subst hx1
      have := Lib.cells_of_tab (k := .i64) (zs := [a, b]) underPair underInt cellsInt cellsPair (show DataW.trod _ Tryd.prog W 0 _ false m 114 _ = some (Lib.tabData .i64 [a, b], pl) from hq)
      have t := take_two (show List.take 2 (List.drop (i * 2) cs0.toList) = [Value.int .i64 a, Value.int .i64 b] from this)
      rw [hcell, hcell]
      exact t
    have r0 := row 0 0 0 x0 (by omega) rfl e0.symm
    have r1 := row 1 1 0 x1 (by omega) rfl e1.symm
    have r2 := row 2 2 (-1) x2 (by omega) rfl e2.symm
    refine ⟨block_lt_of_cell r0.1, fun p hp => ?_, fun p hp => ?_⟩
    · match p, hp with
      | 0, _ => exact r0.1
      | 1, _ => exact r1.1
      | 2, _ => exact r2.1
    · match p, hp with
      | 0, _ => exact r0.2
      | 1, _ => exact r1.2
      | 2, _ => exact r2.2

theorem door_met (os : Os) (args : Array Value) : laidMetH Tryd.prog laidP ((World.doorLaid Tryd.prog 400 os).forCall (fun _ _ => 0) ⟨#[], args, []⟩).memory :=
  laidMetH_of_parts3 (fuel := 8) (laidMet_of_run' 8 (by kernel_rfl) (by kernel_rfl)) (by kernel_rfl) (by kernel_rfl)

end Go.Proofs.YtjjflbnopphciabDoor

namespace Go.Proofs.YtjjflbnopphciabDoor
open Go.ChangeShapes Go.WideShapes Go.ChangeAt Go.RowKit

theorem len_cons {α : Type} (l : List α) (n : Nat) (h : l.length = n + 1) : ∃ a r, l = a :: r ∧ r.length = n := by
  cases l with
  | nil => simp at h
  | cons a r => exact ⟨a, r, rfl, by simpa using h⟩
theorem len4 {α : Type} (l : List α) (h : l.length = 4) : ∃ a b c d, l = [a, b, c, d] := by
  obtain ⟨a, l0, rfl, h0⟩ := len_cons l 3 h
  obtain ⟨b, l1, rfl, h1⟩ := len_cons l0 2 h0
  obtain ⟨c, l2, rfl, h2⟩ := len_cons l1 1 h1
  obtain ⟨d, l3, rfl, h3⟩ := len_cons l2 0 h2
  obtain rfl := List.eq_nil_of_length_eq_zero h3
  exact ⟨a, b, c, d, rfl⟩
theorem len11 {α : Type} (l : List α) (h : l.length = 11) : ∃ c0 c1 c2 c3 c4 c5 c6 c7 c8 c9 c10, l = [c0, c1, c2, c3, c4, c5, c6, c7, c8, c9, c10] := by
  obtain ⟨c0, l0, rfl, h0⟩ := len_cons l 10 h
  obtain ⟨c1, l1, rfl, h1⟩ := len_cons l0 9 h0
  obtain ⟨c2, l2, rfl, h2⟩ := len_cons l1 8 h1
  obtain ⟨c3, l3, rfl, h3⟩ := len_cons l2 7 h2
  obtain ⟨c4, l4, rfl, h4⟩ := len_cons l3 6 h3
  obtain ⟨c5, l5, rfl, h5⟩ := len_cons l4 5 h4
  obtain ⟨c6, l6, rfl, h6⟩ := len_cons l5 4 h5
  obtain ⟨c7, l7, rfl, h7⟩ := len_cons l6 3 h6
  obtain ⟨c8, l8, rfl, h8⟩ := len_cons l7 2 h7
  obtain ⟨c9, l9, rfl, h9⟩ := len_cons l8 1 h8
  obtain ⟨c10, l10, rfl, h10⟩ := len_cons l9 0 h9
  obtain rfl := List.eq_nil_of_length_eq_zero h10
  exact ⟨c0, c1, c2, c3, c4, c5, c6, c7, c8, c9, c10, rfl⟩

set_option maxRecDepth 100000 in
/-- A block as it comes in: eleven integers. -/
theorem open11 {H : Type} {enc : TypeId × Value → H} {w : World} {base : Nat} {spare : Nat → Bool} {held : Bool} {r : Reach} {b0 : Nat} {v : Value} {d : DataW H} {p : List MemPlace}
    (hv : Value.okWide Tryd.prog w r b0 58 v) (h : DataW.Trod enc Tryd.prog w base spare held 58 v d p) :
    ∃ c h x0 x1 x2 x3 x4 x5 x6 x7 s : Int, v = .agg #[.int .i64 c, .int .i64 h, .int .i64 x0, .int .i64 x1, .int .i64 x2, .int .i64 x3, .int .i64 x4, .int .i64 x5, .int .i64 x6, .int .i64 x7, .int .i64 s] := by
  obtain ⟨cs, rfl, hsz⟩ := okWide_struct Tryd.underlying58 hv
  obtain ⟨fuel, hf⟩ := h
  obtain ⟨xs, n, _, _, hl, hxl, hg⟩ := DataW.trod_struct Tryd.underlying58 hf
  have h11 : Tryd.prog.cellsOf 58 = 11 := by kernel_rfl
  have h8 : Tryd.prog.cellsOf 34 = 8 := by kernel_rfl
  obtain ⟨l⟩ := cs
  have hl11 : l.length = 11 := by rw [← h11]; simpa using hsz
  obtain ⟨c0, c1, c2, c3, c4, c5, c6, c7, c8, c9, c10, rfl⟩ := len11 l hl11
  · obtain ⟨y0, y1, y2, y3, rfl⟩ := len4 xs hxl
    · have hd : True := trivial
      have g0 := hg 0 _ rfl
      have g1 := hg 1 _ rfl
      have g2 := hg 2 _ rfl
      have g3 := hg 3 _ rfl
      simp [Value.cells, cellsInt, h8] at g0 g1 g2 g3
      obtain ⟨z0, e0, _⟩ := DataW.trod_int Tryd.underlying3 g0
      obtain ⟨z1, e1, _⟩ := DataW.trod_int Tryd.underlying3 g1
      obtain ⟨z10, e10, _⟩ := DataW.trod_int Tryd.underlying3 g3
      obtain ⟨us, m, _, _, _, hul, hel⟩ := DataW.trod_array arrUnder g2
      have el : ∀ i, i < 8 → ∃ z : Int, [c2, c3, c4, c5, c6, c7, c8, c9][i]? = some (.int .i64 z) := by
        intro i hi
        have q := hel i hi
        rw [cellsInt, List.getElem?_eq_getElem (show i < us.length by omega)] at q
        obtain ⟨z, e, _⟩ := DataW.trod_int Tryd.underlying3 q
        refine ⟨z, ?_⟩
        have := congrArg (fun x : List Value => x[0]?) e
        simp only [List.getElem?_take, List.getElem?_drop] at this
        simpa using this
      obtain ⟨z2, e2⟩ := el 0 (by omega)
      obtain ⟨z3, e3⟩ := el 1 (by omega)
      obtain ⟨z4, e4⟩ := el 2 (by omega)
      obtain ⟨z5, e5⟩ := el 3 (by omega)
      obtain ⟨z6, e6⟩ := el 4 (by omega)
      obtain ⟨z7, e7⟩ := el 5 (by omega)
      obtain ⟨z8, e8⟩ := el 6 (by omega)
      obtain ⟨z9, e9⟩ := el 7 (by omega)
      simp at e0 e1 e2 e3 e4 e5 e6 e7 e8 e9 e10
      exact ⟨z0, z1, z2, z3, z4, z5, z6, z7, z8, z9, z10, by rw [e0, e1, e2, e3, e4, e5, e6, e7, e8, e9, e10]⟩

end Go.Proofs.YtjjflbnopphciabDoor

namespace Go.Proofs.YtjjflbnopphciabDoor
open Go.ChangeShapes Go.WideShapes Go.ChangeAt Go.RowKit

theorem okWide_array {P : Program} {w : World} {r : Reach} {base : Nat} {t : TypeId} {v : Value} {n : Nat} {e : TypeId} (ht : P.underlying t = some (.array n e)) (h : Value.okWide P w r base t v) : ∃ cs, v = .agg cs ∧ cs.size = P.cellsOf t := by
  simp only [Value.okWide, ht] at h
  obtain ⟨cs, h1, h2, _⟩ := h
  exact ⟨cs, h1, h2⟩

theorem len8 {α : Type} (l : List α) (h : l.length = 8) : ∃ c0 c1 c2 c3 c4 c5 c6 c7, l = [c0, c1, c2, c3, c4, c5, c6, c7] := by
  obtain ⟨c0, l0, rfl, h0⟩ := len_cons l 7 h
  obtain ⟨c1, l1, rfl, h1⟩ := len_cons l0 6 h0
  obtain ⟨c2, l2, rfl, h2⟩ := len_cons l1 5 h1
  obtain ⟨c3, l3, rfl, h3⟩ := len_cons l2 4 h2
  obtain ⟨c4, l4, rfl, h4⟩ := len_cons l3 3 h3
  obtain ⟨c5, l5, rfl, h5⟩ := len_cons l4 2 h4
  obtain ⟨c6, l6, rfl, h6⟩ := len_cons l5 1 h5
  obtain ⟨c7, l7, rfl, h7⟩ := len_cons l6 0 h6
  obtain rfl := List.eq_nil_of_length_eq_zero h7
  exact ⟨c0, c1, c2, c3, c4, c5, c6, c7, rfl⟩

set_option maxRecDepth 100000 in
/-- Eight samples as they come in. -/
theorem open8 {H : Type} {enc : TypeId × Value → H} {w : World} {base : Nat} {spare : Nat → Bool} {held : Bool} {r : Reach} {b0 : Nat} {v : Value} {d : DataW H} {p : List MemPlace}
    (hv : Value.okWide Tryd.prog w r b0 34 v) (h : DataW.Trod enc Tryd.prog w base spare held 34 v d p) :
    ∃ x0 x1 x2 x3 x4 x5 x6 x7 : Int, v = .agg #[.int .i64 x0, .int .i64 x1, .int .i64 x2, .int .i64 x3, .int .i64 x4, .int .i64 x5, .int .i64 x6, .int .i64 x7] := by
  obtain ⟨cs, rfl, hsz⟩ := okWide_array arrUnder hv
  obtain ⟨fuel, hf⟩ := h
  have h8 : Tryd.prog.cellsOf 34 = 8 := by kernel_rfl
  obtain ⟨l⟩ := cs
  have hl8 : l.length = 8 := by rw [← h8]; simpa using hsz
  obtain ⟨us, m, _, _, _, hul, hel⟩ := DataW.trod_array arrUnder hf
  obtain ⟨c0, c1, c2, c3, c4, c5, c6, c7, rfl⟩ := len8 l hl8
  have el : ∀ i, i < 8 → ∃ z : Int, [c0, c1, c2, c3, c4, c5, c6, c7][i]? = some (.int .i64 z) := by
    intro i hi
    have q := hel i hi
    rw [cellsInt, List.getElem?_eq_getElem (show i < us.length by omega)] at q
    obtain ⟨z, e, _⟩ := DataW.trod_int Tryd.underlying3 q
    refine ⟨z, ?_⟩
    have := congrArg (fun x : List Value => x[0]?) e
    simp only [List.getElem?_take, List.getElem?_drop] at this
    simpa [Value.cells] using this
  obtain ⟨z0, e0⟩ := el 0 (by omega)
  obtain ⟨z1, e1⟩ := el 1 (by omega)
  obtain ⟨z2, e2⟩ := el 2 (by omega)
  obtain ⟨z3, e3⟩ := el 3 (by omega)
  obtain ⟨z4, e4⟩ := el 4 (by omega)
  obtain ⟨z5, e5⟩ := el 5 (by omega)
  obtain ⟨z6, e6⟩ := el 6 (by omega)
  obtain ⟨z7, e7⟩ := el 7 (by omega)
  simp at e0 e1 e2 e3 e4 e5 e6 e7
  exact ⟨z0, z1, z2, z3, z4, z5, z6, z7, by rw [e0, e1, e2, e3, e4, e5, e6, e7]⟩

end Go.Proofs.YtjjflbnopphciabDoor

namespace Go.Proofs.YtjjflbnopphciabDoor

/-- The number that bits are, the most significant one first. -/
def numT (l : List Int) : Int := l.foldl (fun n b => 2 * n + b) 0

theorem numT_snoc (l : List Int) (b : Int) : numT (l ++ [b]) = 2 * numT l + b := by simp [numT]
theorem bitsOf_succ (m c : Nat) : bitsOf m (c + 1) = bitsOf (m / 2) c ++ [((m % 2 : Nat) : Int)] := by
  unfold bitsOf
  rw [List.range_succ, List.map_append]
  congr 1
  · apply List.map_congr_left
    intro i hi
    have hi := List.mem_range.1 hi
    have e : c + 1 - 1 - i = (c - 1 - i) + 1 := by omega
    rw [e, Nat.pow_succ, Nat.mul_comm, Nat.div_div_eq_div_mul]
  · simp
theorem numT_bitsOf (m c : Nat) : numT (bitsOf m c) = ((m % 2 ^ c : Nat) : Int) := by
  induction c generalizing m with
  | zero => simp [bitsOf, numT, Nat.mod_one]
  | succ c ih =>
    rw [bitsOf_succ, numT_snoc, ih]
    have : m % 2 ^ (c + 1) = 2 * (m / 2 % 2 ^ c) + m % 2 := by
      rw [Nat.pow_succ, Nat.mul_comm (2 ^ c) 2, Nat.mod_mul]
      omega
    rw [this]
    simp

def Bits01 (l : List Int) : Prop := ∀ x ∈ l, x = 0 ∨ x = 1
theorem bitsOf_01 (m c : Nat) : Bits01 (bitsOf m c) := by
  intro x hx
  simp only [bitsOf, List.mem_map] at hx
  obtain ⟨i, _, rfl⟩ := hx
  omega

theorem numT_bd (l : List Int) (h : Bits01 l) : 0 ≤ numT l ∧ numT l < 2 ^ l.length := by
  unfold numT
  have key : ∀ (l : List Int) (n : Int) (c : Nat), Bits01 l → 0 ≤ n → n < 2 ^ c → 0 ≤ l.foldl (fun n b => 2 * n + b) n ∧ l.foldl (fun n b => 2 * n + b) n < 2 ^ (c + l.length) := by
    intro l
    induction l with
    | nil => intro n c _ h0 h1; simpa using ⟨h0, h1⟩
    | cons b l ih =>
      intro n c h h0 h1
      have hb := h b (by simp)
      have := ih (2 * n + b) (c + 1) (fun x hx => h x (by simp [hx])) (by omega) (by rw [Int.pow_succ]; omega)
      simpa [Nat.add_assoc, Nat.add_comm 1 l.length] using this
  have := key l 0 0 h (by omega) (by simp)
  simpa using this

/-- How many bits stand before the first zero. -/
def onesL (l : List Int) : Nat := l.findIdx (· == 0)
theorem onesL_le (l : List Int) : onesL l ≤ l.length := List.findIdx_le_length
theorem onesL_code (q : Nat) (r : List Int) : onesL (List.replicate q 1 ++ (0 :: r)) = q := by
  unfold onesL
  induction q with
  | zero => simp [List.findIdx_cons]
  | succ q ih => simp [List.replicate_succ, List.findIdx_cons, ih]
theorem onesL_none (q : Nat) : onesL (List.replicate q 1) = q := by
  unfold onesL
  induction q with
  | zero => simp
  | succ q ih => simp [List.replicate_succ, List.findIdx_cons, ih]

def stepU (l : List Int) (k : Nat) : Int := onesL l * 2 ^ k + numT ((l.drop (onesL l + 1)).take k)
def stepR (l : List Int) (k : Nat) : List Int := l.drop (onesL l + 1 + k)
def stepOk (l : List Int) (k : Nat) : Bool := decide (onesL l + 1 + k ≤ l.length)

/-- What i codes are, what is left behind them, and whether they are there. -/
def restR (l : List Int) (k : Nat) : Nat → List Int
  | 0 => l
  | i + 1 => stepR (restR l k i) k
def okR (l : List Int) (k : Nat) : Nat → Bool
  | 0 => true
  | i + 1 => okR l k i && stepOk (restR l k i) k
def numsU (l : List Int) (k : Nat) : Nat → List Int
  | 0 => []
  | i + 1 => numsU l k i ++ [stepU (restR l k i) k]

theorem numsU_length (l : List Int) (k i : Nat) : (numsU l k i).length = i := by
  induction i with
  | zero => rfl
  | succ i ih => simp [numsU, ih]
theorem okR_mono (l : List Int) (k i j : Nat) (hij : i ≤ j) (h : okR l k j = true) : okR l k i = true := by
  induction j with
  | zero => obtain rfl : i = 0 := by omega
            exact h
  | succ j ih =>
    rcases Nat.lt_or_ge i (j + 1) with hc | hc
    · simp only [okR, Bool.and_eq_true] at h; exact ih (by omega) h.1
    · obtain rfl : i = j + 1 := by omega
      exact h

theorem stepU_code (u k : Nat) (r : List Int) : stepU (codeU u k ++ r) k = u := by
  have e : codeU u k ++ r = List.replicate (u / 2 ^ k) 1 ++ (0 :: (bitsOf u k ++ r)) := by simp [codeU]
  unfold stepU
  rw [e, onesL_code]
  have e2 : (List.replicate (u / 2 ^ k) (1 : Int) ++ (0 :: (bitsOf u k ++ r))).drop (u / 2 ^ k + 1) = bitsOf u k ++ r := by
    rw [List.drop_append]
    simp
  rw [e2, List.take_append_of_le_length (by rw [bitsOf_length]; omega), List.take_of_length_le (by rw [bitsOf_length]; omega), numT_bitsOf]
  have := Nat.div_add_mod u (2 ^ k)
  rw [Nat.mul_comm] at this
  have h2 : ((u / 2 ^ k * 2 ^ k + u % 2 ^ k : Nat) : Int) = u := by rw [this]
  simpa using h2
theorem stepR_code (u k : Nat) (r : List Int) : stepR (codeU u k ++ r) k = r := by
  have e : codeU u k ++ r = List.replicate (u / 2 ^ k) 1 ++ (0 :: (bitsOf u k ++ r)) := by simp [codeU]
  unfold stepR
  have h1 : onesL (codeU u k ++ r) = u / 2 ^ k := by rw [e, onesL_code]
  rw [h1, List.drop_append, List.drop_of_length_le (by rw [codeU_length]; omega), codeU_length]
  simp
theorem stepOk_code (u k : Nat) (r : List Int) : stepOk (codeU u k ++ r) k = true := by
  have e : codeU u k ++ r = List.replicate (u / 2 ^ k) 1 ++ (0 :: (bitsOf u k ++ r)) := by simp [codeU]
  unfold stepOk
  have h1 : onesL (codeU u k ++ r) = u / 2 ^ k := by rw [e, onesL_code]
  rw [h1, List.length_append, codeU_length]
  simp
theorem stepOk_cut (u k : Nat) : stepOk (codeU u k).dropLast k = false := by
  unfold stepOk
  have hl : (codeU u k).dropLast.length = u / 2 ^ k + k := by rw [List.length_dropLast, codeU_length]; generalize u / 2 ^ k = q; omega
  have h1 : onesL (codeU u k).dropLast = u / 2 ^ k := by
    cases k with
    | zero =>
      have e : (codeU u 0).dropLast = List.replicate (u / 2 ^ 0) 1 := by simp [codeU, bitsOf, List.dropLast_append]
      rw [e, onesL_none]
    | succ k =>
      have e : (codeU u (k + 1)).dropLast = List.replicate (u / 2 ^ (k + 1)) 1 ++ (0 :: bitsOf (u / 2) k) := by
        have e0 : codeU u (k + 1) = (List.replicate (u / 2 ^ (k + 1)) 1 ++ (0 :: bitsOf (u / 2) k)) ++ [((u % 2 : Nat) : Int)] := by
          simp [codeU, bitsOf_succ]
        rw [e0, List.dropLast_concat]
      rw [e, onesL_code]
  rw [h1, hl]
  simp

end Go.Proofs.YtjjflbnopphciabDoor

namespace Go.Proofs.YtjjflbnopphciabDoor

def unfold1 (u : Int) : Int := if u % 2 = 1 then -(u / 2) - 1 else u / 2
theorem unfold_fold (r : Int) : unfold1 (fold1 r) = r := by
  unfold unfold1 fold1
  split <;> split <;> omega

/-- The first samples that residuals stand for. -/
def unfT (us : List Int) (p : Nat) : Nat → List Int
  | 0 => []
  | i + 1 => unfT us p i ++ [expd (unfT us p i) i p + unfold1 (us.getD i 0)]
theorem unfT_length (us : List Int) (p i : Nat) : (unfT us p i).length = i := by
  induction i with
  | zero => rfl
  | succ i ih => simp [unfT, ih]

theorem expd_congr (xs ys : List Int) (i p : Nat) (h : ∀ j, j < i → xs.getD j 0 = ys.getD j 0) : expd xs i p = expd ys i p := by
  unfold expd expd2 expT
  congr 1
  · split
    · rw [h _ (by omega)]
    · rfl
  · split
    · rw [h _ (by omega)]
    · rfl

theorem unfT_fold (xs : List Int) (p i : Nat) (hx : xs.length = 8) (hi : i ≤ 8) : unfT (foldeds xs p) p i = xs.take i := by
  induction i with
  | zero => simp [unfT]
  | succ i ih =>
    have ih := ih (by omega)
    have e : expd (xs.take i) i p = expd xs i p := expd_congr _ _ _ _ fun j hj => by
      simp [List.getD_eq_getElem?_getD, List.getElem?_take, hj]
    simp only [unfT]
    rw [ih, e, foldeds_at xs p i (by omega), unfold_fold, List.take_succ_eq_append_getElem (by omega)]
    congr 2
    simp [List.getD_eq_getElem?_getD, List.getElem?_eq_getElem (show i < xs.length by omega)]
    omega

theorem read_codes (us : List Int) (k j : Nat) (r : List Int) (hs : Small us) (hj : j ≤ us.length) :
    restR (codesTo us k j ++ r) k j = r ∧ numsU (codesTo us k j ++ r) k j = us.take j ∧ okR (codesTo us k j ++ r) k j = true := by
  induction j generalizing r with
  | zero => simp [codesTo, restR, numsU, okR]
  | succ j ih =>
    obtain ⟨h1, h2, h3⟩ := ih (codeU (us.getD j 0).toNat k ++ r) (by omega)
    have e : codesTo us k (j + 1) ++ r = codesTo us k j ++ (codeU (us.getD j 0).toNat k ++ r) := by simp [codesTo]
    rw [e]
    refine ⟨?_, ?_, ?_⟩
    · simp only [restR]; rw [h1, stepR_code]
    · simp only [numsU]
      rw [h1, h2, stepU_code, List.take_succ_eq_append_getElem (by omega)]
      congr 2
      have := (hs j).1
      have e2 : us.getD j 0 = us[j] := by simp [List.getD_eq_getElem?_getD, List.getElem?_eq_getElem (show j < us.length by omega)]
      rw [← e2]
      omega
    · simp only [okR]; rw [h1, h3, stepOk_code]; rfl

theorem read_cut (us : List Int) (k : Nat) (hs : Small us) (hl : us.length = 8) : okR (codesTo us k 8).dropLast k 8 = false := by
  have e : (codesTo us k 8).dropLast = codesTo us k 7 ++ (codeU (us.getD 7 0).toNat k).dropLast := by
    show (codesTo us k 7 ++ codeU (us.getD 7 0).toNat k).dropLast = _
    exact List.dropLast_append_of_ne_nil (by simp [codeU])
  obtain ⟨h1, _, _⟩ := read_codes us k 7 (codeU (us.getD 7 0).toNat k).dropLast hs (by omega)
  rw [e]
  simp only [okR.eq_2 _ _ 7]
  rw [h1, stepOk_cut, Bool.and_false]

theorem stepS_le (xs : List Int) (s : Nat × Nat × Int) (p k : Nat) : (stepS xs s p k).2.2 ≤ s.2.2 ∧ (stepS xs s p k).2.2 ≤ bitsF (foldeds xs p) k := by
  unfold stepS
  split
  · exact ⟨by simp; omega, by simp⟩
  · exact ⟨by omega, by omega⟩
theorem innerS_le (xs : List Int) (s : Nat × Nat × Int) (p k : Nat) : (innerS xs s p k).2.2 ≤ s.2.2 ∧ ∀ j, j < k → (innerS xs s p k).2.2 ≤ bitsF (foldeds xs p) j := by
  induction k with
  | zero => exact ⟨by simp [innerS], fun j hj => by omega⟩
  | succ k ih =>
    have h := stepS_le xs (innerS xs s p k) p k
    refine ⟨Int.le_trans h.1 ih.1, fun j hj => ?_⟩
    rcases Nat.lt_or_ge j k with hc | hc
    · exact Int.le_trans h.1 (ih.2 j hc)
    · obtain rfl : j = k := by omega
      exact h.2
theorem outerS_le (xs : List Int) (s : Nat × Nat × Int) (p : Nat) : ∀ q, q < p → ∀ j, j < 18 → (outerS xs s p).2.2 ≤ bitsF (foldeds xs q) j := by
  induction p with
  | zero => intro q hq; omega
  | succ p ih =>
    intro q hq j hj
    have h := innerS_le xs (outerS xs s p) p 18
    rcases Nat.lt_or_ge q p with hc | hc
    · exact Int.le_trans h.1 (ih q hc j hj)
    · obtain rfl : q = p := by omega
      exact h.2 j hj

theorem packT_length (xs : List Int) (hb : Bnd xs 32767) : ((packT xs).length : Int) = bitsF (foldeds xs (shortS xs).1) (shortS xs).2.1 := by
  unfold packT bitsF
  have := packW_length (foldeds xs (shortS xs).1) (shortS xs).1 (shortS xs).2.1 8 (foldeds_small xs _ hb) (by rw [foldeds_length]; omega)
  exact this
theorem packT_least (xs : List Int) (hb : Bnd xs 32767) (p k : Nat) (hp : p < 3) (hk : k < 18) : ((packT xs).length : Int) ≤ bitsF (foldeds xs p) k := by
  have e := packT_length xs hb
  have g := (shortS_good xs).2.2
  have l : (shortS xs).2.2 ≤ bitsF (foldeds xs p) k := by rw [shortS]; exact outerS_le xs (startS xs) 3 p hp k hk
  generalize shortS xs = s at e g l
  rw [e, ← g]
  exact l

theorem bitsTo_le (us : List Int) (k j : Nat) (M : Int) (hj : j ≤ us.length) (h : ∀ i, i < us.length → us.getD i 0 / 2 ^ k ≤ M) : bitsTo us k j ≤ 7 + (M + 1 + k) * j := by
  induction j with
  | zero => rw [bitsTo_zero]; simp
  | succ j ih =>
    rw [bitsTo_step us k j (by omega)]
    have a := ih (by omega)
    have b := h j (by omega)
    have e : (M + 1 + (k : Int)) * ((j + 1 : Nat) : Int) = (M + 1 + k) * j + (M + 1 + k) := by
      rw [Int.natCast_add, Int.mul_add]; simp
    rw [e]
    omega
theorem bitsTo_ge (us : List Int) (k j : Nat) (hj : j ≤ us.length) (hs : Small us) : 7 + (j : Int) ≤ bitsTo us k j := by
  induction j with
  | zero => rw [bitsTo_zero]; simp
  | succ j ih =>
    rw [bitsTo_step us k j (by omega)]
    have a := ih (by omega)
    have b := quo_bd (us.getD j 0) k (hs j).1 (hs j).2
    omega
theorem packT_bd (xs : List Int) (hb : Bnd xs 32767) : 15 ≤ (packT xs).length ∧ (packT xs).length ≤ 159 := by
  refine ⟨?_, ?_⟩
  · have h1 := packT_length xs hb
    have h2 := bitsTo_ge (foldeds xs (shortS xs).1) (shortS xs).2.1 8 (by rw [foldeds_length]; omega) (foldeds_small xs _ hb)
    unfold bitsF at h1
    omega
  · have h1 := packT_least xs hb 0 16 (by omega) (by omega)
    have h2 := bitsTo_le (foldeds xs 0) 16 8 0 (by rw [foldeds_length]; omega) (fun i hi => by
      rw [foldeds_length] at hi
      rw [foldeds_at xs 0 i hi]
      have e : expd xs i 0 = 0 := by
        unfold expd expd2 expT pred0 pred1
        simp
      have := hb i
      rw [e]
      unfold fold1
      split <;> omega)
    unfold bitsF at h1
    omega

theorem headB_two (p k : Nat) (r : List Int) : (headB p k ++ r).take 2 = bitsOf p 2 := by
  unfold headB
  rw [List.append_assoc, List.take_append_of_le_length (by rw [bitsOf_length]; omega), List.take_of_length_le (by rw [bitsOf_length]; omega)]
theorem headB_five (p k : Nat) (r : List Int) : ((headB p k ++ r).drop 2).take 5 = bitsOf k 5 := by
  unfold headB
  rw [List.append_assoc, List.drop_append, List.drop_of_length_le (by rw [bitsOf_length]; omega), bitsOf_length]
  rw [List.nil_append, Nat.sub_self, List.drop_zero, List.take_append_of_le_length (by rw [bitsOf_length]; omega), List.take_of_length_le (by rw [bitsOf_length]; omega)]
theorem headB_rest (p k : Nat) (r : List Int) : (headB p k ++ r).drop 7 = r := by
  rw [List.drop_append, List.drop_of_length_le (by rw [headB_length]; omega), headB_length]
  simp
theorem codeU_01 (u k : Nat) : Bits01 (codeU u k) := by
  intro x hx
  simp only [codeU, List.mem_append, List.mem_cons] at hx
  rcases hx with hx | hx | hx
  · exact .inr (List.eq_of_mem_replicate hx)
  · exact .inl hx
  · exact bitsOf_01 u k x hx
theorem codesTo_01 (us : List Int) (k i : Nat) : Bits01 (codesTo us k i) := by
  induction i with
  | zero => intro x hx; simp [codesTo] at hx
  | succ i ih =>
    intro x hx
    simp only [codesTo, List.mem_append] at hx
    exact hx.elim (ih x) (codeU_01 _ _ x)
theorem packT_01 (xs : List Int) : Bits01 (packT xs) := by
  intro x hx
  simp only [packT, packW, headB, List.mem_append] at hx
  rcases hx with (hx | hx) | hx
  · exact bitsOf_01 _ _ x hx
  · exact bitsOf_01 _ _ x hx
  · exact codesTo_01 _ _ _ x hx

end Go.Proofs.YtjjflbnopphciabDoor

namespace Go.Proofs.YtjjflbnopphciabDoor

/-- What BitsOf has made: zeros, and then the last bits of a number. -/
def bitRow (m c t : Nat) : List Int := List.replicate t 0 ++ (bitsOf m c).drop t
theorem bitRow_length (m c t : Nat) (h : t ≤ c) : (bitRow m c t).length = c := by
  simp only [bitRow, List.length_append, List.length_replicate, List.length_drop, bitsOf_length]; omega
theorem bitRow_zero (m c : Nat) : bitRow m c 0 = bitsOf m c := by simp [bitRow]
theorem bitRow_all (m c : Nat) : bitRow m c c = List.replicate c 0 := by
  simp [bitRow, bitsOf_length]
theorem bitRow_set (m c t : Nat) (h : t < c) : (bitRow m c (t + 1)).set t ((m / 2 ^ (c - 1 - t) % 2 : Nat) : Int) = bitRow m c t := by
  have e1 : bitRow m c (t + 1) = List.replicate t 0 ++ (0 :: (bitsOf m c).drop (t + 1)) := by
    simp [bitRow, List.replicate_succ', List.append_assoc]
  have e2 : (bitsOf m c).drop t = ((m / 2 ^ (c - 1 - t) % 2 : Nat) : Int) :: (bitsOf m c).drop (t + 1) := by
    rw [List.drop_eq_getElem_cons (by rw [bitsOf_length]; exact h)]
    congr 1
    simp [bitsOf]
  rw [e1, bitRow, e2, List.set_append_right _ _ (by simp)]
  simp

theorem bitsOf_mod (m c : Nat) : bitsOf (m % 2 ^ c) c = bitsOf m c := by
  induction c generalizing m with
  | zero => simp [bitsOf]
  | succ c ih =>
    have e : m % 2 ^ (c + 1) = m % 2 + 2 * (m / 2 % 2 ^ c) := by rw [Nat.pow_succ, Nat.mul_comm (2 ^ c) 2, Nat.mod_mul]
    have e1 : m % 2 ^ (c + 1) / 2 = m / 2 % 2 ^ c := by rw [e]; omega
    have e2 : m % 2 ^ (c + 1) % 2 = m % 2 := by rw [e]; omega
    rw [bitsOf_succ, bitsOf_succ, e1, e2, ih]

def pw (k : Nat) : Int := 2 ^ k
theorem pw_bd (k : Nat) (h : k ≤ 17) : 1 ≤ pw k ∧ pw k ≤ 131072 := by
  unfold pw
  exact (by decide : ∀ j : Fin 18, 1 ≤ (2 : Int) ^ j.val ∧ (2 : Int) ^ j.val ≤ 131072) ⟨k, by omega⟩
theorem pw_succ (k : Nat) : pw (k + 1) = 2 * pw k := by unfold pw; rw [Int.pow_succ]; omega

theorem pw_nat (k : Nat) : pw k = ((2 ^ k : Nat) : Int) := by unfold pw; simp
theorem expd_zero (xs : List Int) (i : Nat) : expd xs i 0 = 0 := by unfold expd expd2 expT pred0 pred1; simp
theorem expd_one_first (xs : List Int) : expd xs 0 1 = 0 := by unfold expd expd2 expT pred0 pred1; simp
theorem expd_one (xs : List Int) (q : Nat) : expd xs (q + 1) 1 = xs.getD q 0 := by
  unfold expd expd2 expT pred0 pred1
  simp
theorem expd_two_first (xs : List Int) : expd xs 0 2 = 0 := by unfold expd expd2 expT pred0 pred1; simp
theorem expd_two_second (xs : List Int) : expd xs 1 2 = 2 * xs.getD 0 0 := by unfold expd expd2 expT pred0 pred1; simp
theorem expd_two (xs : List Int) (q : Nat) : expd xs (q + 2) 2 = 2 * xs.getD (q + 1) 0 - xs.getD q 0 := by
  unfold expd expd2 expT pred0 pred1
  simp
  omega

end Go.Proofs.YtjjflbnopphciabDoor

namespace Go.Proofs.YtjjflbnopphciabDoor
open Go.RowKit

/-- Integers as cells. -/
def iArr (xs : List Int) : Array Value := (xs.map (Value.int .i64)).toArray
theorem iArr_size (xs : List Int) : (iArr xs).size = xs.length := by simp [iArr]
theorem iArr_at (xs : List Int) (i : Nat) (h : i < xs.length) : (iArr xs)[i]? = some (.int .i64 (xs.getD i 0)) := by
  simp [iArr, List.getElem?_toArray, List.getD_eq_getElem?_getD, List.getElem?_eq_getElem h]
theorem iArr_set (xs : List Int) (i : Nat) (v : Int) : (iArr xs).setIfInBounds i (.int .i64 v) = iArr (xs.set i v) := by
  simp [iArr, List.map_set]
theorem arrR_zero (c : Nat) : arrR c 0 = iArr (List.replicate c 0) := by
  simp [arrR, rowR, repL, iArr]

theorem rd8 (arr : Array Value) (xs : List Int) (w : World) (t : TypeId) (h : Is8 arr xs) : RdI (w.alloc (.cells arr t)) (some ⟨w.heap.size, 0, none⟩) 8 xs := by
  refine ⟨h.len, fun _ => ⟨_, rfl, by simp, fun j hj => ?_⟩⟩
  have hadd : (⟨w.heap.size, 0, none⟩ : Addr).add j = ⟨w.heap.size, j, none⟩ := by unfold Addr.add; split <;> simp_all
  rw [hadd, cell_of_row _ _ j arr _ (0, 0) (heap_alloc_new w _)]
  exact h.at_ j hj

theorem rangesE_smpB (xs : List Int) : rangesE xs (-32767) 32767 = if smpB xs then 0 else 2 := by
  unfold smpB
  rcases rangesE_cases xs (-32767) 32767 with e | e <;> simp [e]

theorem samplesErr_any (arr : Array Value) (xs : List Int) (w : World) (h : Is8 arr xs) :
    Calls Tryd.prog 23 #[.agg arr] w fun e w' => e = .returned (.int .i64 (rangesE xs (-32767) 32767)) ∧ Below w.heap.size w w' := by
  obtain ⟨b, hb⟩ : ∃ b, smpB xs = b := ⟨_, rfl⟩
  have hre := rangesE_smpB xs
  rw [hb] at hre
  have HRE := Lib.hid hre
  have C3 : Hid (∀ cap, Calls Tryd.prog 56 #[.slice (some ⟨w.heap.size, 0, none⟩) 8 cap] (w.alloc (.cells arr 34)) fun e w' => e = .returned (.bool b) ∧ (w.alloc (.cells arr 34)) = w') := fun cap => by rw [← hb]; exact areSamples_any _ 8 cap _ _ (rd8 arr xs w _ h) (by omega)
  clear h hb hre
  cases b
  all_goals
    go_enter Tryd.func23, Tryd.ntmps23
    go_wp2_with (go_at_call 56; refine (C3.out _).mono ?_; rintro e w' ⟨rfl, rfl⟩)
    go_ret
    exact ⟨by rw [HRE.out]; rfl, (Below.refl _ _).alloc (Nat.le_refl _) _⟩

def parE (p k : Int) : Int := if inB p 0 2 && inB k 0 17 then 0 else 2

end Go.Proofs.YtjjflbnopphciabDoor

namespace Go.Proofs.YtjjflbnopphciabDoor
open Go.RowKit

theorem cell8 (arr : Array Value) (xs : List Int) (w : World) (t : TypeId) (h : Is8 arr xs) (q : Nat) (hq : q < 8) (a : Int) (ha : xs.getD q 0 = a) :
    (w.alloc (.cells arr t)).cell? ⟨w.heap.size, q, none⟩ = some (.int .i64 a) := by
  rw [cell_of_row _ _ q arr _ (0, 0) (heap_alloc_new w _), h.at_ q hq, ha]

end Go.Proofs.YtjjflbnopphciabDoor

namespace Go.Proofs.YtjjflbnopphciabDoor
open Go.RowKit

end Go.Proofs.YtjjflbnopphciabDoor

namespace Go.Proofs.YtjjflbnopphciabDoor
open Go.RowKit

theorem own_of_bk {w : World} {base g : Nat} {xs : List Int} (n : Nat) (h : Bk w g 3 (iArr xs)) (hn : xs.length = n) (hb : base ≤ g) (hm : n ≤ 10000000) : w.ownsRow base 3 1 (.slice (some ⟨g, 0, none⟩) n n) n (xs.map (Value.int .i64)) := by
  refine ⟨by simp [hn], .inr ⟨g, n, iArr xs, rfl, hb, h, Nat.le_refl _, by unfold maxLen; omega, by rw [iArr_size]; omega, ?_⟩⟩
  have e : (iArr xs).toList = xs.map (Value.int .i64) := by simp [iArr]
  rw [e, List.take_of_length_le (by simp; omega)]
theorem src_of_bk {w : World} {g : Nat} {xs : List Int} (h : Bk w g 3 (iArr xs)) : ∀ j u, (xs.map (Value.int .i64))[j]? = some u → w.cell? ((⟨g, 0, none⟩ : Addr).add j) = some u := by
  intro j u hu
  have hadd : (⟨g, 0, none⟩ : Addr).add j = ⟨g, j, none⟩ := by unfold Addr.add; split <;> simp_all
  rw [hadd, h.cell]
  simpa [iArr, List.getElem?_toArray] using hu
theorem one_ints (xs : List Int) : ∀ u ∈ xs.map (Value.int .i64), u.oneCell' = true := by
  intro u hu
  obtain ⟨x, _, rfl⟩ := List.mem_map.1 hu
  rfl

theorem src_one (w : World) (v : Value) (t : TypeId) : ∀ j u, [v][j]? = some u → (w.alloc (.cells #[v] t)).cell? ((⟨w.heap.size, 0, none⟩ : Addr).add j) = some u := by
  intro j u hu
  match j, hu with
  | 0, hu =>
    simp at hu
    subst hu
    have hadd : (⟨w.heap.size, 0, none⟩ : Addr).add 0 = ⟨w.heap.size, 0, none⟩ := by unfold Addr.add; split <;> simp_all
    rw [hadd, cell_of_row _ _ 0 #[v] _ (0, 0) (heap_alloc_new w _)]
    rfl
theorem one_one (x : Int) : ∀ u ∈ [Value.int .i64 x], u.oneCell' = true := by
  intro u hu
  simp at hu
  subst hu
  rfl

end Go.Proofs.YtjjflbnopphciabDoor

namespace Go.Proofs.YtjjflbnopphciabDoor
open Go.RowKit

theorem getD_cases (l : List Int) (k : Nat) (h : Bits01 l) : l.getD k 0 = 0 ∨ l.getD k 0 = 1 := by
  rcases Nat.lt_or_ge k l.length with hk | hk
  · have e : l.getD k 0 = l[k] := by simp [List.getD_eq_getElem?_getD, List.getElem?_eq_getElem hk]
    rw [e]; exact h _ (List.getElem_mem hk)
  · left; simp [List.getD_eq_getElem?_getD, List.getElem?_eq_none hk]
theorem take_snoc' (l : List Int) (k : Nat) (h : k < l.length) : l.take (k + 1) = l.take k ++ [l.getD k 0] := by
  rw [List.take_succ_eq_append_getElem h]
  simp [List.getD_eq_getElem?_getD, List.getElem?_eq_getElem h]
theorem Bits01.take {l : List Int} (h : Bits01 l) (k : Nat) : Bits01 (l.take k) := fun x hx => h x (List.mem_of_mem_take hx)
theorem Bits01.drop {l : List Int} (h : Bits01 l) (k : Nat) : Bits01 (l.drop k) := fun x hx => h x (List.mem_of_mem_drop hx)

theorem two_pow_le (k : Nat) (h : k ≤ 40) : (2 : Int) ^ k ≤ 1099511627776 := by
  have : ((2 ^ k : Nat) : Int) ≤ ((2 ^ 40 : Nat) : Int) := by exact_mod_cast Nat.pow_le_pow_right (by omega) h
  simpa using this
theorem numT_take_bd (l : List Int) (h : Bits01 l) (k : Nat) (hk : k ≤ 40) : 0 ≤ numT (l.take k) ∧ numT (l.take k) ≤ 1099511627776 := by
  have a := numT_bd (l.take k) (h.take k)
  have b := two_pow_le (l.take k).length (by rw [List.length_take]; omega)
  omega

/-- Where the first zero stands, or -1. -/
def idxE (l : List Int) : Int := if onesL l < l.length then (onesL l : Int) else -1
theorem onesL_of (l : List Int) (k : Nat) (hk : k < l.length) (h0 : ∀ j, j < k → l.getD j 0 ≠ 0) (h1 : l.getD k 0 = 0) : onesL l = k := by
  unfold onesL
  rw [List.findIdx_eq hk]
  have e : ∀ j (hj : j < l.length), l.getD j 0 = l[j] := fun j hj => by simp [List.getD_eq_getElem?_getD, List.getElem?_eq_getElem hj]
  refine ⟨by rw [← e k hk, h1]; rfl, fun j hj => ?_⟩
  have := h0 j hj
  rw [e j (by omega)] at this
  simpa using this
theorem onesL_end (l : List Int) (h0 : ∀ j, j < l.length → l.getD j 0 ≠ 0) : onesL l = l.length := by
  unfold onesL
  rw [List.findIdx_eq_length]
  intro x hx
  obtain ⟨j, hj, rfl⟩ := List.getElem_of_mem hx
  have := h0 j hj
  simpa [List.getD_eq_getElem?_getD, List.getElem?_eq_getElem hj] using this

theorem index0_any (A : Option Addr) (n c : Nat) (l : List Int) (w : World) (hr : RdI w A n l) (hn : n ≤ 1000000) :
    Calls Tryd.prog 77 #[.slice A n c, .int .i64 0] w fun e w' => e = .returned (.int .i64 (idxE l)) ∧ w = w' := by
  have HR := Lib.hid hr; clear hr
  go_enter Tryd.func77, Tryd.ntmps77
  go_wp2
  go_loop [8] (fun i => ∃ k : Nat, k ≤ n ∧ i = .int .i64 k ∧ Hid (∀ j, j < k → l.getD j 0 ≠ 0)) (fun i => n - (intOf i).toNat)
  case atStart => exact ⟨0, Nat.zero_le _, rfl, fun j hj => absurd hj (by omega)⟩
  case round =>
    obtain ⟨k, hk, rfl, H0⟩ := hrel
    by_cases hlt : k < n
    · obtain ⟨ad, ha, _, hc⟩ := HR.out.2 (by omega)
      have hck := hc k hlt
      clear hc
      subst ha
      obtain ⟨x, hxe⟩ : ∃ x, l.getD k 0 = x := ⟨_, rfl⟩
      rw [hxe] at hck
      have HX := Lib.hid hxe
      clear hxe
      by_cases hx0 : x = 0
      · subst hx0
        go_wp2
        go_ret
        refine ⟨?_, rfl⟩
        have hl := HR.out.1
        have e := onesL_of l k (by omega) H0.out HX.out
        unfold idxE
        rw [e, if_pos (by omega)]
        rfl
      · have h1 : ((0 : Int) == x) = false := by simp; omega
        go_wp2
        go_round
        case rel =>
          refine ⟨k + 1, by omega, by go_num, fun j hj => ?_⟩
          rcases Nat.lt_or_ge j k with hc | hc
          · exact H0.out j hc
          · obtain rfl : j = k := by omega
            rw [HX.out]; exact hx0
        case measure => simp [intOf]; omega
    · obtain rfl : k = n := by omega
      go_wp2
      go_ret
      refine ⟨?_, rfl⟩
      have hl := HR.out.1
      have e := onesL_end l (by rw [hl]; exact H0.out)
      unfold idxE
      rw [e, if_neg (by omega)]
      rfl

theorem copyInts_some (ad : Addr) (n c : Nat) (l : List Int) (w : World) (hr : RdI w (some ad) n l) (hlt : ad.block < w.heap.size) (hn : n ≤ 1000000) :
    Calls Tryd.prog 35 #[.slice (some ad) n c] w fun e w' => ∃ v, e = .returned v ∧ w'.ownsRow w.heap.size 3 1 v n (l.map (Value.int .i64)) ∧ Below w.heap.size w w' := by
  have HR := Lib.hid hr; clear hr
  obtain ⟨i0, hi, hz0, hz1, hz2⟩ := info_parts intInfo
  have ho : Hid ((w.alloc (.cells #[] 3)).ownsRow w.heap.size 3 1 (.slice (some ⟨w.heap.size, 0, none⟩) 0 0) 0 []) := World.ownsRow_lit w #[] 0 (Nat.le_refl _) (by unfold maxLen; omega) rfl
  have hlen : Hid ((l.map (Value.int .i64)).length = n * 1) := by show List.length _ = _; rw [List.length_map]; have := HR.out.1; omega
  have hsrc : Hid (∀ j u, (l.map (Value.int .i64))[j]? = some u → (w.alloc (.cells #[] 3)).cell? (ad.add j) = some u) := by
    intro j u hu
    have hj : j < l.length := by
      have := (List.getElem?_eq_some_iff.1 hu).1
      simpa using this
    have hl := HR.out.1
    obtain ⟨ad', ha, _, hc⟩ := HR.out.2 (by omega)
    obtain rfl := Option.some.inj ha
    rw [World.cell?_alloc_lt w _ _ (by rw [addBlock]; exact hlt), hc j (by omega)]
    rw [List.getElem?_map, List.getElem?_eq_getElem hj] at hu
    simp at hu
    rw [← hu]
    simp [List.getD_eq_getElem?_getD, List.getElem?_eq_getElem hj]
  have hone := Lib.hid (one_ints l)
  obtain ⟨news, hnews⟩ : ∃ news, l.map (Value.int .i64) = news := ⟨_, rfl⟩
  rw [hnews] at hlen hsrc hone ⊢
  clear hnews
  go_enter Tryd.func35, Tryd.ntmps35
  go_wp2_with (at_builtin; refine wpList_append_own _ rfl (.tmp 3) (.tmp 4) 31 rfl w.heap.size 3 i0 (.int .i64 0) 1 8 intsUnder hi hz0 hz1 hz2 rfl (by decide) _ _ _ rfl ho.out ad n c news rfl hlen.out hsrc.out hone.out (by unfold maxLen; omega) (by omega) (by simp) ?_)
  intro v w2 ho2 hg2 _
  have b2 : Below w.heap.size w w2 := ((Below.refl _ _).alloc (Nat.le_refl _) _).grown hg2 (by simp) (fun g hg => (ho.out.lt g hg).1)
  have o2 := Lib.hid ho2
  have B2 := Lib.hid b2
  clear ho2 hg2 b2
  go_wp2
  go_ret
  refine ⟨_, rfl, ?_, B2.out⟩
  have := o2.out
  simpa using this

end Go.Proofs.YtjjflbnopphciabDoor

namespace Go.Proofs.YtjjflbnopphciabDoor

/-- Numbers with zeros behind them, eight in all. -/
def padU (xs : List Int) : List Int := xs ++ List.replicate (8 - xs.length) 0
theorem padU_length (xs : List Int) (h : xs.length ≤ 8) : (padU xs).length = 8 := by simp [padU]; omega
theorem padU_nil : padU [] = [0, 0, 0, 0, 0, 0, 0, 0] := rfl
theorem padU_full (xs : List Int) (h : xs.length = 8) : padU xs = xs := by simp [padU, h]
theorem padU_set (xs : List Int) (u : Int) (h : xs.length < 8) : (padU xs).set xs.length u = padU (xs ++ [u]) := by
  unfold padU
  rw [List.set_append_right _ _ (by omega)]
  have e : 8 - xs.length = (8 - (xs ++ [u]).length) + 1 := by simp; omega
  rw [e, Nat.sub_self, List.replicate_succ]
  simp
theorem padU_at (xs : List Int) (j : Nat) (h : j < xs.length) : (padU xs).getD j 0 = xs.getD j 0 := by
  simp [padU, List.getD_eq_getElem?_getD, List.getElem?_append_left h]

def rdOk (l : List Int) (k : Nat) : Bool := okR l k 8 && decide ((restR l k 8).length = 0)
def rdXs (l : List Int) (k : Nat) : List Int := if okR l k 8 then numsU l k 8 else List.replicate 8 0

theorem rd_stop (l : List Int) (k j : Nat) (hj : j < 8) (h : stepOk (restR l k j) k = false) : okR l k 8 = false := by
  cases he : okR l k 8 with
  | false => rfl
  | true =>
    have := okR_mono l k (j + 1) 8 (by omega) he
    simp [okR, h] at this
theorem rdOk_stop (l : List Int) (k j : Nat) (hj : j < 8) (h : stepOk (restR l k j) k = false) : rdOk l k = false := by
  simp [rdOk, rd_stop l k j hj h]
theorem rdXs_stop (l : List Int) (k j : Nat) (hj : j < 8) (h : stepOk (restR l k j) k = false) : rdXs l k = List.replicate 8 0 := by
  simp [rdXs, rd_stop l k j hj h]

theorem restR_len (l : List Int) (k j : Nat) : (restR l k j).length ≤ l.length := by
  induction j with
  | zero => exact Nat.le_refl _
  | succ j ih => simp only [restR, stepR, List.length_drop]; omega
theorem restR_01 (l : List Int) (k j : Nat) (h : Bits01 l) : Bits01 (restR l k j) := by
  induction j with
  | zero => exact h
  | succ j ih => exact fun x hx => ih x (List.mem_of_mem_drop hx)

theorem stepU_bd (l : List Int) (k : Nat) (h : Bits01 l) (hk : k ≤ 17) (hn : l.length ≤ 400) : 0 ≤ stepU l k ∧ stepU l k ≤ 60000000 := by
  unfold stepU
  have h1 := numT_bd ((l.drop (onesL l + 1)).take k) (fun x hx => h x (List.mem_of_mem_drop (List.mem_of_mem_take hx)))
  have h2 : ((l.drop (onesL l + 1)).take k).length ≤ k := by rw [List.length_take]; omega
  have h3 : (2 : Int) ^ ((l.drop (onesL l + 1)).take k).length ≤ 131072 := by
    have : ((2 ^ ((l.drop (onesL l + 1)).take k).length : Nat) : Int) ≤ ((2 ^ 17 : Nat) : Int) := by exact_mod_cast Nat.pow_le_pow_right (by omega) (by omega)
    simpa using this
  have h4 := pw_bd k hk
  unfold pw at h4
  have h5 := onesL_le l
  have h6 : (0 : Int) ≤ (onesL l : Int) * 2 ^ k := Int.mul_nonneg (by omega) (by omega)
  have h7 : (onesL l : Int) * 2 ^ k ≤ 400 * 131072 := Int.mul_le_mul (by omega) h4.2 (by omega) (by omega)
  omega
theorem numsU_bd (l : List Int) (k j : Nat) (h : Bits01 l) (hk : k ≤ 17) (hn : l.length ≤ 400) : ∀ x ∈ numsU l k j, 0 ≤ x ∧ x ≤ 60000000 := by
  induction j with
  | zero => intro x hx; simp [numsU] at hx
  | succ j ih =>
    intro x hx
    simp only [numsU, List.mem_append, List.mem_singleton] at hx
    rcases hx with hx | rfl
    · exact ih x hx
    · exact stepU_bd _ k (restR_01 l k j h) hk (Nat.le_trans (restR_len l k j) hn)

theorem unfold1_bd (u : Int) (h0 : 0 ≤ u) (h1 : u ≤ 60000000) : -60000000 ≤ unfold1 u ∧ unfold1 u ≤ 60000000 := by
  unfold unfold1
  split <;> omega

end Go.Proofs.YtjjflbnopphciabDoor

namespace Go.Proofs.YtjjflbnopphciabDoor
open Go.RowKit

theorem results_cell_tmp {P : Program} {fn : Func} {p q : Tmp} {ty : TypeId} (h : fn.results = #[.cell p ty, .tmp q]) (tmps : Array Value) (w : World) (g : Nat) (t : TypeId) (cs : Array Value) (fr : Nat × Nat) (d : TypeDesc)
    (hp : tmps.getD p undef = .pointer (some ⟨g, 0, none⟩)) (hg : w.heap[g]? = some (.cells cs t fr))
    (hu : P.underlying ty = some d) (hd : (match d with | .struct _ | .array _ _ => true | _ => false) = true) (hi : (P.info? ty).map (·.size) = some cs.size) :
    (results fn tmps).run P w = .ok (.tuple #[.agg cs, tmps.getD q undef]) w := by
  have hp' : tmps[p]?.getD undef = .pointer (some ⟨g, 0, none⟩) := by simpa using hp
  simp [results, h, hp', asAddr, run_loadVar_row w g t ty cs fr d hg hu hd hi]

theorem is8_iArr (xs : List Int) (h : xs.length = 8) : Is8 (iArr xs) xs := ⟨by rw [iArr_size, h], h, fun j hj => iArr_at xs j (by omega)⟩
theorem zero8_iArr : zero8 = iArr [0, 0, 0, 0, 0, 0, 0, 0] := rfl

theorem add_add' (a : Addr) (m n : Nat) : (a.add m).add n = a.add (m + n) := by
  unfold Addr.add
  by_cases hm : m = 0
  · subst hm; simp
  · by_cases hn : n = 0
    · subst hn; simp
    · rw [if_neg hm, if_neg hn, if_neg (by omega)]
      simp [Nat.add_assoc]

/-- The address of a part of a slice. -/
def cutA (a : Option Addr) (lo c : Nat) : Option Addr := if c = lo then a else a.map (·.add (lo * 1))
theorem intElem : Tryd.prog.elem 31 = 3 := by kernel_rfl
theorem intsUnder' : Tryd.prog.underlying 31 = some (.slice (Tryd.prog.elem 31)) := by kernel_rfl
theorem sizeOfInt (W : World) : (sizeOf 3).run Tryd.prog W = .ok 1 W := by kernel_rfl
theorem cut_run (a : Option Addr) (n c lo hi m d : Nat) (l h : Int) (hl : l = lo) (hh : h = hi) (h1 : lo ≤ hi) (h2 : hi ≤ c) (hm : hi - lo = m) (hd : c - lo = d) (W : World) :
    (Instr.slice 31 (.slice a n c) (some (.int .i64 l)) (some (.int .i64 h)) none).run Tryd.prog W = .ok (.slice (cutA a lo c) m d) W := by
  have := run_slice_lh (P := Tryd.prog) (w := W) 31 a n c intsUnder' .i64 .i64 l h (by omega) (by omega) (by omega)
  rw [this, intElem, sizeOfInt, ← hm, ← hd, hl, hh]
  rfl
theorem cutTo_run (a : Option Addr) (n c hi : Nat) (h : Int) (hh : h = hi) (h2 : hi ≤ c) (W : World) :
    (Instr.slice 31 (.slice a n c) none (some (.int .i64 h)) none).run Tryd.prog W = .ok (.slice (cutA a 0 c) hi c) W := by
  have := run_slice_h (P := Tryd.prog) (w := W) 31 a n c intsUnder' .i64 h (by omega) (by omega)
  rw [this, intElem, sizeOfInt, hh]
  rfl
theorem cutFrom_run (a : Option Addr) (n c lo m d : Nat) (l : Int) (hl : l = lo) (h1 : lo ≤ n) (hm : n - lo = m) (hd : c - lo = d) (W : World) :
    (Instr.slice 31 (.slice a n c) (some (.int .i64 l)) none none).run Tryd.prog W = .ok (.slice (cutA a lo c) m d) W := by
  have := run_slice_l (P := Tryd.prog) (w := W) 31 a n c intsUnder' .i64 l (by omega) (by omega)
  rw [this, intElem, sizeOfInt, ← hm, ← hd, hl]
  rfl
theorem RdI.cut {w : World} {a : Option Addr} {n : Nat} {xs : List Int} (h : RdI w a n xs) (lo c m : Nat) (h1 : lo + m ≤ n) (h2 : n ≤ c) : RdI w (cutA a lo c) m ((xs.drop lo).take m) := by
  have hl := h.1
  refine ⟨by rw [List.length_take, List.length_drop]; omega, fun hm => ?_⟩
  obtain ⟨ad, rfl, hb, hc⟩ := h.2 (by omega)
  refine ⟨ad.add (lo * 1), ?_, by rw [addBlock]; exact hb, fun j hj => ?_⟩
  · unfold cutA; rw [if_neg (by omega)]; rfl
  · rw [add_add', hc (lo * 1 + j) (by omega)]
    congr 2
    simp only [List.getD_eq_getElem?_getD, List.getElem?_take, List.getElem?_drop]
    rw [if_pos hj, Nat.mul_one]

end Go.Proofs.YtjjflbnopphciabDoor

namespace Go.Proofs.YtjjflbnopphciabDoor

def bq : Nat → Int
  | 0 => 0
  | i + 1 => 4 * bq i + 60000000
theorem bq_nonneg (i : Nat) : 0 ≤ bq i := by
  induction i with
  | zero => simp [bq]
  | succ i ih => simp only [bq]; omega
theorem bq_7 (i : Nat) (h : i ≤ 7) : bq i ≤ 327660000000 := by
  match i, h with
  | 0, _ => decide
  | 1, _ => decide
  | 2, _ => decide
  | 3, _ => decide
  | 4, _ => decide
  | 5, _ => decide
  | 6, _ => decide
  | 7, _ => decide

theorem getD_snoc (l : List Int) (v : Int) (j : Nat) : (l ++ [v]).getD j 0 = if j < l.length then l.getD j 0 else if j = l.length then v else 0 := by
  simp only [List.getD_eq_getElem?_getD]
  split
  · rename_i h; rw [List.getElem?_append_left h]
  · split
    · rename_i h; subst h; simp
    · rename_i h h2; rw [List.getElem?_eq_none (by simp; omega)]; rfl

theorem unfT_bq (us : List Int) (p : Nat) (hu : ∀ j, 0 ≤ us.getD j 0 ∧ us.getD j 0 ≤ 60000000) (i : Nat) : Bnd (unfT us p i) (bq i) := by
  induction i with
  | zero => intro j; simp [unfT, bq]
  | succ i ih =>
    have h0 := bq_nonneg i
    intro j
    simp only [unfT]
    rw [getD_snoc, unfT_length]
    simp only [bq]
    split
    · have := ih j; omega
    · split
      · have a := expd_bd (unfT us p i) i p (bq i) ih h0
        have b := unfold1_bd _ (hu i).1 (hu i).2
        omega
      · omega
theorem Bnd.pad {xs : List Int} {M : Int} (h : Bnd xs M) (hM : 0 ≤ M) : Bnd (padU xs) M := by
  intro j
  rcases Nat.lt_or_ge j xs.length with hc | hc
  · rw [padU_at xs j hc]; exact h j
  · have e : (padU xs).getD j 0 = 0 := by
      simp only [padU, List.getD_eq_getElem?_getD]
      rw [List.getElem?_append_right hc, List.getElem?_replicate]
      split <;> rfl
    rw [e]; omega
theorem unfT_pad_bnd (us : List Int) (p : Nat) (hu : ∀ j, 0 ≤ us.getD j 0 ∧ us.getD j 0 ≤ 60000000) (i : Nat) (hi : i ≤ 7) : Bnd (padU (unfT us p i)) 327660000000 := by
  have h := (unfT_bq us p hu i).pad (bq_nonneg i)
  have b := bq_7 i hi
  intro j
  have := h j
  omega
theorem expd_pad (us : List Int) (p i : Nat) : expd (padU (unfT us p i)) i p = expd (unfT us p i) i p :=
  expd_congr _ _ _ _ fun j hj => padU_at _ _ (by rw [unfT_length]; exact hj)
theorem unfT_step (us : List Int) (p i : Nat) (hi : i < 8) : (padU (unfT us p i)).set i (expd (unfT us p i) i p + unfold1 (us.getD i 0)) = padU (unfT us p (i + 1)) := by
  have := padU_set (unfT us p i) (expd (unfT us p i) i p + unfold1 (us.getD i 0)) (by rw [unfT_length]; exact hi)
  rw [unfT_length] at this
  exact this
theorem numsU_getD (l : List Int) (k j : Nat) (h : Bits01 l) (hk : k ≤ 17) (hn : l.length ≤ 400) : ∀ i, 0 ≤ (numsU l k j).getD i 0 ∧ (numsU l k j).getD i 0 ≤ 60000000 := by
  intro i
  rcases Nat.lt_or_ge i (numsU l k j).length with hc | hc
  · have e : (numsU l k j).getD i 0 = (numsU l k j)[i] := by simp [List.getD_eq_getElem?_getD, List.getElem?_eq_getElem hc]
    rw [e]; exact numsU_bd l k j h hk hn _ (List.getElem_mem hc)
  · have e : (numsU l k j).getD i 0 = 0 := by simp [List.getD_eq_getElem?_getD, List.getElem?_eq_none hc]
    rw [e]; omega

end Go.Proofs.YtjjflbnopphciabDoor

namespace Go.Proofs.YtjjflbnopphciabDoor
open Go.RowKit

end Go.Proofs.YtjjflbnopphciabDoor

namespace Go.Proofs.YtjjflbnopphciabDoor
open Go.RowKit

theorem rangesE01 (l : List Int) (h : Bits01 l) : rangesE l 0 1 = 0 := (rangesE_zero l 0 1).2 fun x hx => by rcases h x hx with e | e <;> omega

theorem checkEachInt_bits (A : Option Addr) (n c : Nat) (l : List Int) (b0 b1 : Nat) (w : World) (hr : RdI w A n l) (hb : Bits01 l) (hn : n ≤ 9223372036854775807)
    (h0 : w.cell? ⟨b0, 0, none⟩ = some (.int .i64 0)) (h1 : w.cell? ⟨b1, 0, none⟩ = some (.int .i64 1)) :
    Calls Tryd.prog 38 #[.slice A n c, .func (Fn.func 82) #[] #[.pointer (some ⟨b0, 0, none⟩), .pointer (some ⟨b1, 0, none⟩)]] w
      fun e w' => e = .returned (.int .i64 0) ∧ w = w' := by
  have := checkEachInt_any A n c l 0 1 b0 b1 w hr hn h0 h1
  rw [rangesE01 l hb] at this
  exact this

/-- The world behind the checks and the head of Unpacked. -/
structure UnpIn (w : World) (A : Option Addr) (n c : Nat) (l : List Int) (p k : Nat) : Prop where
  laid : Laid w
  rd : RdI w A n l
  b01 : Bits01 l
  n7 : 7 ≤ n
  n400 : n ≤ 400
  nc : n ≤ c
  c6 : c ≤ 9223372036854775807
  p3 : p < 3
  k18 : k < 18
  hp : numT (l.take 2) = p
  hk : numT ((l.drop 2).take 5) = k

end Go.Proofs.YtjjflbnopphciabDoor

namespace Go.Proofs.YtjjflbnopphciabDoor
open Go.RowKit

theorem intInfoAt : ∃ i, Tryd.prog.info? 3 = some i := by
  obtain ⟨i0, hi, _⟩ := info_parts intInfo
  exact ⟨i0, hi⟩
theorem cellsOfInt : Tryd.prog.cellsOf 3 = 1 := by kernel_rfl
theorem underInt' : Tryd.prog.underlying 3 = some (.int .i64) := by kernel_rfl
theorem part_iArr (xs : List Int) (i : Nat) (h : i < xs.length) (W : World) : (Go.part 3 (iArr xs) (i * 1)).run Tryd.prog W = .ok (.int .i64 (xs.getD i 0)) W := by
  have h4 : (isAgg 3).run Tryd.prog W = .ok false W := by kernel_rfl
  have h1 := iArr_at xs i h
  simp [Go.part, Sem.run_bind, h4, h1]
theorem items8 (d : Nat) (xs ys : List Int) (hx : xs.length = 8) (hy : ys.length = 8) (W : World) : ∀ is : List Nat, (∀ i ∈ is, i < 8) →
    (Op.eqItems (d + 1) 3 1 (iArr xs) (iArr ys) is).run Tryd.prog W = .ok (is.all fun i => xs.getD i 0 == ys.getD i 0) W
  | [], _ => by simp [Op.eqItems]
  | i :: is, h => by
    have hi := h i (by simp)
    have ih := items8 d xs ys hx hy W is (fun j hj => h j (by simp [hj]))
    simp only [Op.eqItems, Sem.run_bind, part_iArr xs i (by omega), part_iArr ys i (by omega), Result.andThen_ok, run_equalIn_int W d 3 .i64 .i64 _ _ underInt']
    rw [List.all_cons]
    generalize (xs.getD i 0 == ys.getD i 0) = b
    cases b
    · simp only [Bool.not_false, if_true, Sem.run_pure, Bool.false_and]
    · simp only [Bool.not_true, Bool.false_eq_true, if_false, ih, Bool.true_and]
theorem all8 (xs ys : List Int) (hx : xs.length = 8) (hy : ys.length = 8) : ((List.range 8).all fun i => xs.getD i 0 == ys.getD i 0) = decide (xs = ys) := by
  rw [Bool.eq_iff_iff]
  simp only [List.all_eq_true, List.mem_range, beq_iff_eq, decide_eq_true_eq]
  constructor
  · intro h
    apply List.ext_getElem (by omega)
    intro i h1 h2
    have := h i (by omega)
    simpa [List.getD_eq_getElem?_getD, List.getElem?_eq_getElem h1, List.getElem?_eq_getElem h2] using this
  · rintro rfl i _; rfl
theorem eq8_run (xs ys : List Int) (hx : xs.length = 8) (hy : ys.length = 8) (W : World) : (binOp .eql 34 (.agg (iArr xs)) (.agg (iArr ys))).run Tryd.prog W = .ok (.bool (decide (xs = ys))) W := by
  obtain ⟨i, hi⟩ := intInfoAt
  have h := run_equalIn_array W 9999 (iArr xs) (iArr ys) arrUnder hi
  rw [cellsOfInt, items8 9998 xs ys hx hy W _ (fun i hi => by simpa using hi), all8 xs ys hx hy] at h
  rw [run_eql_struct]
  rw [h]
  rfl
theorem eq8_lit (x0 x1 x2 x3 x4 x5 x6 x7 : Int) (W : World) : (binOp .eql 34 (.agg #[.int .i64 x0, .int .i64 x1, .int .i64 x2, .int .i64 x3, .int .i64 x4, .int .i64 x5, .int .i64 x6, .int .i64 x7]) (.agg #[.int .i64 x0, .int .i64 x1, .int .i64 x2, .int .i64 x3, .int .i64 x4, .int .i64 x5, .int .i64 x6, .int .i64 x7])).run Tryd.prog W = .ok (.bool true) W := by
  have := eq8_run [x0, x1, x2, x3, x4, x5, x6, x7] [x0, x1, x2, x3, x4, x5, x6, x7] rfl rfl W
  simpa [iArr] using this

end Go.Proofs.YtjjflbnopphciabDoor

namespace Go.Proofs.YtjjflbnopphciabDoor

def b01 (l : List Int) : Bool := l.all fun x => x == 0 || x == 1
theorem b01_iff (l : List Int) : b01 l = true ↔ Bits01 l := by
  unfold b01 Bits01
  simp [List.all_eq_true]
theorem b01_drop (l : List Int) (k : Nat) (h : k < l.length) : b01 (l.drop k) = ((l.getD k 0 == 0 || l.getD k 0 == 1) && b01 (l.drop (k + 1))) := by
  have e : l.getD k 0 = l[k] := by simp [List.getD_eq_getElem?_getD, List.getElem?_eq_getElem h]
  rw [List.drop_eq_getElem_cons h, e]
  simp only [b01, List.all_cons]

theorem ones_at (l : List Int) (t : Nat) (h : Bits01 l) (ht : t < onesL l) : t < l.length ∧ l.getD t 0 = 1 := by
  have h1 := onesL_le l
  refine ⟨by omega, ?_⟩
  have e : l.getD t 0 = l[t] := by simp [List.getD_eq_getElem?_getD, List.getElem?_eq_getElem (show t < l.length by omega)]
  have := List.not_of_lt_findIdx (p := (· == 0)) (xs := l) (by unfold onesL at ht; exact ht)
  rw [e]
  rcases h l[t] (List.getElem_mem _) with h0 | h0
  · rw [h0] at this; simp at this
  · exact h0
theorem ones_end (l : List Int) (h : onesL l < l.length) : l.getD (onesL l) 0 = 0 := by
  have e : l.getD (onesL l) 0 = l[onesL l] := by simp [List.getD_eq_getElem?_getD, List.getElem?_eq_getElem h]
  have := List.findIdx_getElem (p := (· == 0)) (xs := l) (w := by unfold onesL at h; exact h)
  have h2 : (l[onesL l] == 0) = true := this
  rw [e]
  exact eq_of_beq h2
theorem getD_drop (l : List Int) (a t : Nat) : (l.drop a).getD t 0 = l.getD (a + t) 0 := by
  simp [List.getD_eq_getElem?_getD, List.getElem?_drop]

theorem unfT_mono (us : List Int) (p i j : Nat) (h : i ≤ j) : ∀ x ∈ unfT us p i, x ∈ unfT us p j := by
  induction j with
  | zero => obtain rfl : i = 0 := by omega
            exact fun x hx => hx
  | succ j ih =>
    intro x hx
    rcases Nat.lt_or_ge i (j + 1) with hc | hc
    · simp only [unfT, List.mem_append]; exact .inl (ih (by omega) x hx)
    · obtain rfl : i = j + 1 := by omega
      exact hx

/-- How many bits have been read with i codes. -/
def atR (l : List Int) (k : Nat) : Nat → Nat
  | 0 => 0
  | i + 1 => atR l k i + (onesL (restR l k i) + 1 + k)
theorem restR_drop (l : List Int) (k i : Nat) : restR l k i = l.drop (atR l k i) := by
  induction i with
  | zero => rfl
  | succ i ih =>
    simp only [restR, stepR, atR]
    rw [ih, List.drop_drop, ← ih]

theorem unfold1_ref (u : Nat) (h : u % 2 = 1) : (-((u : Int) + 1)).tdiv 2 = unfold1 u := by
  unfold unfold1
  rw [if_pos (by omega), Int.neg_tdiv, Int.tdiv_eq_ediv_of_nonneg (by omega)]
  omega

end Go.Proofs.YtjjflbnopphciabDoor

namespace Go.Proofs.YtjjflbnopphciabDoor
open Go.RowKit

theorem rangesE_b01 (l : List Int) : rangesE l 0 1 = if b01 l then 0 else 2 := by
  rcases rangesE_cases l 0 1 with e | e
  · have : b01 l = true := (b01_iff l).2 fun x hx => by have := (rangesE_zero l 0 1).1 e x hx; omega
    rw [this]; exact e
  · cases hb : b01 l with
    | false => exact e
    | true =>
      have := rangesE01 l ((b01_iff l).1 hb)
      omega

def headE (n : Nat) (l : List Int) : Int := firstE [whenE (decide (3000 < (n : Int))) 8, rangesE l 0 1, whenE (decide ((n : Int) < 7)) 10]

end Go.Proofs.YtjjflbnopphciabDoor

namespace Go.Proofs.YtjjflbnopphciabDoor
open Go.RowKit

end Go.Proofs.YtjjflbnopphciabDoor

namespace Go.Proofs.YtjjflbnopphciabDoor
open Go.RowKit

/-- The two rows of ref.Unpacked's own: the result and the constant 'none'. -/
structure RU (w wr : World) : Prop where
  g0 : Bk wr w.heap.size 34 zero8
  g1 : Bk wr (w.heap.size + 1) 34 zero8
  bel : Below w.heap.size w wr
theorem RU.lt {w wr : World} (h : RU w wr) : w.heap.size + 1 < wr.heap.size := h.g1.lt
theorem RU.later {w wr wr' : World} (h : RU w wr) (hb : Below wr.heap.size wr wr') : RU w wr' :=
  ⟨h.g0.below hb (by have := h.lt; omega), h.g1.below hb h.lt, h.bel.trans (hb.mono (by have := h.lt; omega))⟩
theorem RU.above {w wr wr' : World} {B : Nat} (h : RU w wr) (hb : Below B wr wr') (hB : w.heap.size + 2 ≤ B) : RU w wr' :=
  ⟨h.g0.below hb (by omega), h.g1.below hb (by omega), h.bel.trans (hb.mono (by omega))⟩
theorem RU.set_ {w wr : World} (h : RU w wr) (p : Addr) (v : Value) (hB : w.heap.size + 2 ≤ p.block) : RU w (wr.setCell p v) :=
  ⟨h.g0.far p (by omega) v, h.g1.far p (by omega) v, h.bel.setCell (by omega) v⟩
theorem RU.drew {w wr : World} (h : RU w wr) : RU w wr.drew := ⟨h.g0.drew, h.g1.drew, h.bel.drew⟩
theorem ru_start (w : World) : RU w (((w.alloc (.cells zero8 34)).alloc (.cells zero8 34)).setRow (w.heap.size + 1) zero8) := by
  have h1 : Bk ((w.alloc (.cells zero8 34)).alloc (.cells zero8 34)) (w.heap.size + 1) 34 zero8 := by
    simpa using Bk.new (w.alloc (.cells zero8 34)) 34 zero8
  have h0 : Bk ((w.alloc (.cells zero8 34)).alloc (.cells zero8 34)) w.heap.size 34 zero8 := (Bk.new w _ _).alloc _
  have hb : Below (w.heap.size + 1) ((w.alloc (.cells zero8 34)).alloc (.cells zero8 34)) (((w.alloc (.cells zero8 34)).alloc (.cells zero8 34)).setRow (w.heap.size + 1) zero8) := below_setRow (Below.refl _ _) (Nat.le_refl _) _
  exact ⟨h0.below hb (by omega), setRow_heap _ _ _ _ _ _ h1, (((Below.refl _ _).alloc (Nat.le_refl _) _).alloc (by simp) _).trans (hb.mono (by omega))⟩
theorem RU.fin {w wr : World} (h : RU w wr) (cs : Array Value) : Bk (wr.setRow w.heap.size cs) w.heap.size 34 cs ∧ Below w.heap.size w (wr.setRow w.heap.size cs) :=
  ⟨setRow_heap wr w.heap.size _ cs _ _ h.g0, below_setRow h.bel (Nat.le_refl _) cs⟩

end Go.Proofs.YtjjflbnopphciabDoor

namespace Go.Proofs.YtjjflbnopphciabDoor
open Go.RowKit

theorem parE_bad (p k : Int) (h : ¬ (0 ≤ p ∧ p ≤ 2 ∧ 0 ≤ k ∧ k ≤ 17)) : parE p k = 2 := by
  unfold parE inB
  rw [if_neg]
  simp
  omega

end Go.Proofs.YtjjflbnopphciabDoor

namespace Go.Proofs.YtjjflbnopphciabDoor
open Go.RowKit

theorem rd_own63 {w : World} {base : Nat} {e : TypeId} {v : Value} {n : Nat} {xs : List Int} (h : w.ownsRow base e 1 v n (xs.map (Value.int .i64))) (h0 : 0 < n) :
    ∃ ad c, v = .slice (some ad) n c ∧ n ≤ c ∧ c ≤ 9223372036854775807 ∧ ad.block < w.heap.size ∧ RdI w (some ad) n xs := by
  obtain ⟨A, c, hv, hnc, hr⟩ := rd_of_own h
  obtain ⟨ad, rfl, hlt, _⟩ := hr.2 h0
  refine ⟨ad, c, hv, hnc, ?_, hlt, hr⟩
  rcases h.2 with ⟨h1, _⟩ | ⟨g, cap, cur, h1, _, _, _, hm, _⟩
  · rw [hv] at h1; cases h1
  · rw [hv] at h1; cases h1; unfold maxLen at hm; omega
def resT (l : List Int) (k j : Nat) : List Int := (numsU l k j).map unfold1
theorem resT_succ (l : List Int) (k j : Nat) : resT l k (j + 1) = resT l k j ++ [unfold1 (stepU (restR l k j) k)] := by simp [resT, numsU]
theorem resT_length (l : List Int) (k j : Nat) : (resT l k j).length = j := by simp [resT, numsU_length]

end Go.Proofs.YtjjflbnopphciabDoor

namespace Go.Proofs.YtjjflbnopphciabDoor
open Go.RowKit

theorem copyInts_any (A : Option Addr) (n c : Nat) (l : List Int) (w : World) (hA : A = none → n = 0 ∧ c = 0) (hr : RdI w A n l) (hn : n ≤ 1000000) :
    Calls Tryd.prog 35 #[.slice A n c] w fun e w' => ∃ v, e = .returned v ∧ w'.ownsRow w.heap.size 3 1 v n (l.map (Value.int .i64)) ∧ Below w.heap.size w w' := by
  have ho : Hid ((w.alloc (.cells #[] 3)).ownsRow w.heap.size 3 1 (.slice (some ⟨w.heap.size, 0, none⟩) 0 0) 0 []) := World.ownsRow_lit w #[] 0 (Nat.le_refl _) (by unfold maxLen; omega) rfl
  obtain ⟨i0, hi, hz0, hz1, hz2⟩ := info_parts intInfo
  cases A with
  | none =>
    obtain ⟨rfl, rfl⟩ := hA rfl
    have hl : l = [] := List.eq_nil_of_length_eq_zero hr.1
    subst hl
    clear hA hr
    go_enter Tryd.func35, Tryd.ntmps35
    go_wp2_with (at_builtin; refine wpList_append_own_none rfl (.tmp 3) (.tmp 4) 31 rfl w.heap.size 3 i0 1 intsUnder hi _ _ _ rfl ho.out rfl ?_)
    go_ret
    exact ⟨_, rfl, ho.out, (Below.refl _ _).alloc (Nat.le_refl _) _⟩
  | some ad =>
    have HR := Lib.hid hr; clear hr hA
    have hlen : Hid ((l.map (Value.int .i64)).length = n * 1) := by show List.length _ = _; rw [List.length_map]; have := HR.out.1; omega
    have hsrc : Hid (∀ j u, (l.map (Value.int .i64))[j]? = some u → (w.alloc (.cells #[] 3)).cell? (ad.add j) = some u) := by
      intro j u hu
      have hj : j < l.length := by
        have := (List.getElem?_eq_some_iff.1 hu).1
        simpa using this
      have hl := HR.out.1
      obtain ⟨ad', ha, hlt, hc⟩ := HR.out.2 (by omega)
      obtain rfl := Option.some.inj ha
      rw [World.cell?_alloc_lt w _ _ (by rw [addBlock]; exact hlt), hc j (by omega)]
      rw [List.getElem?_map, List.getElem?_eq_getElem hj] at hu
      simp at hu
      rw [← hu]
      simp [List.getD_eq_getElem?_getD, List.getElem?_eq_getElem hj]
    have hone := Lib.hid (one_ints l)
    obtain ⟨news, hnews⟩ : ∃ news, l.map (Value.int .i64) = news := ⟨_, rfl⟩
    rw [hnews] at hlen hsrc hone ⊢
    clear hnews
    go_enter Tryd.func35, Tryd.ntmps35
    go_wp2_with (at_builtin; refine wpList_append_own _ rfl (.tmp 3) (.tmp 4) 31 rfl w.heap.size 3 i0 (.int .i64 0) 1 8 intsUnder hi hz0 hz1 hz2 rfl (by decide) _ _ _ rfl ho.out ad n c news rfl hlen.out hsrc.out hone.out (by unfold maxLen; omega) (by omega) (by simp) ?_)
    intro v w2 ho2 hg2 _
    have b2 : Below w.heap.size w w2 := ((Below.refl _ _).alloc (Nat.le_refl _) _).grown hg2 (by simp) (fun g hg => (ho.out.lt g hg).1)
    have o2 := Lib.hid ho2
    have B2 := Lib.hid b2
    clear ho2 hg2 b2
    go_wp2
    go_ret
    refine ⟨_, rfl, ?_, B2.out⟩
    have := o2.out
    simpa using this

/-- A slice of the call's own as it reads. -/
theorem rd_own_c {w : World} {base : Nat} {e : TypeId} {v : Value} {n : Nat} {xs : List Int} (h : w.ownsRow base e 1 v n (xs.map (Value.int .i64))) :
    ∃ A c, v = .slice A n c ∧ n ≤ c ∧ c ≤ 9223372036854775807 ∧ RdI w A n xs := by
  obtain ⟨A, c, hv, hnc, hr⟩ := rd_of_own h
  refine ⟨A, c, hv, hnc, ?_, hr⟩
  rcases h.2 with ⟨h1, _⟩ | ⟨g, cap, cur, h1, _, _, _, hm, _⟩
  · rw [hv] at h1; cases h1; omega
  · rw [hv] at h1; cases h1; unfold maxLen at hm; omega

theorem is8_iArr_eq {arr : Array Value} {xs : List Int} (h : Is8 arr xs) : arr = iArr xs := h.lit.trans (is8_iArr xs h.len).lit.symm

end Go.Proofs.YtjjflbnopphciabDoor

namespace Go.Proofs.YtjjflbnopphciabDoor
open Go.ChangeShapes Go.WideShapes Go.ChangeAt Go.RowKit

/-- Numbers as they come in. -/
theorem open_rd {H : Type} {enc : TypeId × Value → H} {w : World} {base : Nat} {spare : Nat → Bool} {held : Bool} {A : Option Addr} {n c : Nat} {d : DataW H} {p : List MemPlace}
    (h : DataW.Trod enc Tryd.prog w base spare held 31 (.slice A n c) d p) : ∃ l, RdI w A n l ∧ n ≤ c ∧ c ≤ 9223372036854775807 ∧ (A = none → n = 0 ∧ c = 0) := by
  obtain ⟨fuel, hf⟩ := h
  rcases open_ints intsUnder underInt cellsInt hf with ⟨hcs, _⟩ | ⟨a, len, cap, zs, hcs, _, hl, hm, hz, _, hcell, _⟩
  · simp [Value.cells] at hcs
    obtain ⟨rfl, rfl, rfl⟩ := hcs
    exact ⟨[], ⟨rfl, fun h => absurd h (by omega)⟩, by omega, by omega, fun _ => ⟨rfl, rfl⟩⟩
  · simp [Value.cells] at hcs
    obtain ⟨rfl, rfl, rfl⟩ := hcs
    have hlen : n ≤ zs.length := by rw [hz]; split <;> omega
    refine ⟨zs.take n, ⟨by rw [List.length_take]; omega, fun hn => ⟨a, rfl, ?_, fun j hj => ?_⟩⟩, hl, by unfold maxLen at hm; omega, fun h => by cases h⟩
    · have := block_lt_of_cell (hcell 0 (by omega))
      rwa [addBlock] at this
    · rw [hcell j (by omega)]
      simp [List.getD_eq_getElem?_getD, List.getElem?_take, hj]

end Go.Proofs.YtjjflbnopphciabDoor

namespace Go.Proofs.YtjjflbnopphciabDoor
open Go.ChangeShapes Go.WideShapes Go.ChangeAt Go.RowKit

end Go.Proofs.YtjjflbnopphciabDoor

