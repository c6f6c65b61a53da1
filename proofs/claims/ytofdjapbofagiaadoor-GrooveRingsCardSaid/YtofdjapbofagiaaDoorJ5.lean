import Derived.Test.YtofdjapbofagiaaDoorJ4
import Derived.Test.YtofdjapbofagiaaDoorB7
import Derived.Test.YtofdjapbofagiaaDoorS0
namespace Go.Proofs.YtofdjapbofagiaaDoor
open Go.RowKit

theorem ptInfo : (Tryd.prog.info? 26).map (fun i => (i.zero, i.size, i.bytes)) = some (some (.agg #[.int .i64 0, .int .i64 0]), 2, 16) := by kernel_rfl
set_option maxRecDepth 100000 in
set_option maxHeartbeats 8000000 in
theorem refRing_any (r : Nat) (w : World) (h0 : 0 < r) (hr : r ≤ 100) :
    Calls Tryd.prog 52 #[.int .i64 r] w fun e w' => (∃ v, e = .returned v ∧ w'.ownsRow w.heap.size 26 2 v (refRing r).length (pairCells (refRing r))) ∧ Below w.heap.size w w' := by
  obtain ⟨i0, hi0, hz0, hz1, hz2⟩ := info_parts ptInfo
  have hn1 : IntKind.i64.wrap (-(r : Int)) = -(r : Int) := IntWalk.i64_in _ (by omega)
  have hn2 : IntKind.i64.wrap ((r : Int) - 1) = (r : Int) - 1 := IntWalk.i64_in _ (by omega)
  have hn3 : IntKind.i64.wrap (-(r : Int) + 1) = -(r : Int) + 1 := IntWalk.i64_in _ (by omega)
  go_enter Tryd.func52, Tryd.ntmps52
  go_wp2
  go_loopw [3, 4] (fun p i wr => ∃ k : Nat, k ≤ r + 1 ∧ i = .int .i64 ((k : Int)) ∧ ∃ v : Value, v = p ∧ Hid (wr.ownsRow w.heap.size 26 2 v (rgA r (k)).length (pairCells (rgA r (k))) ∧ Below w.heap.size w wr)) (fun _ i => fun _ => ((r : Int) + 1 - intOf i).toNat)
  case atStart => exact ⟨0, Nat.zero_le _, rfl, _, rfl, World.ownsRow_nil _ _ _ _, Below.refl _ _⟩
  case round =>
    obtain ⟨k, hk, rfl, v, rfl, HI⟩ := hrel
    by_cases hlt : k < r + 1
    · have hln : (rgA r (k)).length ≤ 10000 := by simp [rgA, rgB, rgC, rgD, rgE]; omega
      have hsn : pairCells (rgA r (k + 1)) = pairCells (rgA r (k)) ++ [.int .i64 ((r : Int)), .int .i64 ((k : Int))] := by
        rw [show (rgA r (k + 1)) = (rgA r (k)) ++ [((r : Int), (k : Int))] by simp [rgA, List.range_succ]]
        exact pairCells_snoc _ _
      have hll : (rgA r (k + 1)).length = (rgA r (k)).length + 1 := by simp [rgA, rgB, rgC, rgD, rgE]
      obtain ⟨y, hy⟩ : ∃ y : Int, (k : Int) = y := ⟨_, rfl⟩
      rw [hy] at hsn ⊢
      have hyb : -1000 ≤ y ∧ y ≤ 1000 := by omega
      have hcond : y ≤ (r : Int) := by omega
      have hnext : ((k + 1 : Nat) : Int) = y + 1 := by omega
      have hyw : IntKind.i64.wrap (y + 1) = y + 1 := IntWalk.i64_in _ (by omega)
      have HSN := Lib.hid hsn
      have HLL := Lib.hid hll
      have HNX := Lib.hid hnext
      have HY := Lib.hid hy
      obtain ⟨len, hlen⟩ : ∃ l, (rgA r (k)).length = l := ⟨_, rfl⟩
      rw [hlen] at HI HLL hln
      have hsz : w.heap.size ≤ wr.heap.size := HI.out.2.size
      clear hsn hll hnext hy hlen
      go_wp2_with (at_builtin; refine wpList_append_own _ rfl (.tmp 14) (.tmp 18) 102 rfl w.heap.size 26 i0 _ 2 16 Tryd.underlying102 hi0 hz0 hz1 hz2 rfl (by decide) _ _ _ rfl (HI.out.1.alloc _) ⟨wr.heap.size, 0, none⟩ 1 1 [.int .i64 ((r : Int)), .int .i64 (y)] rfl rfl (two_new _ _ _ _) (by simp [Value.oneCell']) (by unfold maxLen; omega) (by omega) (by simp; omega) ?_)
      intro v' w4 hown' hgrow _
      have HFIN : Hid (w4.ownsRow w.heap.size 26 2 v' (rgA r (k + 1)).length (pairCells (rgA r (k + 1))) ∧ Below w.heap.size w w4) := by
        show _ ∧ _
        rw [HSN.out, HLL.out]
        exact ⟨by first | exact hown' | simpa only [List.append_assoc] using hown', (HI.out.2.alloc HI.out.2.size _).grown hgrow (by simp; omega) (fun z e => (HI.out.1.lt z e).1)⟩
      clear hown' hgrow
      go_wp2
      go_roundw
      case rel => exact ⟨k + 1, by omega, by rw [HNX.out], _, rfl, HFIN.out⟩
      case measure => simp [intOf]; omega
    · have hke : k = r + 1 := by omega
      subst hke
      obtain ⟨wX0, hwX⟩ : ∃ W, W = wr := ⟨_, rfl⟩
      subst hwX
      have HP1 := HI
      have hcond : ¬ (((r + 1 : Nat) : Int)) ≤ (r : Int) := by omega
      clear HI hk hlt
      go_wp2
      go_loopw [3, 5] (fun p i wr => ∃ k : Nat, k ≤ 2 * r ∧ i = .int .i64 ((r : Int) - 1 - (k : Int)) ∧ ∃ v : Value, v = p ∧ Hid (wr.ownsRow w.heap.size 26 2 v (rgA r (r + 1) ++ rgB r (k)).length (pairCells (rgA r (r + 1) ++ rgB r (k))) ∧ Below w.heap.size w wr)) (fun _ i => fun _ => ((intOf i + (r : Int) + 1)).toNat)
      case atStart => exact ⟨0, Nat.zero_le _, by simp, _, rfl, by show _ ∧ _; rw [show rgB r 0 = [] from rfl, List.append_nil]; exact ⟨HP1.out.1, HP1.out.2⟩⟩
      case round =>
        obtain ⟨k, hk, rfl, v, rfl, HI⟩ := hrel
        by_cases hlt : k < 2 * r
        · have hln : (rgA r (r + 1) ++ rgB r (k)).length ≤ 10000 := by simp [rgA, rgB, rgC, rgD, rgE]; omega
          have hsn : pairCells (rgA r (r + 1) ++ rgB r (k + 1)) = pairCells (rgA r (r + 1) ++ rgB r (k)) ++ [.int .i64 ((r : Int) - 1 - (k : Int)), .int .i64 ((r : Int))] := by
            rw [show (rgA r (r + 1) ++ rgB r (k + 1)) = (rgA r (r + 1) ++ rgB r (k)) ++ [((r : Int) - 1 - (k : Int), (r : Int))] by simp [rgB, List.range_succ]]
            exact pairCells_snoc _ _
          have hll : (rgA r (r + 1) ++ rgB r (k + 1)).length = (rgA r (r + 1) ++ rgB r (k)).length + 1 := by simp [rgA, rgB, rgC, rgD, rgE]; omega
          obtain ⟨y, hy⟩ : ∃ y : Int, (r : Int) - 1 - (k : Int) = y := ⟨_, rfl⟩
          rw [hy] at hsn ⊢
          have hyb : -1000 ≤ y ∧ y ≤ 1000 := by omega
          have hcond : -(r : Int) ≤ y := by omega
          have hnext : (r : Int) - 1 - ((k + 1 : Nat) : Int) = y - 1 := by omega
          have hyw : IntKind.i64.wrap (y - 1) = y - 1 := IntWalk.i64_in _ (by omega)
          have HSN := Lib.hid hsn
          have HLL := Lib.hid hll
          have HNX := Lib.hid hnext
          have HY := Lib.hid hy
          obtain ⟨len, hlen⟩ : ∃ l, (rgA r (r + 1) ++ rgB r (k)).length = l := ⟨_, rfl⟩
          rw [hlen] at HI HLL hln
          have hsz : w.heap.size ≤ wr.heap.size := HI.out.2.size
          clear hsn hll hnext hy hlen
          go_wp2_with (at_builtin; refine wpList_append_own _ rfl (.tmp 28) (.tmp 32) 102 rfl w.heap.size 26 i0 _ 2 16 Tryd.underlying102 hi0 hz0 hz1 hz2 rfl (by decide) _ _ _ rfl (HI.out.1.alloc _) ⟨wr.heap.size, 0, none⟩ 1 1 [.int .i64 (y), .int .i64 ((r : Int))] rfl rfl (two_new _ _ _ _) (by simp [Value.oneCell']) (by unfold maxLen; omega) (by omega) (by simp; omega) ?_)
          intro v' w4 hown' hgrow _
          have HFIN : Hid (w4.ownsRow w.heap.size 26 2 v' (rgA r (r + 1) ++ rgB r (k + 1)).length (pairCells (rgA r (r + 1) ++ rgB r (k + 1))) ∧ Below w.heap.size w w4) := by
            show _ ∧ _
            rw [HSN.out, HLL.out]
            exact ⟨by first | exact hown' | simpa only [List.append_assoc] using hown', (HI.out.2.alloc HI.out.2.size _).grown hgrow (by simp; omega) (fun z e => (HI.out.1.lt z e).1)⟩
          clear hown' hgrow
          go_wp2
          go_roundw
          case rel => exact ⟨k + 1, by omega, by rw [HNX.out], _, rfl, HFIN.out⟩
          case measure => simp [intOf]; omega
        · have hke : k = 2 * r := by omega
          subst hke
          obtain ⟨wX1, hwX⟩ : ∃ W, W = wr := ⟨_, rfl⟩
          subst hwX
          have HP2 := HI
          have hcond : ¬ -(r : Int) ≤ (r : Int) - 1 - ((2 * r : Nat) : Int) := by omega
          clear HI hk hlt
          go_wp2
          go_loopw [3, 6] (fun p i wr => ∃ k : Nat, k ≤ 2 * r ∧ i = .int .i64 ((r : Int) - 1 - (k : Int)) ∧ ∃ v : Value, v = p ∧ Hid (wr.ownsRow w.heap.size 26 2 v (rgA r (r + 1) ++ rgB r (2 * r) ++ rgC r (k)).length (pairCells (rgA r (r + 1) ++ rgB r (2 * r) ++ rgC r (k))) ∧ Below w.heap.size w wr)) (fun _ i => fun _ => ((intOf i + (r : Int) + 1)).toNat)
          case atStart => exact ⟨0, Nat.zero_le _, by simp, _, rfl, by show _ ∧ _; rw [show rgC r 0 = [] from rfl, List.append_nil]; exact ⟨HP2.out.1, HP2.out.2⟩⟩
          case round =>
            obtain ⟨k, hk, rfl, v, rfl, HI⟩ := hrel
            by_cases hlt : k < 2 * r
            · have hln : (rgA r (r + 1) ++ rgB r (2 * r) ++ rgC r (k)).length ≤ 10000 := by simp [rgA, rgB, rgC, rgD, rgE]; omega
              have hsn : pairCells (rgA r (r + 1) ++ rgB r (2 * r) ++ rgC r (k + 1)) = pairCells (rgA r (r + 1) ++ rgB r (2 * r) ++ rgC r (k)) ++ [.int .i64 (-(r : Int)), .int .i64 ((r : Int) - 1 - (k : Int))] := by
                rw [show (rgA r (r + 1) ++ rgB r (2 * r) ++ rgC r (k + 1)) = (rgA r (r + 1) ++ rgB r (2 * r) ++ rgC r (k)) ++ [(-(r : Int), (r : Int) - 1 - (k : Int))] by simp [rgC, List.range_succ]]
                exact pairCells_snoc _ _
              have hll : (rgA r (r + 1) ++ rgB r (2 * r) ++ rgC r (k + 1)).length = (rgA r (r + 1) ++ rgB r (2 * r) ++ rgC r (k)).length + 1 := by simp [rgA, rgB, rgC, rgD, rgE]; omega
              obtain ⟨y, hy⟩ : ∃ y : Int, (r : Int) - 1 - (k : Int) = y := ⟨_, rfl⟩
              rw [hy] at hsn ⊢
              have hyb : -1000 ≤ y ∧ y ≤ 1000 := by omega
              have hcond : -(r : Int) ≤ y := by omega
              have hnext : (r : Int) - 1 - ((k + 1 : Nat) : Int) = y - 1 := by omega
              have hyw : IntKind.i64.wrap (y - 1) = y - 1 := IntWalk.i64_in _ (by omega)
              have HSN := Lib.hid hsn
              have HLL := Lib.hid hll
              have HNX := Lib.hid hnext
              have HY := Lib.hid hy
              obtain ⟨len, hlen⟩ : ∃ l, (rgA r (r + 1) ++ rgB r (2 * r) ++ rgC r (k)).length = l := ⟨_, rfl⟩
              rw [hlen] at HI HLL hln
              have hsz : w.heap.size ≤ wr.heap.size := HI.out.2.size
              clear hsn hll hnext hy hlen
              go_wp2_with (at_builtin; refine wpList_append_own _ rfl (.tmp 42) (.tmp 47) 102 rfl w.heap.size 26 i0 _ 2 16 Tryd.underlying102 hi0 hz0 hz1 hz2 rfl (by decide) _ _ _ rfl (HI.out.1.alloc _) ⟨wr.heap.size, 0, none⟩ 1 1 [.int .i64 (-(r : Int)), .int .i64 (y)] rfl rfl (two_new _ _ _ _) (by simp [Value.oneCell']) (by unfold maxLen; omega) (by omega) (by simp; omega) ?_)
              intro v' w4 hown' hgrow _
              have HFIN : Hid (w4.ownsRow w.heap.size 26 2 v' (rgA r (r + 1) ++ rgB r (2 * r) ++ rgC r (k + 1)).length (pairCells (rgA r (r + 1) ++ rgB r (2 * r) ++ rgC r (k + 1))) ∧ Below w.heap.size w w4) := by
                show _ ∧ _
                rw [HSN.out, HLL.out]
                exact ⟨by first | exact hown' | simpa only [List.append_assoc] using hown', (HI.out.2.alloc HI.out.2.size _).grown hgrow (by simp; omega) (fun z e => (HI.out.1.lt z e).1)⟩
              clear hown' hgrow
              go_wp2
              go_roundw
              case rel => exact ⟨k + 1, by omega, by rw [HNX.out], _, rfl, HFIN.out⟩
              case measure => simp [intOf]; omega
            · have hke : k = 2 * r := by omega
              subst hke
              obtain ⟨wX2, hwX⟩ : ∃ W, W = wr := ⟨_, rfl⟩
              subst hwX
              have HP3 := HI
              have hcond : ¬ -(r : Int) ≤ (r : Int) - 1 - ((2 * r : Nat) : Int) := by omega
              clear HI hk hlt
              go_wp2
              go_loopw [3, 7] (fun p i wr => ∃ k : Nat, k ≤ 2 * r ∧ i = .int .i64 (-(r : Int) + 1 + (k : Int)) ∧ ∃ v : Value, v = p ∧ Hid (wr.ownsRow w.heap.size 26 2 v (rgA r (r + 1) ++ rgB r (2 * r) ++ rgC r (2 * r) ++ rgD r (k)).length (pairCells (rgA r (r + 1) ++ rgB r (2 * r) ++ rgC r (2 * r) ++ rgD r (k))) ∧ Below w.heap.size w wr)) (fun _ i => fun _ => (((r : Int) + 1 - intOf i)).toNat)
              case atStart => exact ⟨0, Nat.zero_le _, by simp, _, rfl, by show _ ∧ _; rw [show rgD r 0 = [] from rfl, List.append_nil]; exact ⟨HP3.out.1, HP3.out.2⟩⟩
              case round =>
                obtain ⟨k, hk, rfl, v, rfl, HI⟩ := hrel
                by_cases hlt : k < 2 * r
                · have hln : (rgA r (r + 1) ++ rgB r (2 * r) ++ rgC r (2 * r) ++ rgD r (k)).length ≤ 10000 := by simp [rgA, rgB, rgC, rgD, rgE]; omega
                  have hsn : pairCells (rgA r (r + 1) ++ rgB r (2 * r) ++ rgC r (2 * r) ++ rgD r (k + 1)) = pairCells (rgA r (r + 1) ++ rgB r (2 * r) ++ rgC r (2 * r) ++ rgD r (k)) ++ [.int .i64 (-(r : Int) + 1 + (k : Int)), .int .i64 (-(r : Int))] := by
                    rw [show (rgA r (r + 1) ++ rgB r (2 * r) ++ rgC r (2 * r) ++ rgD r (k + 1)) = (rgA r (r + 1) ++ rgB r (2 * r) ++ rgC r (2 * r) ++ rgD r (k)) ++ [(-(r : Int) + 1 + (k : Int), -(r : Int))] by simp [rgD, List.range_succ]]
                    exact pairCells_snoc _ _
                  have hll : (rgA r (r + 1) ++ rgB r (2 * r) ++ rgC r (2 * r) ++ rgD r (k + 1)).length = (rgA r (r + 1) ++ rgB r (2 * r) ++ rgC r (2 * r) ++ rgD r (k)).length + 1 := by simp [rgA, rgB, rgC, rgD, rgE]; omega
                  obtain ⟨y, hy⟩ : ∃ y : Int, -(r : Int) + 1 + (k : Int) = y := ⟨_, rfl⟩
                  rw [hy] at hsn ⊢
                  have hyb : -1000 ≤ y ∧ y ≤ 1000 := by omega
                  have hcond : y ≤ (r : Int) := by omega
                  have hnext : -(r : Int) + 1 + ((k + 1 : Nat) : Int) = y + 1 := by omega
                  have hyw : IntKind.i64.wrap (y + 1) = y + 1 := IntWalk.i64_in _ (by omega)
                  have HSN := Lib.hid hsn
                  have HLL := Lib.hid hll
                  have HNX := Lib.hid hnext
                  have HY := Lib.hid hy
                  obtain ⟨len, hlen⟩ : ∃ l, (rgA r (r + 1) ++ rgB r (2 * r) ++ rgC r (2 * r) ++ rgD r (k)).length = l := ⟨_, rfl⟩
                  rw [hlen] at HI HLL hln
                  have hsz : w.heap.size ≤ wr.heap.size := HI.out.2.size
                  clear hsn hll hnext hy hlen
                  go_wp2_with (at_builtin; refine wpList_append_own _ rfl (.tmp 57) (.tmp 62) 102 rfl w.heap.size 26 i0 _ 2 16 Tryd.underlying102 hi0 hz0 hz1 hz2 rfl (by decide) _ _ _ rfl (HI.out.1.alloc _) ⟨wr.heap.size, 0, none⟩ 1 1 [.int .i64 (y), .int .i64 (-(r : Int))] rfl rfl (two_new _ _ _ _) (by simp [Value.oneCell']) (by unfold maxLen; omega) (by omega) (by simp; omega) ?_)
                  intro v' w4 hown' hgrow _
                  have HFIN : Hid (w4.ownsRow w.heap.size 26 2 v' (rgA r (r + 1) ++ rgB r (2 * r) ++ rgC r (2 * r) ++ rgD r (k + 1)).length (pairCells (rgA r (r + 1) ++ rgB r (2 * r) ++ rgC r (2 * r) ++ rgD r (k + 1))) ∧ Below w.heap.size w w4) := by
                    show _ ∧ _
                    rw [HSN.out, HLL.out]
                    exact ⟨by first | exact hown' | simpa only [List.append_assoc] using hown', (HI.out.2.alloc HI.out.2.size _).grown hgrow (by simp; omega) (fun z e => (HI.out.1.lt z e).1)⟩
                  clear hown' hgrow
                  go_wp2
                  go_roundw
                  case rel => exact ⟨k + 1, by omega, by rw [HNX.out], _, rfl, HFIN.out⟩
                  case measure => simp [intOf]; omega
                · have hke : k = 2 * r := by omega
                  subst hke
                  obtain ⟨wX3, hwX⟩ : ∃ W, W = wr := ⟨_, rfl⟩
                  subst hwX
                  have HP4 := HI
                  have hcond : ¬ -(r : Int) + 1 + ((2 * r : Nat) : Int) ≤ (r : Int) := by omega
                  clear HI hk hlt
                  go_wp2
                  go_loopw [3, 8] (fun p i wr => ∃ k : Nat, k ≤ r - 1 ∧ i = .int .i64 (-(r : Int) + 1 + (k : Int)) ∧ ∃ v : Value, v = p ∧ Hid (wr.ownsRow w.heap.size 26 2 v (rgA r (r + 1) ++ rgB r (2 * r) ++ rgC r (2 * r) ++ rgD r (2 * r) ++ rgE r (k)).length (pairCells (rgA r (r + 1) ++ rgB r (2 * r) ++ rgC r (2 * r) ++ rgD r (2 * r) ++ rgE r (k))) ∧ Below w.heap.size w wr)) (fun _ i => fun _ => (((r : Int) + 1 - intOf i)).toNat)
                  case atStart => exact ⟨0, Nat.zero_le _, by simp, _, rfl, by show _ ∧ _; rw [show rgE r 0 = [] from rfl, List.append_nil]; exact ⟨HP4.out.1, HP4.out.2⟩⟩
                  case round =>
                    obtain ⟨k, hk, rfl, v, rfl, HI⟩ := hrel
                    by_cases hlt : k < r - 1
                    · have hln : (rgA r (r + 1) ++ rgB r (2 * r) ++ rgC r (2 * r) ++ rgD r (2 * r) ++ rgE r (k)).length ≤ 10000 := by simp [rgA, rgB, rgC, rgD, rgE]; omega
                      have hsn : pairCells (rgA r (r + 1) ++ rgB r (2 * r) ++ rgC r (2 * r) ++ rgD r (2 * r) ++ rgE r (k + 1)) = pairCells (rgA r (r + 1) ++ rgB r (2 * r) ++ rgC r (2 * r) ++ rgD r (2 * r) ++ rgE r (k)) ++ [.int .i64 ((r : Int)), .int .i64 (-(r : Int) + 1 + (k : Int))] := by
                        rw [show (rgA r (r + 1) ++ rgB r (2 * r) ++ rgC r (2 * r) ++ rgD r (2 * r) ++ rgE r (k + 1)) = (rgA r (r + 1) ++ rgB r (2 * r) ++ rgC r (2 * r) ++ rgD r (2 * r) ++ rgE r (k)) ++ [((r : Int), -(r : Int) + 1 + (k : Int))] by simp [rgE, List.range_succ]]
                        exact pairCells_snoc _ _
                      have hll : (rgA r (r + 1) ++ rgB r (2 * r) ++ rgC r (2 * r) ++ rgD r (2 * r) ++ rgE r (k + 1)).length = (rgA r (r + 1) ++ rgB r (2 * r) ++ rgC r (2 * r) ++ rgD r (2 * r) ++ rgE r (k)).length + 1 := by simp [rgA, rgB, rgC, rgD, rgE]; omega
                      obtain ⟨y, hy⟩ : ∃ y : Int, -(r : Int) + 1 + (k : Int) = y := ⟨_, rfl⟩
                      rw [hy] at hsn ⊢
                      have hyb : -1000 ≤ y ∧ y ≤ 1000 := by omega
                      have hcond : y < 0 := by omega
                      have hnext : -(r : Int) + 1 + ((k + 1 : Nat) : Int) = y + 1 := by omega
                      have hyw : IntKind.i64.wrap (y + 1) = y + 1 := IntWalk.i64_in _ (by omega)
                      have HSN := Lib.hid hsn
                      have HLL := Lib.hid hll
                      have HNX := Lib.hid hnext
                      have HY := Lib.hid hy
                      obtain ⟨len, hlen⟩ : ∃ l, (rgA r (r + 1) ++ rgB r (2 * r) ++ rgC r (2 * r) ++ rgD r (2 * r) ++ rgE r (k)).length = l := ⟨_, rfl⟩
                      rw [hlen] at HI HLL hln
                      have hsz : w.heap.size ≤ wr.heap.size := HI.out.2.size
                      clear hsn hll hnext hy hlen
                      go_wp2_with (at_builtin; refine wpList_append_own _ rfl (.tmp 71) (.tmp 75) 102 rfl w.heap.size 26 i0 _ 2 16 Tryd.underlying102 hi0 hz0 hz1 hz2 rfl (by decide) _ _ _ rfl (HI.out.1.alloc _) ⟨wr.heap.size, 0, none⟩ 1 1 [.int .i64 ((r : Int)), .int .i64 (y)] rfl rfl (two_new _ _ _ _) (by simp [Value.oneCell']) (by unfold maxLen; omega) (by omega) (by simp; omega) ?_)
                      intro v' w4 hown' hgrow _
                      have HFIN : Hid (w4.ownsRow w.heap.size 26 2 v' (rgA r (r + 1) ++ rgB r (2 * r) ++ rgC r (2 * r) ++ rgD r (2 * r) ++ rgE r (k + 1)).length (pairCells (rgA r (r + 1) ++ rgB r (2 * r) ++ rgC r (2 * r) ++ rgD r (2 * r) ++ rgE r (k + 1))) ∧ Below w.heap.size w w4) := by
                        show _ ∧ _
                        rw [HSN.out, HLL.out]
                        exact ⟨by first | exact hown' | simpa only [List.append_assoc] using hown', (HI.out.2.alloc HI.out.2.size _).grown hgrow (by simp; omega) (fun z e => (HI.out.1.lt z e).1)⟩
                      clear hown' hgrow
                      go_wp2
                      go_roundw
                      case rel => exact ⟨k + 1, by omega, by rw [HNX.out], _, rfl, HFIN.out⟩
                      case measure => simp [intOf]; omega
                    · have hke : k = r - 1 := by omega
                      subst hke
                      obtain ⟨wX4, hwX⟩ : ∃ W, W = wr := ⟨_, rfl⟩
                      subst hwX
                      have HP5 := HI
                      have hcond : ¬ -(r : Int) + 1 + ((r - 1 : Nat) : Int) < 0 := by omega
                      clear HI hk hlt
                      go_wp2
                      go_ret
                      exact ⟨⟨_, rfl, HP5.out.1⟩, HP5.out.2⟩

end Go.Proofs.YtofdjapbofagiaaDoor
