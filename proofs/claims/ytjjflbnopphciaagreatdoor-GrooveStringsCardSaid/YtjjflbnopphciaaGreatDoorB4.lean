import Derived.Test.YtjjflbnopphciaaGreatDoorB3
import Derived.Laws.OwnMore
namespace Go.Proofs.YtjjflbnopphciaaGreatDoor
open Go.RowKit

def BridgeRes (base g n cap : Nat) (ys : List Int) (w : World) (e : Ending) (w' : World) : Prop :=
  (∃ v, e = .returned v) ∧ w'.ownsRow base 3 1 (.slice (some ⟨g, 0, none⟩) n cap) n (ys.map (Value.int .i64)) ∧ w.grownBy w' (some g)
def BridgeI (base g n cap : Nat) (ys : List Int) (w0 wr : World) (s : Nat) (lo hi : Int) : Prop :=
  wr.ownsRow base 3 1 (.slice (some ⟨g, 0, none⟩) n cap) n (ys.map (Value.int .i64)) ∧ w0.grownBy wr (some g) ∧ Bk wr s 51 #[.int .i64 lo, .int .i64 hi]
theorem grownRefl (w : World) (r : Option Nat) : w.grownBy w r := World.grownBy.refl w r
theorem grownDrew (w : World) (r : Option Nat) : w.grownBy w.drew r := ⟨rfl, rfl, rfl, Nat.le_refl _, fun _ _ _ => rfl⟩
theorem grownDrewN (w : World) (k : Nat) (r : Option Nat) : w.grownBy (w.drewN k) r := ⟨rfl, rfl, rfl, Nat.le_refl _, fun _ _ _ => rfl⟩
theorem rd_of_ownS {w : World} {base g n cap : Nat} {xs : List Int} (h : w.ownsRow base 3 1 (.slice (some ⟨g, 0, none⟩) n cap) n (xs.map (Value.int .i64))) : RdI w (some ⟨g, 0, none⟩) n xs := by
  obtain ⟨A, c, e, _, hr⟩ := rd_of_own h
  cases e
  exact hr

set_option maxRecDepth 100000 in
set_option maxHeartbeats 2000000 in
theorem bridge_any (base g n cap lo hi : Nat) (xs : List Int) (w : World) (ho : w.ownsRow base 3 1 (.slice (some ⟨g, 0, none⟩) n cap) n (xs.map (Value.int .i64))) (hsm : Small xs) (hn : n ≤ 1000) (h1 : lo ≤ hi) (h2 : hi < n) (h3 : ¬ (lo = 0 ∧ hi + 1 = n)) :
    Calls Tryz.prog 58 #[.slice (some ⟨g, 0, none⟩) n cap, .agg #[.int .i64 lo, .int .i64 hi]] w (BridgeRes base g n cap (bridgeL xs lo hi) w) := by
  have hln : xs.length = n := by have := ho.1; simpa using this
  have hglt := (ho.lt g rfl).2
  have HO := Lib.hid ho
  have HSM := Lib.hid hsm
  have HLN := Lib.hid hln
  have HS0 : Hid ((fun w' : World => w'.cell? ⟨w.heap.size, 0, none⟩ = some (.int .i64 lo) ∧ w'.cell? ⟨w.heap.size, 1, none⟩ = some (.int .i64 hi)) (w.alloc (.cells #[.int .i64 lo, .int .i64 hi] 51)).drew) := ⟨by simp [go_sem], by simp [go_sem]⟩
  have hw1 : IntKind.i64.wrap ((lo : Int) - 1) = (lo : Int) - 1 := IntWalk.i64_in _ (by omega)
  have hw2 : IntKind.i64.wrap ((hi : Int) + 1) = (hi : Int) + 1 := IntWalk.i64_in _ (by omega)
  have C := Lib.hid (endsOf_any g n cap lo hi xs (w.alloc (.cells #[.int .i64 lo, .int .i64 hi] 51)).drew (rd_of_ownS (ho.alloc _)) (by omega) h1 h2 h3)
  clear ho hsm hln
  go_enter Tryz.func58, Tryz.ntmps58
  go_wp2_with fail
  refine wp_region_held_drew (S := (fun w' : World => w'.cell? ⟨w.heap.size, 0, none⟩ = some (.int .i64 lo) ∧ w'.cell? ⟨w.heap.size, 1, none⟩ = some (.int .i64 hi))) (by kernel_rfl) ?_ ?_
  · exact HS0.out
  intro hHeld
  refine wpAnyH_take (i := 0) (v := ?_) rfl (by kernel_rfl) (by kernel_rfl) (by kernel_rfl) (fun _ _ _ h => h) (Or.inl ⟨by rfl, ?_⟩) (by assumption) ?_
  rotate_left
  · intro w hSw; (try dsimp only at hSw); go_simp; (try (with_reducible rfl))
  try simp only [List.getElem_toArray, List.getElem_cons_succ, List.getElem_cons_zero, Act.put, List.setIfInBounds_toArray, List.set_cons_zero, List.set_cons_succ]
  refine wpAnyH_take (i := 1) (v := ?_) rfl (by kernel_rfl) (by kernel_rfl) (by kernel_rfl) (fun _ _ _ h => h) (Or.inl ⟨by rfl, ?_⟩) (by assumption) ?_
  rotate_left
  · intro w hSw; (try dsimp only at hSw); go_simp; (try (with_reducible rfl))
  try simp only [List.getElem_toArray, List.getElem_cons_succ, List.getElem_cons_zero, Act.put, List.setIfInBounds_toArray, List.set_cons_zero, List.set_cons_succ]
  refine wpAnyH_take (i := 2) (v := ?_) rfl (by kernel_rfl) (by kernel_rfl) (by kernel_rfl) (fun _ _ _ h => h) (Or.inl ⟨by rfl, ?_⟩) (by assumption) ?_
  rotate_left
  · intro w hSw; (try dsimp only at hSw); go_simp; (try (with_reducible rfl))
  try simp only [List.getElem_toArray, List.getElem_cons_succ, List.getElem_cons_zero, Act.put, List.setIfInBounds_toArray, List.set_cons_zero, List.set_cons_succ]
  refine wpAnyH_take (i := 3) (v := ?_) rfl (by kernel_rfl) (by kernel_rfl) (by kernel_rfl) (fun _ _ _ h => h) (Or.inl ⟨by rfl, ?_⟩) (by assumption) ?_
  rotate_left
  · intro w hSw; (try dsimp only at hSw); go_simp; (try (with_reducible rfl))
  try simp only [List.getElem_toArray, List.getElem_cons_succ, List.getElem_cons_zero, Act.put, List.setIfInBounds_toArray, List.set_cons_zero, List.set_cons_succ]
  refine wpAnyH_take (i := 4) (v := ?_) rfl (by kernel_rfl) (by kernel_rfl) (by kernel_rfl) (fun _ _ _ h => h) (Or.inl ⟨by rfl, ?_⟩) (by assumption) ?_
  rotate_left
  · intro w hSw; (try dsimp only at hSw); go_simp; (try (with_reducible rfl))
  try simp only [List.getElem_toArray, List.getElem_cons_succ, List.getElem_cons_zero, Act.put, List.setIfInBounds_toArray, List.set_cons_zero, List.set_cons_succ]
  refine wpAnyH_take (i := 5) (v := ?_) rfl (by kernel_rfl) (by kernel_rfl) (by kernel_rfl) (fun _ _ _ h => h) (Or.inl ⟨by rfl, ?_⟩) (by assumption) ?_
  rotate_left
  · intro w hSw; (try dsimp only at hSw); go_simp; (try (with_reducible rfl))
  try simp only [List.getElem_toArray, List.getElem_cons_succ, List.getElem_cons_zero, Act.put, List.setIfInBounds_toArray, List.set_cons_zero, List.set_cons_succ]
  refine wpAnyH_take (i := 6) (v := ?_) rfl (by kernel_rfl) (by kernel_rfl) (by kernel_rfl) (fun _ _ _ h => h) (Or.inl ⟨by rfl, ?_⟩) (by assumption) ?_
  rotate_left
  · intro w hSw; (try dsimp only at hSw); go_simp; (try (with_reducible rfl))
  try simp only [List.getElem_toArray, List.getElem_cons_succ, List.getElem_cons_zero, Act.put, List.setIfInBounds_toArray, List.set_cons_zero, List.set_cons_succ]
  refine wpAnyH_take (i := 7) (v := ?_) rfl (by kernel_rfl) (by kernel_rfl) (by kernel_rfl) (fun _ _ _ h => h) (Or.inl ⟨by rfl, ?_⟩) (by assumption) ?_
  rotate_left
  · intro w hSw; (try dsimp only at hSw); go_simp; (try (with_reducible rfl))
  try simp only [List.getElem_toArray, List.getElem_cons_succ, List.getElem_cons_zero, Act.put, List.setIfInBounds_toArray, List.set_cons_zero, List.set_cons_succ]
  refine wpAnyH_done (by kernel_rfl) ?_ _
  clear hHeld HS0
  have hq0 : (w.alloc (.cells #[.int .i64 lo, .int .i64 hi] 51)).cell? ⟨w.heap.size, 0, none⟩ = some (.int .i64 lo) := by simp [go_sem]
  go_wp2_with fail
  refine C.out.mono ?_
  rintro e w' ⟨rfl, kk, rfl⟩
  obtain ⟨⟨p1, p2⟩, hp⟩ : ∃ p, endsL xs lo hi = p := ⟨_, rfl⟩
  have hpb : (-1000000 ≤ p1 ∧ p1 ≤ 1000000) ∧ -1000000 ≤ p2 ∧ p2 ≤ 1000000 := by have := HSM.out.ends lo hi; rw [hp] at this; exact this
  rw [hp]
  have HP := Lib.hid hp
  dsimp only
  clear hp C hq0
  have hb1 := Bk.new w 51 #[.int .i64 lo, .int .i64 hi]
  obtain ⟨W1, hW1⟩ : ∃ W1, (((w.alloc (.cells #[.int .i64 lo, .int .i64 hi] 51)).drew.alloc (.cells #[.int .i64 lo, .int .i64 hi] 51)).drewN kk) = W1 := ⟨_, rfl⟩
  rw [hW1]
  have HI0 : Hid (BridgeI base g n cap xs w W1 w.heap.size lo hi) := by
    rw [← hW1]
    refine ⟨(HO.out.alloc _).drew.alloc _, ?_, ((hb1.drew).alloc _).drewN kk⟩
    exact (((World.grownBy_alloc w _ (some g)).trans (grownDrew _ _)).trans (World.grownBy_alloc _ _ (some g))).trans (grownDrewN _ _ _)
  clear hW1 hb1
  have r0 : W1.cell? ⟨w.heap.size, 0, none⟩ = some (.int .i64 lo) := by rw [HI0.out.2.2.cell]; rfl
  go_wp2_with fail
  clear r0
  go_loopw [8] (fun i wr => ∃ t : Nat, lo ≤ t ∧ t ≤ hi + 1 ∧ i = .int .i64 t ∧ Hid (BridgeI base g n cap (bridgeTo (p1, p2) xs lo hi (t - lo)) w wr w.heap.size lo hi)) (fun i _ => hi + 1 - (intOf i).toNat)
  case atStart => exact ⟨lo, Nat.le_refl _, by omega, rfl, by show BridgeI _ _ _ _ _ _ _ _ _ _; rw [Nat.sub_self, bridgeTo_zero]; exact HI0.out⟩
  case round =>
    obtain ⟨t, ht1, ht2, rfl, HI⟩ := hrel
    have c0 : wr.cell? ⟨w.heap.size, 0, none⟩ = some (.int .i64 lo) := by rw [HI.out.2.2.cell]; rfl
    have c1 : wr.cell? ⟨w.heap.size, 1, none⟩ = some (.int .i64 hi) := by rw [HI.out.2.2.cell]; rfl
    by_cases hlt : t ≤ hi
    · have hltI : (t : Int) ≤ (hi : Int) := by omega
      obtain ⟨y, hy⟩ : ∃ y, lerp p1 p2 ((t : Int) - ((lo : Int) - 1)) (((hi : Int) + 1) - ((lo : Int) - 1)) = y := ⟨_, rfl⟩
      have hyb : -1000000 ≤ y ∧ y ≤ 1000000 := by
        have := bridgeAt_bd (p := (p1, p2)) hpb (lo := lo) (hi := hi) (i := t) ht1 hlt
        unfold bridgeAt at this
        rw [hy] at this
        exact this
      have hset := bridgeTo_set (p1, p2) xs lo hi (t - lo)
      rw [show lo + (t - lo) = t by omega, show t - lo + 1 = t + 1 - lo by omega] at hset
      have hba : bridgeAt (p1, p2) lo hi t = y := hy
      rw [hba] at hset
      have HSET := Lib.hid hset
      have hmb := mul_bd (x := p2 - p1) (t := (t : Int) - ((lo : Int) - 1)) (M := 2000000) (T := 2000) (by omega) (by omega) (by omega) (by omega) (by omega)
      have HR : Hid (∀ W, Calls Tryz.prog 86 #[.int .i64 ((p2 - p1) * ((t : Int) - ((lo : Int) - 1))), .int .i64 (((hi : Int) + 1) - ((lo : Int) - 1))] W fun e w' => e = .returned (.int .i64 (y - p1)) ∧ W = w') := fun W => by
        have e : y - p1 = (p2 - p1) * ((t : Int) - ((lo : Int) - 1)) / (((hi : Int) + 1) - ((lo : Int) - 1)) := by rw [← hy]; unfold lerp; omega
        rw [e]
        exact roundedDown_any _ _ (by omega) (by omega) W
      have hs3 : IntKind.i64.wrap ((p2 - p1) * ((t : Int) - ((lo : Int) - 1))) = (p2 - p1) * ((t : Int) - ((lo : Int) - 1)) := IntWalk.i64_in _ (by omega)
      have hs5 : p1 + (y - p1) = y := by omega
      have hold := HI.out.1.cellAt t (by omega)
      have hfz := HI.out.1.frozenAt t
      rw [List.getElem?_map, List.getElem?_eq_getElem (by rw [bridgeTo_length, HLN.out]; omega)] at hold
      obtain ⟨o, hoo⟩ : ∃ o, (bridgeTo (p1, p2) xs lo hi (t - lo))[t]'(by rw [bridgeTo_length, HLN.out]; omega) = o := ⟨_, rfl⟩
      rw [hoo] at hold
      have htn : (t : Int) < (n : Int) := by omega
      have hgs : w.heap.size ≠ g := by omega
      clear hoo hy hset hba hmb
      go_wp2_with fail
      refine (HR.out _).mono ?_
      rintro e w' ⟨rfl, rfl⟩
      have HF : Hid (BridgeI base g n cap (bridgeTo (p1, p2) xs lo hi (t + 1 - lo)) w (wr.setCell ⟨g, t, none⟩ (.int .i64 y)) w.heap.size lo hi) := by
        obtain ⟨k1, k2⟩ := HI.out.1.stored t (.int .i64 y)
        have e : ((bridgeTo (p1, p2) xs lo hi (t - lo)).map (Value.int .i64)).set t (.int .i64 y) = (bridgeTo (p1, p2) xs lo hi (t + 1 - lo)).map (Value.int .i64) := by rw [← HSET.out, List.map_set]
        rw [e] at k1
        exact ⟨k1, HI.out.2.1.trans k2, HI.out.2.2.far _ (by dsimp only; omega) _⟩
      clear HR hs3 HSET
      go_wp2
      go_roundw
      case rel => exact ⟨t + 1, by omega, by omega, by go_num, HF.out⟩
      case measure => simp [intOf]; omega
    · have hltI : ¬ (t : Int) ≤ (hi : Int) := by omega
      obtain rfl : t = hi + 1 := by omega
      go_wp2
      refine bodyPost_ret (results_none rfl _ _ _) rfl ?_
      refine ⟨⟨_, rfl⟩, ?_, HI.out.2.1⟩
      have h := HI.out.1
      unfold bridgeL
      rw [HP.out]
      exact h

end Go.Proofs.YtjjflbnopphciaaGreatDoor
