import Derived.Test.YtjjflbnopphciaaGreatDoorB4
import Derived.Test.YtjjflbnopphciaaGreatDoorB5
namespace Go.Proofs.YtjjflbnopphciaaGreatDoor
open Go.RowKit

def brE (xs : List Int) (gs : List (Int × Int)) : Int := if posE xs = 0 then gapsE (xs.length : Nat) gs else posE xs
def brL (xs : List Int) (gs : List (Int × Int)) : List Int := if brE xs gs = 0 then bridgedL xs gs else []
theorem pos_ok {xs : List Int} (h : posE xs = 0) : xs.length ≤ 200 ∧ Small xs := by
  unfold posE at h
  by_cases h1 : 200 < xs.length
  · rw [if_pos h1] at h; omega
  · rw [if_neg h1] at h
    by_cases h2 : fromB (-1000000) 1000000 xs = true
    · refine ⟨by omega, fun x hx => ?_⟩
      unfold fromB at h2
      rw [List.all_eq_true] at h2
      simpa using h2 x hx
    · rw [if_neg h2] at h; omega

set_option maxRecDepth 100000 in
set_option maxHeartbeats 2000000 in
theorem Bridged_any (A : Option Addr) (n c g m cm : Nat) (xs : List Int) (gs : List (Int × Int)) (w : World) (hx : RdI w A n xs) (hr : RdR w g m gs) (hn : n ≤ 1000000) (hm : m ≤ 1000000) :
    Calls Tryz.prog 28 #[.slice A n c, .slice (some ⟨g, 0, none⟩) m cm] w (OwnRes w (brE xs gs) (brL xs gs)) := by
  have C1 := Lib.hid (checkPositions_any A n c xs w hx (by omega))
  have C2 := Lib.hid (checkGaps_any g m cm n gs w hr hm hn)
  have hln := hx.1
  have HX := Lib.hid hx
  have HR := Lib.hid hr
  have HLN := Lib.hid hln
  clear hx hr
  by_cases hE1 : posE xs = 0
  · rw [hE1] at C1
    have hbr : brE xs gs = gapsE n gs := by unfold brE; rw [if_pos hE1, hln]
    have hpo := pos_ok hE1
    clear hE1 hln
    by_cases hE2 : gapsE n gs = 0
    · rw [hE2] at C2 hbr
      have HL : Hid (brL xs gs = bridgedL xs gs) := by show _ = _; unfold brL; rw [if_pos hbr]
      rw [hbr, HL.out]
      have hF : gapsF n none gs = 0 ∧ (0, (n : Int) - 1) ∉ gs := by
        unfold gapsE at hE2
        by_cases h : gapsF n none gs = 0
        · rw [if_pos h] at hE2
          refine ⟨h, fun hm => ?_⟩
          rw [if_pos hm] at hE2; omega
        · rw [if_neg h] at hE2; exact absurd hE2 h
      have HF := Lib.hid hF
      have HPO := Lib.hid hpo
      clear hE2 hbr HL hF hpo
      go_enter Tryz.func28, Tryz.ntmps28
      go_wp2_with fail
      refine C1.out.mono ?_
      rintro e w' ⟨rfl, rfl⟩
      go_wp2_with fail
      refine C2.out.mono ?_
      rintro e w1 ⟨rfl, hb1⟩
      have HB1 := Lib.hid hb1
      have CC := Lib.hid (clone_any A n c xs w1 (HX.out.below hb1) hn)
      clear hb1 C1 C2
      go_wp2_with fail
      refine CC.out.mono ?_
      rintro e w2 ⟨⟨v, rfl, hown⟩, hb2⟩
      rw [HLN.out] at hown
      have HO : Hid (w2.ownsRow w.heap.size 3 1 v n (xs.map (Value.int .i64))) := ownMono hown HB1.out.size
      have HB2 := Lib.hid (HB1.out.trans (hb2.mono HB1.out.size))
      clear hown hb2 CC HB1
      obtain ⟨Ab, cb, rfl, _, _⟩ := rd_of_own HO.out
      go_wp2
      go_loopw [27] (fun i wr => ∃ k : Nat, k ≤ m ∧ i = .int .i64 k ∧ Hid (wr.ownsRow w.heap.size 3 1 (.slice Ab n cb) n ((bridgedL xs (gs.take k)).map (Value.int .i64)) ∧ Below w.heap.size w wr)) (fun i _ => m - (intOf i).toNat)
      case atStart => exact ⟨0, Nat.zero_le _, rfl, HO.out, HB2.out⟩
      case round =>
        obtain ⟨k, hk, rfl, HI⟩ := hrel
        by_cases hlt : k < m
        · have hkI : (k : Int) < (m : Int) := by omega
          obtain ⟨h1, h2⟩ := (HR.out.below HI.out.2).2.2 k hlt
          have hmem : gs.getD k (0, 0) ∈ gs := by
            rw [List.getD_eq_getElem?_getD, List.getElem?_eq_getElem (by rw [HR.out.1]; exact hlt)]
            exact List.getElem_mem _
          have hok := gapsF_ok HF.out.1 _ hmem
          have htk : gs.take (k + 1) = gs.take k ++ [gs.getD k (0, 0)] := by
            rw [List.take_succ_eq_append_getElem (by rw [HR.out.1]; exact hlt)]
            simp [List.getD_eq_getElem?_getD, List.getElem?_eq_getElem (show k < gs.length by rw [HR.out.1]; exact hlt)]
          have hnot : ¬ (gs.getD k (0, 0) = (0, (n : Int) - 1)) := fun e => HF.out.2 (e ▸ hmem)
          obtain ⟨⟨lo, hi⟩, hxy⟩ : ∃ p, gs.getD k (0, 0) = p := ⟨_, rfl⟩
          rw [hxy] at h1 h2 hok htk hnot
          dsimp only at h1 h2 hok
          obtain ⟨lo, rfl⟩ := Int.eq_ofNat_of_zero_le hok.1
          obtain ⟨hi, rfl⟩ := Int.eq_ofNat_of_zero_le (show 0 ≤ hi by omega)
          have HTK : Hid (bridgedL xs (gs.take (k + 1)) = bridgeL (bridgedL xs (gs.take k)) lo hi) := by
            show _ = _
            rw [htk, bridgedL_snoc]; rfl
          have hn0 : 0 < n := by omega
          obtain ⟨g', e'⟩ : ∃ g', Ab = some ⟨g', 0, none⟩ := by
            rcases HI.out.1.2 with ⟨_, h0⟩ | ⟨g', cap, cur, e, _⟩
            · omega
            · injection e with e; exact ⟨g', e⟩
          subst e'
          have HBR := Lib.hid (bridge_any w.heap.size g' n cb lo hi (bridgedL xs (gs.take k)) (wr.alloc (.cells #[.int .i64 (lo : Int), .int .i64 (hi : Int)] 51)) (HI.out.1.alloc _) (bridgedL_small HPO.out.2 _) (by have := HPO.out.1; have := HLN.out; omega) (by omega) (by omega) (fun ⟨a, b⟩ => hnot (by rw [Prod.mk.injEq]; omega)))
          have hg' : w.heap.size ≤ g' := (HI.out.1.lt g' rfl).1
          clear hmem htk hnot hxy
          go_wp2_with fail
          refine HBR.out.mono ?_
          rintro e w3 ⟨⟨u, rfl⟩, ho3, hg3⟩
          have HN : Hid (w3.ownsRow w.heap.size 3 1 (.slice (some ⟨g', 0, none⟩) n cb) n ((bridgedL xs (gs.take (k + 1))).map (Value.int .i64)) ∧ Below w.heap.size w w3) := by
            refine ⟨by rw [HTK.out]; exact ho3, (HI.out.2.alloc HI.out.2.size _).grown hg3 (by have := HI.out.2.size; simp; omega) (fun z e => by injection e; omega)⟩
          clear HBR ho3 hg3
          go_wp2
          go_roundw
          case rel => exact ⟨k + 1, by omega, by go_num, HN.out⟩
          case measure => simp [intOf]; omega
        · obtain rfl : k = m := by omega
          have HFIN : Hid (gs.take k = gs) := by show _ = _; rw [List.take_of_length_le (by rw [HR.out.1]; exact Nat.le_refl _)]
          go_wp2
          go_ret2
          refine ⟨⟨_, rfl, ?_⟩, HI.out.2⟩
          have h := HI.out.1
          rw [HFIN.out] at h
          rw [bridgedL_length, HLN.out]
          exact h
    · rw [hbr]
      have HL : Hid (brL xs gs = []) := by show _ = _; unfold brL; rw [if_neg (by rw [hbr]; exact hE2)]
      rw [HL.out]
      obtain ⟨E, hEe⟩ : ∃ E, gapsE n gs = E := ⟨_, rfl⟩
      rw [hEe] at hE2 C2 ⊢
      have h1 : (E != 0) = true := by simpa using hE2
      clear hEe hE2 hbr HL hpo
      go_enter Tryz.func28, Tryz.ntmps28
      go_wp2_with fail
      refine C1.out.mono ?_
      rintro e w' ⟨rfl, rfl⟩
      go_wp2_with fail
      refine C2.out.mono ?_
      rintro e w1 ⟨rfl, hb1⟩
      have HB1 := Lib.hid hb1
      clear hb1 C1 C2
      go_wp2
      go_ret2
      exact OwnRes.none_ HB1.out
  · have hbr : brE xs gs = posE xs := by unfold brE; rw [if_neg hE1]
    have HL : Hid (brL xs gs = []) := by show _ = _; unfold brL; rw [if_neg (by rw [hbr]; exact hE1)]
    rw [hbr, HL.out]
    obtain ⟨E, hEe⟩ : ∃ E, posE xs = E := ⟨_, rfl⟩
    rw [hEe] at hE1 C1 ⊢
    have h1 : (E != 0) = true := by simpa using hE1
    clear hEe hE1 hbr HL C2 hln
    go_enter Tryz.func28, Tryz.ntmps28
    go_wp2_with fail
    refine C1.out.mono ?_
    rintro e w' ⟨rfl, rfl⟩
    clear C1
    go_wp2
    go_ret2
    exact OwnRes.none_ (Below.refl _ _)

end Go.Proofs.YtjjflbnopphciaaGreatDoor
