import Derived.Test.YtpkjkegcdddimaaDoorT0
namespace Go.Proofs.YtpkjkegcdddimaaDoor
open Go.RowKit

set_option maxRecDepth 100000 in
set_option maxHeartbeats 2000000 in
theorem copyLists_any (A : Option Addr) (n c : Nat) (rows : List (List Int)) (w : World) (hr : RdGN w A n rows) (hn : n ≤ 1000000) (hm : ∀ j, j < n → (rows.getD j []).length ≤ 203) :
    Calls Tryd.prog 39 #[.slice A n c] w fun e w' => (∃ v, e = .returned v ∧ OwnL w' w.heap.size v n rows) ∧ Below w.heap.size w w' := by
  have HR := Lib.hid hr; clear hr
  have HM : Hid (True ∧ ∀ j, j < n → (rows.getD j []).length ≤ 203) := ⟨trivial, hm⟩
  clear hm
  obtain ⟨i0, hi0, hz0, hz1, hz2⟩ := info_parts sliceInfo
  go_enter Tryd.func39, Tryd.ntmps39
  go_wp2
  go_loopw [3, 4] (fun p i wr => ∃ k : Nat, k ≤ n ∧ i = .int .i64 k ∧ Hid (OwnL wr w.heap.size p k rows ∧ Below w.heap.size w wr)) (fun _ i _ => n - (intOf i).toNat)
  case atStart => exact ⟨0, Nat.zero_le _, rfl, ⟨[], World.ownsRow_nil _ _ _ _, fun j hj => absurd hj (by omega)⟩, Below.refl _ _⟩
  case round =>
    obtain ⟨k, hk, rfl, HI⟩ := hrel
    by_cases hlt : k < n
    · obtain ⟨ad, ha, hadb, hc⟩ := HR.out.2 (by omega)
      obtain ⟨B, m, c', hck, hrow, hm, hBn⟩ := hc k hlt
      clear hc
      subst ha
      have hck' := (HI.out.2.cell (p := ad.add k) (by rw [addBlock]; exact hadb)).trans hck
      have hm2 := HM.out.2 k hlt
      have HXM := Lib.hid hrow.1
      have hmm : m ≤ 1000000 := by rw [← HXM.out]; omega
      have C := Lib.hid (copyInts_any B m c' (rows.getD k []) _ hBn (hrow.below HI.out.2) hmm)
      clear hrow hck hBn hm2 hm
      have hkI : (k : Int) < (n : Int) := by omega
      go_wp2_with fail
      refine C.out.mono ?_
      rintro e w2 ⟨⟨v, rfl, ho⟩, hb⟩
      obtain ⟨vs, hvs, hrs⟩ := HI.out.1
      have HO2 := Lib.hid (ownLater hvs hb)
      obtain ⟨Bv, cv, rfl, _, _, _⟩ := rd_ownN ho
      have HRS : Hid (True ∧ ∀ j, j < k → ∃ v, vs[j]? = some v ∧ w2.ownsRow w.heap.size 3 1 v (rows.getD j []).length ((rows.getD j []).map (Value.int .i64))) := ⟨trivial, fun j hj => by
        obtain ⟨v, h1, h2⟩ := hrs j hj
        exact ⟨v, h1, ownLater h2 hb⟩⟩
      have HV := Lib.hid (ownMono ho HI.out.2.size)
      have HB2 := Lib.hid (HI.out.2.trans (hb.mono HI.out.2.size))
      clear hvs hrs ho hb C
      have hzW : w.heap.size ≤ w2.heap.size := HB2.out.size
      go_wp2_with (at_builtin; refine wpList_append_own _ rfl (.tmp 11) (.tmp 17) 22 rfl w.heap.size 28 i0 _ 1 24 Tryd.underlying22 hi0 hz0 hz1 hz2 rfl (by decide) _ _ _ rfl (HO2.out.alloc _) ⟨w2.heap.size, 0, none⟩ 1 1 [_] rfl rfl (cell_one_new _ _ _) (by simp [Value.oneCell']) (by unfold maxLen; omega) (by omega) (by simp; omega) ?_)
      intro v' w4 hown' hgrow _
      have HFIN : Hid (OwnL w4 w.heap.size v' (k + 1) rows ∧ Below w.heap.size w w4) := by
        refine ⟨⟨_, hown', fun j hj => ?_⟩, (HB2.out.alloc HB2.out.size _).grown hgrow (by simp; omega) (fun z e => (HO2.out.lt z e).1)⟩
        have hlen : vs.length = k := by have := HO2.out.1; simpa using this
        by_cases hjk : j < k
        · obtain ⟨v, h1, h2⟩ := HRS.out.2 j hjk
          exact ⟨v, by rw [List.getElem?_append_left (by omega)]; exact h1, (h2.alloc _).kept hgrow (own_apart h2 HO2.out)⟩
        · obtain rfl : j = k := by omega
          exact ⟨_, by rw [List.getElem?_append_right (by omega), hlen]; simp, (HV.out.alloc _).kept hgrow (own_apart HV.out HO2.out)⟩
      clear hown' hgrow
      go_wp2
      go_roundw
      case rel => exact ⟨k + 1, by omega, by go_num, HFIN.out⟩
      case measure => simp [intOf]; omega
    · obtain rfl : n = k := by omega
      go_wp2
      go_ret
      exact ⟨⟨_, rfl, HI.out.1⟩, HI.out.2⟩

end Go.Proofs.YtpkjkegcdddimaaDoor
