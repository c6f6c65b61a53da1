import Derived.Test.YtkemoffagdilgaaGreatDoorW17
namespace Go.Proofs.YtkemoffagdilgaaGreatDoor
open Go.RowKit

def okCh (c : UInt8) : Bool := letB c.toNat || (digB c.toNat || (c.toNat : Int) == 45)
def nameB (l : List UInt8) : Bool := decide (1 ≤ l.length) && (decide (l.length ≤ 12) && (letB (l.getD 0 0).toNat && l.all okCh))

theorem okCh_take (s : ByteArray) (k : Nat) (h : k < s.size) : (s.data.toList.take (k + 1)).all okCh = ((s.data.toList.take k).all okCh && okCh s[k]) := by
  rw [List.take_succ_eq_append_getElem (by simpa using h)]
  simp only [List.all_append, List.all_cons, List.all_nil, Bool.and_true]
  rfl
theorem all_take_false (l : List UInt8) (k : Nat) (h : (l.take k).all okCh = false) : l.all okCh = false := by
  have e : l = l.take k ++ l.drop k := (List.take_append_drop k l).symm
  rw [e, List.all_append, h]; rfl

set_option maxHeartbeats 1000000 in
theorem isName_any (s : ByteArray) (w : World) (hs : s.size ≤ 9223372036854775806) :
    Calls Tryz.prog 52 #[.string s] w fun e w' => e = .returned (.bool (nameB s.data.toList)) ∧ w = w' := by
  have hlen : s.data.toList.length = s.size := by simp
  have HL := Lib.hid hlen; clear hlen
  by_cases h0 : s.size = 0
  · have g0 : ((s.size : Int) == 0) = true := by simp [h0]
    have HN : Hid (nameB s.data.toList = false) := by show _ = _; simp only [nameB, HL.out]; rw [h0]; rfl
    have H0 := Lib.hid h0
    clear h0
    go_enter Tryz.func52, Tryz.ntmps52
    go_wp2
    go_ret
    exact ⟨by rw [HN.out]; rfl, rfl⟩
  have g0 : ((s.size : Int) == 0) = false := beq_eq_false_iff_ne.2 (by omega)
  by_cases h1 : 12 < s.size
  · have g1 : (12 : Int) < s.size := by omega
    have HN : Hid (nameB s.data.toList = false) := by
      show _ = _; simp only [nameB, HL.out]
      have e : decide (s.size ≤ 12) = false := by simp; omega
      simp [e]
    go_enter Tryz.func52, Tryz.ntmps52
    go_wp2
    go_ret
    exact ⟨by rw [HN.out]; rfl, rfl⟩
  have hpos : 0 < s.size := by omega
  have g1 : ¬ (12 : Int) < s.size := by omega
  have hf : Hid (s.data.toList.getD 0 0 = s[0]) := by
    show _ = _
    rw [List.getD_eq_getElem?_getD, List.getElem?_eq_getElem (by simpa using hpos)]
    rfl
  obtain ⟨b, hb⟩ : ∃ b, letB ((s[0].toNat : Nat) : Int) = b := ⟨_, rfl⟩
  cases b
  · have HN : Hid (nameB s.data.toList = false) := by
      show _ = _; simp only [nameB, hf.out, hb]; simp
    go_enter Tryz.func52, Tryz.ntmps52
    go_wp2_with (go_at_call 70; refine (isLetter_any _ _).mono ?_; rintro e w' ⟨rfl, rfl⟩)
    go_ret
    exact ⟨by rw [HN.out]; rfl, rfl⟩
  · have HN : Hid (nameB s.data.toList = s.data.toList.all okCh) := by
      show _ = _; simp only [nameB, hf.out, hb, HL.out]
      have e1 : decide (1 ≤ s.size) = true := by simp; omega
      have e2 : decide (s.size ≤ 12) = true := by simp; omega
      rw [e1, e2]; rfl
    go_enter Tryz.func52, Tryz.ntmps52
    go_wp2_with (go_at_call 70; refine (isLetter_any _ _).mono ?_; rintro e w' ⟨rfl, rfl⟩)
    clear hb
    go_loop [3, 20] (fun _ i => ∃ k : Nat, k ≤ s.size ∧ i = .int .i64 k ∧ Hid ((s.data.toList.take k).all okCh = true)) (fun _ i => s.size - (intOf i).toNat)
    case atStart => exact ⟨0, Nat.zero_le _, rfl, rfl⟩
    case round =>
      obtain ⟨k, hk, rfl, HA⟩ := hrel
      by_cases hlt : k < s.size
      · have hst := okCh_take s k hlt
        have HST := Lib.hid hst; clear hst
        obtain ⟨b1, hb1⟩ : ∃ b, letB ((s[k].toNat : Nat) : Int) = b := ⟨_, rfl⟩
        obtain ⟨b2, hb2⟩ : ∃ b, digB ((s[k].toNat : Nat) : Int) = b := ⟨_, rfl⟩
        obtain ⟨b3, hb3⟩ : ∃ b, (((s[k].toNat : Nat) : Int) == 45) = b := ⟨_, rfl⟩
        have hb4 : (((s[k].toNat : Nat) : Int) != 45) = !b3 := by rw [← hb3]; rfl
        have HOK : Hid (okCh s[k] = (b1 || (b2 || b3))) := by show _ = _; rw [okCh, hb1, hb2, hb3]
        cases b1 <;> cases b2 <;> cases b3
        all_goals
          go_wp2_with (first
            | (go_at_call 70; refine (isLetter_any _ _).mono ?_; rintro e w' ⟨rfl, rfl⟩)
            | (go_at_call 66; refine (isDigit_any _ _).mono ?_; rintro e w' ⟨rfl, rfl⟩))
          first
            | (go_round
               case rel =>
                 refine ⟨k + 1, by omega, by go_num, ?_⟩
                 show _ = _
                 rw [HST.out, HA.out, HOK.out]; rfl
               case measure => simp [intOf]; omega)
            | (go_ret
               refine ⟨?_, rfl⟩
               rw [HN.out, all_take_false _ (k + 1) (by rw [HST.out, HA.out, HOK.out]; rfl)]
               rfl)
      · go_wp2
        go_ret
        refine ⟨?_, rfl⟩
        have e := HA.out
        rw [List.take_of_length_le (by rw [HL.out]; omega)] at e
        rw [HN.out, e]
        rfl

end Go.Proofs.YtkemoffagdilgaaGreatDoor
