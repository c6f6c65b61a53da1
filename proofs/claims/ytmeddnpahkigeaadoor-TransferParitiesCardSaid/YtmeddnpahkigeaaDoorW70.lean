import Derived.Test.YtmeddnpahkigeaaDoorW14
namespace Go.Proofs.YtmeddnpahkigeaaDoor
open Go.RowKit

/-- How many blocks so many samples make. -/
def cntN (n : Nat) : Nat := (n + 7) / 8

theorem floor8 (n : Int) : n.tdiv 8 - (if n.tmod 8 < 0 then 1 else 0) = n / 8 := by
  have h := Int.mul_tdiv_add_tmod n 8
  by_cases h0 : n.tmod 8 < 0
  · have h1 := tmod_neg n 8 (by omega) h0
    rw [if_pos h0]
    generalize n.tdiv 8 = q at *
    generalize n.tmod 8 = r at *
    omega
  · have h1 := tmod_pos n 8 (by omega) (by omega)
    rw [if_neg h0]
    generalize n.tdiv 8 = q at *
    generalize n.tmod 8 = r at *
    omega

theorem floor8_any (n : Int) (hn : -1000000 ≤ n ∧ n ≤ 1000000) (w : World) :
    Calls Tryd.prog 93 #[.int .i64 n, .int .i64 8] w fun e w' => e = .returned (.int .i64 (n / 8)) ∧ w = w' := by
  have hf := Lib.hid (floor8 n)
  have hq : -1000000 ≤ n.tdiv 8 ∧ n.tdiv 8 ≤ 1000000 := by
    have h1 := Int.natAbs_tdiv_le_natAbs n 8
    omega
  have HQ := Lib.hid hq
  clear hq
  go_enter Tryd.func93, Tryd.ntmps93
  go_wp2
  all_goals go_ret
  · have h : n.tmod 8 < 0 := by assumption
    have h2 := hf.out
    have h3 := HQ.out
    rw [if_pos h] at h2
    refine ⟨?_, rfl⟩
    show Ending.returned (Value.int .i64 (wrap64 (n.tdiv 8 - 1))) = _
    rw [IntWalk.wrap64_in _ ⟨by omega, by omega⟩, h2]
  · have h : 0 ≤ n.tmod 8 := by assumption
    have h2 := hf.out
    rw [if_neg (by omega)] at h2
    refine ⟨?_, rfl⟩
    show Ending.returned (Value.int .i64 (n.tdiv 8)) = _
    rw [← h2, Int.sub_zero]

theorem ceil8_any (n : Nat) (hn : n ≤ 1000000) (w : World) :
    Calls Tryd.prog 76 #[.int .i64 n, .int .i64 8] w fun e w' => e = .returned (.int .i64 (cntN n)) ∧ w = w' := by
  have C := Lib.hid (floor8_any (-(n : Int)) ⟨by omega, by omega⟩ w)
  have h1 : IntKind.i64.wrap (-(n : Int)) = -(n : Int) := IntWalk.i64_in _ (by omega)
  have HE : Hid (((cntN n : Nat) : Int) = -((-(n : Int)) / 8)) := by show ((cntN n : Nat) : Int) = _; unfold cntN; omega
  have hb : -1000000 ≤ (-(n : Int)) / 8 ∧ (-(n : Int)) / 8 ≤ 0 := by omega
  obtain ⟨q, hq⟩ : ∃ q, (-(n : Int)) / 8 = q := ⟨_, rfl⟩
  rw [hq] at C hb HE
  have h2 : IntKind.i64.wrap (-q) = -q := IntWalk.i64_in _ (by omega)
  clear hq
  go_enter Tryd.func76, Tryd.ntmps76
  go_wp2_with (go_at_call 93; refine C.out.mono ?_; rintro e w' ⟨rfl, rfl⟩)
  go_ret
  exact ⟨by rw [HE.out]; rfl, rfl⟩

theorem count_any (A : Option Addr) (n c : Nat) (hn : n ≤ 1000000) (w : World) :
    Calls Tryd.prog 47 #[.slice A n c] w fun e w' => e = .returned (.int .i64 (cntN n)) ∧ w = w' := by
  have C := Lib.hid (ceil8_any n hn w)
  go_enter Tryd.func47, Tryd.ntmps47
  go_wp2_with (go_at_call 76; refine C.out.mono ?_; rintro e w' ⟨rfl, rfl⟩)
  go_ret
  exact ⟨rfl, rfl⟩

theorem belowDrewN {n0 : Nat} {w w' : World} (h : Below n0 w w') : ∀ k, Below n0 w (w'.drewN k) := fun _ => ⟨h.1, h.2, h.3, h.4, h.5⟩
theorem RdI.drewN {w : World} {A : Option Addr} {n : Nat} {xs : List Int} (h : RdI w A n xs) (k : Nat) : RdI (w.drewN k) A n xs := h
theorem quietW {P : Program} {f : FuncId} {args : Array Value} {w : World} {n : Nat} {v : Value}
    (h : Calls P f args (w.drewN n) fun e w' => e = .returned v ∧ w.drewN n = w') : Calls P f args (w.drewN n) fun e w'' => e = .returned v ∧ ∃ m, w'' = w.drewN m :=
  h.mono fun _ _ ⟨he, hm⟩ => ⟨he, n, hm.symm⟩

/-- The error of a signal that is cut into blocks. -/
def cutE (n : Nat) (xs : List Int) (h c : Int) : Int :=
  if 40 < cntN n then 8 else if smpB xs = false then 2 else if rangeE h 0 3 = 2 then 2 else if inB c 0 65535 = false then 2 else if 65535 < c + ((cntN n - 1 : Nat) : Int) then 2 else 0

theorem rangeE_two (n lo hi : Int) : rangeE n lo hi = 0 ∨ rangeE n lo hi = 2 := by
  unfold rangeE; split
  · exact .inl rfl
  · exact .inr rfl

theorem cutErr_any (A : Option Addr) (n cp : Nat) (xs : List Int) (h c : Int) (w : World) (hr : RdI w A n xs) (hn : n ≤ 1000000) :
    Calls Tryd.prog 10 #[.slice A n cp, .agg #[.int .i64 h, .int .i64 c]] w fun e w' => e = .returned (.int .i64 (cutE n xs h c)) ∧ Below w.heap.size w w' := by
  have HR := Lib.hid hr; clear hr
  have hk : cntN n ≤ 200000 := by unfold cntN; omega
  have HE : Hid (cutE n xs h c = if 40 < cntN n then 8 else if smpB xs = false then 2 else if rangeE h 0 3 = 2 then 2 else if inB c 0 65535 = false then 2 else if 65535 < c + ((cntN n - 1 : Nat) : Int) then 2 else 0) := rfl
  have CC : Hid (∀ W, Calls Tryd.prog 47 #[.slice A n cp] W fun e w' => e = .returned (.int .i64 (cntN n)) ∧ W = w') := fun W => count_any A n cp hn W
  have CS : Hid (∀ W : World, Below w.heap.size w W → Calls Tryd.prog 48 #[.slice A n cp] W fun e w' => e = .returned (.bool (smpB xs)) ∧ W = w') := fun W hW => areSamples_any A n cp xs W (HR.out.below hW) (by omega)
  have CH : Hid (∀ W, Calls Tryd.prog 49 #[.int .i64 h] W fun e w' => e = .returned (.int .i64 (rangeE h 0 3)) ∧ W = w') := fun W => channelErr_any h W
  have CW : Hid (∀ W, Calls Tryd.prog 18 #[.int .i64 c, .int .i64 0, .int .i64 65535] W fun e w' => e = .returned (.bool (inB c 0 65535)) ∧ W = w') := fun W => within_any c 0 65535 W
  have hr2 := rangeE_two h 0 3
  have hin : inB c 0 65535 = true → 0 ≤ c ∧ c ≤ 65535 := fun hh => by simp [inB] at hh; omega
  have HIN := Lib.hid hin
  clear hin
  obtain ⟨k, hkk⟩ : ∃ k, cntN n = k := ⟨_, rfl⟩
  obtain ⟨b1, hb1⟩ : ∃ b, smpB xs = b := ⟨_, rfl⟩
  obtain ⟨r, hrr⟩ : ∃ r, rangeE h 0 3 = r := ⟨_, rfl⟩
  obtain ⟨b2, hb2⟩ : ∃ b, inB c 0 65535 = b := ⟨_, rfl⟩
  rw [hkk] at hk CC HE
  rw [hb1] at CS HE
  rw [hrr] at CH HE hr2
  rw [hb2] at CW HE HIN
  clear hkk hb1 hrr hb2
  have hB0 : Hid (Below w.heap.size w (w.alloc (.cells #[.int .i64 h, .int .i64 c] 24))) := (Below.refl _ _).alloc (Nat.le_refl _) _
  by_cases h1 : 40 < k
  · go_enter Tryd.func10, Tryd.ntmps10
    go_wp2_with (go_at_call 47; refine (CC.out _).mono ?_; rintro e w' ⟨rfl, rfl⟩)
    go_ret
    exact ⟨by rw [HE.out, if_pos h1]; rfl, hB0.out⟩
  rw [show (if 40 < k then (8 : Int) else if b1 = false then 2 else if r = 2 then 2 else if b2 = false then 2 else if 65535 < c + ((k - 1 : Nat) : Int) then 2 else 0) = (if b1 = false then (2 : Int) else if r = 2 then 2 else if b2 = false then 2 else if 65535 < c + ((k - 1 : Nat) : Int) then 2 else 0) from if_neg h1] at HE
  cases b1
  · go_enter Tryd.func10, Tryd.ntmps10
    go_wp2_with (first
      | (go_at_call 47; refine (CC.out _).mono ?_; rintro e w' ⟨rfl, rfl⟩)
      | (go_at_call 48; refine (CS.out _ hB0.out).mono ?_; rintro e w' ⟨rfl, rfl⟩))
    go_ret
    exact ⟨by rw [HE.out]; rfl, hB0.out⟩
  rcases hr2 with rfl | rfl
  rotate_left
  · go_enter Tryd.func10, Tryd.ntmps10
    go_wp2_with (first
      | (go_at_call 47; refine (CC.out _).mono ?_; rintro e w' ⟨rfl, rfl⟩)
      | (go_at_call 48; refine (CS.out _ hB0.out).mono ?_; rintro e w' ⟨rfl, rfl⟩)
      | (go_at_call 49; refine (CH.out _).mono ?_; rintro e w' ⟨rfl, rfl⟩))
    go_ret
    exact ⟨by rw [HE.out]; rfl, hB0.out⟩
  cases b2
  · go_enter Tryd.func10, Tryd.ntmps10
    go_wp2_with (first
      | (go_at_call 47; refine (CC.out _).mono ?_; rintro e w' ⟨rfl, rfl⟩)
      | (go_at_call 48; refine (CS.out _ hB0.out).mono ?_; rintro e w' ⟨rfl, rfl⟩)
      | (go_at_call 49; refine (CH.out _).mono ?_; rintro e w' ⟨rfl, rfl⟩))
    go_quiet ((first | (go_at_call 18; exact quietW (CW.out _)) | (go_at_call 47; exact quietW (CC.out _))))
    go_wp2
    go_ret
    exact ⟨by rw [HE.out]; rfl, belowDrewN hB0.out _⟩
  have hc := HIN.out rfl
  clear HIN
  obtain ⟨m, hm⟩ : ∃ m : Int, ((k - 1 : Nat) : Int) = m := ⟨_, rfl⟩
  rw [hm] at HE
  by_cases hk0 : k = 0
  · subst hk0
    have hm0 : m = 0 := by omega
    subst hm0
    clear hm
    have h5 : ¬ 65535 < c := by omega
    go_enter Tryd.func10, Tryd.ntmps10
    go_wp2_with (first
      | (go_at_call 47; refine (CC.out _).mono ?_; rintro e w' ⟨rfl, rfl⟩)
      | (go_at_call 48; refine (CS.out _ hB0.out).mono ?_; rintro e w' ⟨rfl, rfl⟩)
      | (go_at_call 49; refine (CH.out _).mono ?_; rintro e w' ⟨rfl, rfl⟩))
    go_quiet ((first | (go_at_call 18; exact quietW (CW.out _)) | (go_at_call 47; exact quietW (CC.out _))))
    go_wp2
    go_ret
    exact ⟨by rw [HE.out]; simp; omega, belowDrewN hB0.out _⟩
  · have hmk : ((k : Nat) : Int) - 1 = m := by omega
    have hmx : (if (0 : Int) < m then m else 0) = m := by split <;> omega
    have hm0 : 0 ≤ m := by omega
    have HMX := Lib.hid hmx
    clear hmx
    by_cases h6 : 65535 < c + m
    · go_enter Tryd.func10, Tryd.ntmps10
      go_wp2_with (first
        | (go_at_call 47; refine (CC.out _).mono ?_; rintro e w' ⟨rfl, rfl⟩)
        | (go_at_call 48; refine (CS.out _ hB0.out).mono ?_; rintro e w' ⟨rfl, rfl⟩)
        | (go_at_call 49; refine (CH.out _).mono ?_; rintro e w' ⟨rfl, rfl⟩))
      go_quiet ((first | (go_at_call 18; exact quietW (CW.out _)) | (go_at_call 47; exact quietW (CC.out _))))
      go_wp2
      all_goals go_ret
      all_goals first | exact ⟨by rw [HE.out]; simp [h6], belowDrewN hB0.out _⟩ | (exfalso; have := HMX.out; simp only [this] at *; omega) | (exfalso; omega) | trace_state
    · go_enter Tryd.func10, Tryd.ntmps10
      go_wp2_with (first
        | (go_at_call 47; refine (CC.out _).mono ?_; rintro e w' ⟨rfl, rfl⟩)
        | (go_at_call 48; refine (CS.out _ hB0.out).mono ?_; rintro e w' ⟨rfl, rfl⟩)
        | (go_at_call 49; refine (CH.out _).mono ?_; rintro e w' ⟨rfl, rfl⟩))
      go_quiet ((first | (go_at_call 18; exact quietW (CW.out _)) | (go_at_call 47; exact quietW (CC.out _))))
      go_wp2
      all_goals go_ret
      all_goals first | exact ⟨by rw [HE.out]; simp [h6], belowDrewN hB0.out _⟩ | (exfalso; have := HMX.out; simp only [this] at *; omega) | (exfalso; omega) | trace_state

end Go.Proofs.YtmeddnpahkigeaaDoor
