import Derived.Deep.DeepCutAuto
import Derived.StillTailTactics
import Derived.Test.YtjjflbnopphciabDoorTgac
import Derived.Test.YtjjflbnopphciabDoorTgad
import Derived.Test.YtjjflbnopphciabDoorTgab
namespace Go.Proofs.YtjjflbnopphciabDoor
open Go.RowKit

theorem wrapQ (z : Int) (h0 : -9223372036854775808 ≤ z) (h1 : z ≤ 9223372036854775807) : IntKind.i64.wrap z = z := by
  rw [IntKind.wrap_i64]; omega
/-- An equation's twelve cells. -/
abbrev eRow (f : Nat → Int) : Array Value := #[.int .i64 (f 0), .int .i64 (f 1), .int .i64 (f 2), .int .i64 (f 3), .int .i64 (f 4), .int .i64 (f 5), .int .i64 (f 6), .int .i64 (f 7), .int .i64 (f 8), .int .i64 (f 9), .int .i64 (f 10), .int .i64 (f 11)]
abbrev eZero : Array Value := #[.int .i64 0, .int .i64 0, .int .i64 0, .int .i64 0, .int .i64 0, .int .i64 0, .int .i64 0, .int .i64 0, .int .i64 0, .int .i64 0, .int .i64 0, .int .i64 0]
theorem j12 {j : Nat} (h : j < 12) : j = 0 ∨ j = 1 ∨ j = 2 ∨ j = 3 ∨ j = 4 ∨ j = 5 ∨ j = 6 ∨ j = 7 ∨ j = 8 ∨ j = 9 ∨ j = 10 ∨ j = 11 := by omega
theorem eRow_at (f : Nat → Int) (j : Nat) (h : j < 12) : (eRow f)[j]? = some (.int .i64 (f j)) := by
  rcases j12 h with rfl | rfl | rfl | rfl | rfl | rfl | rfl | rfl | rfl | rfl | rfl | rfl <;> rfl
/-- The first k cells are g's, the others f's. -/
def mixF (f g : Nat → Int) (k : Nat) : Nat → Int := fun j => if j < k then g j else f j
theorem mixF_step (f g : Nat → Int) (j : Nat) (h : j < 12) : (eRow (mixF f g j)).setIfInBounds j (.int .i64 (g j)) = eRow (mixF f g (j + 1)) := by
  rcases j12 h with rfl | rfl | rfl | rfl | rfl | rfl | rfl | rfl | rfl | rfl | rfl | rfl <;> simp [eRow, mixF]
theorem mixF_at (f g : Nat → Int) (j : Nat) : mixF f g j j = f j := if_neg (by omega)
theorem mixF_zero (f g : Nat → Int) : mixF f g 0 = f := by funext j; exact if_neg (by omega)
theorem mixF_all (f g : Nat → Int) : eRow (mixF f g 12) = eRow g := by simp [eRow, mixF]
theorem eInf0 : (Tryd.prog.info? 74).map (·.size) = some 12 := by kernel_rfl
theorem eInf (f : Nat → Int) : (Tryd.prog.info? 74).map (·.size) = some (eRow f).size := eInf0
theorem eRow_one (f : Nat → Int) : (eRow f).all (·.oneCell') = true := by simp [eRow, Value.oneCell']
theorem eRow_size (f : Nat → Int) : eZero.size = (eRow f).size := rfl
theorem results_cell1 {P : Program} {fn : Func} {p : Tmp} {ty : TypeId} (h : fn.results = #[.cell p ty]) (tmps : Array Value) (w : World) (g : Nat) (t : TypeId) (cs : Array Value) (fr : Nat × Nat) (d : TypeDesc)
    (hp : tmps.getD p undef = .pointer (some ⟨g, 0, none⟩)) (hg : w.heap[g]? = some (.cells cs t fr))
    (hu : P.underlying ty = some d) (hd : (match d with | .struct _ | .array _ _ => true | _ => false) = true) (hi : (P.info? ty).map (·.size) = some cs.size) :
    (results fn tmps).run P w = .ok (.agg cs) w := by
  have hp' : tmps[p]?.getD undef = .pointer (some ⟨g, 0, none⟩) := by simpa using hp
  simp [results, h, hp', asAddr, run_loadVar_row w g t ty cs fr d hg hu hd hi]
set_option maxRecDepth 100000 in
set_option maxHeartbeats 8000000 in
theorem times_any (f : Nat → Int) (fac : Int) (w : World) (hf : ∀ j, 0 ≤ f j ∧ f j ≤ 65536) (hfac : 0 ≤ fac ∧ fac ≤ 65536) :
    Calls Tryd.prog 62 #[.agg (eRow f), .int .i64 fac] w fun e w' => e = .returned (.agg (eRow (fun j => f j * fac % 65537))) ∧ Below w.heap.size w w' := by
  have HF := Lib.hid hf
  have HFAC := Lib.hid hfac
  obtain ⟨g, hg⟩ : ∃ g, (fun j => f j * fac % 65537) = g := ⟨_, rfl⟩
  have HG : Hid (∀ j, g j = f j * fac % 65537) := fun j => by rw [← hg]
  rw [hg]
  obtain ⟨w1, hw1⟩ : ∃ W, ((w.alloc (.cells (eRow f) 74)).alloc (.cells eZero 74)) = W := ⟨_, rfl⟩
  have K1 : Hid (Bk w1 w.heap.size 74 (eRow (mixF f g 0))) := by
    show Bk _ _ _ _
    rw [mixF_zero, ← hw1]
    exact (Bk.new _ _ _).alloc _
  have Z1 : Hid (Bk w1 (w.heap.size + 1) 74 eZero) := by
    show Bk _ _ _ _
    rw [← hw1]
    simpa using Bk.new (w.alloc (.cells (eRow f) 74)) 74 eZero
  have B1 : Hid (Below w.heap.size w w1) := by
    show Below _ _ _
    rw [← hw1]
    exact ((Below.refl _ _).alloc (Nat.le_refl _) _).alloc (by simp) _
  have HW1 := Lib.hid hw1
  clear hw1 hf hfac hg
  go_enter Tryd.func62, Tryd.ntmps62
  go_upto_region 1 with fail
  rw [show ((w.alloc (.cells (eRow f) 74)).alloc (.cells eZero 74)) = w1 from HW1.out]
  go_wp2
  go_loopw [7] (fun i wr => ∃ k : Nat, k ≤ 4 ∧ i = .int .i64 k ∧ Hid (Bk wr w.heap.size 74 (eRow (mixF f g k))) ∧ Hid (Bk wr (w.heap.size + 1) 74 eZero) ∧ Hid (Below w.heap.size w wr)) (fun i _ => 4 - (intOf i).toNat)
  case atStart => exact ⟨0, Nat.zero_le _, rfl, K1.out, Z1.out, B1.out⟩
  case round =>
    obtain ⟨k, hk, rfl, HK, HZ, HB⟩ := hrel
    by_cases hlt : k < 4
    · have hltI : (k : Int) < 4 := by omega
      have hcx : wr.cell? ⟨w.heap.size, k, none⟩ = some (.int .i64 (f k)) := by rw [HK.out.cell, eRow_at _ _ (by omega), mixF_at]
      have hfr : wr.frozen? ⟨w.heap.size, k, none⟩ = false := HK.out.frozen _
      have hxb := HF.out k
      have hgk := HG.out k
      obtain ⟨x, hx⟩ : ∃ x, f k = x := ⟨_, rfl⟩
      rw [hx] at hcx hxb hgk
      clear hx
      have hmb := mul_bd2 x fac 65536 65536 hxb.1 HFAC.out.1 hxb.2 HFAC.out.2
      obtain ⟨z, hz⟩ : ∃ z, x * fac = z := ⟨_, rfl⟩
      have hzb : -65536 ≤ z ∧ z ≤ 4294967296 := by rw [← hz]; omega
      rw [hz] at hgk
      have hw1 : IntKind.i64.wrap (x * fac) = z := by rw [hz]; exact wrapQ z (by omega) (by omega)
      have C : Hid (∀ W, Calls Tryd.prog 59 #[.int .i64 z] W fun e w' => e = .returned (.int .i64 (z % 65537)) ∧ W = w') := fun W => modPrime_any z (by omega) (by omega) W
      have NXT : Hid (Bk (wr.setCell ⟨w.heap.size, k, none⟩ (.int .i64 (z % 65537))) w.heap.size 74 (eRow (mixF f g (k + 1)))) := by
        show Bk _ _ _ _
        rw [← mixF_step f g k (by omega), hgk]
        exact HK.out.set_ _ _
      have NZ : Hid (Bk (wr.setCell ⟨w.heap.size, k, none⟩ (.int .i64 (z % 65537))) (w.heap.size + 1) 74 eZero) := HZ.out.far _ (by show w.heap.size + 1 ≠ w.heap.size; omega) _
      have NB : Hid (Below w.heap.size w (wr.setCell ⟨w.heap.size, k, none⟩ (.int .i64 (z % 65537)))) := HB.out.setCell (Nat.le_refl _) _
      have HZZ := Lib.hid hz
      clear hgk hz hzb
      clear hmb
      go_wp2_with (go_at_call 59; (first | (refine (C.out _).mono ?_) | (rw [HZZ.out]; refine (C.out _).mono ?_)); rintro e w' ⟨rfl, rfl⟩)
      go_roundw
      case rel => exact ⟨k + 1, by omega, by go_num, NXT.out, NZ.out, NB.out⟩
      case measure => simp [intOf]; omega
    · obtain rfl : k = 4 := by omega
      obtain ⟨wA, hwA⟩ : ∃ X, X = wr := ⟨_, rfl⟩
      subst hwA
      go_wp2
      rw [show ((4 : Nat) : Int) = 4 from rfl]
      go_loopw [21] (fun i wr => ∃ k : Nat, k ≤ 8 ∧ i = .int .i64 k ∧ Hid (Bk wr w.heap.size 74 (eRow (mixF f g (4 + k)))) ∧ Hid (Bk wr (w.heap.size + 1) 74 eZero) ∧ Hid (Below w.heap.size w wr)) (fun i _ => 8 - (intOf i).toNat)
      case atStart => exact ⟨0, Nat.zero_le _, rfl, HK.out, HZ.out, HB.out⟩
      case round =>
        obtain ⟨k, hk, rfl, HK, HZ, HB⟩ := hrel
        by_cases hlt : k < 8
        · have hltI : (k : Int) < 8 := by omega
          have hcx : wr.cell? ⟨w.heap.size, 4 + k, none⟩ = some (.int .i64 (f (4 + k))) := by rw [HK.out.cell, eRow_at _ _ (by omega), mixF_at]
          have hfr : wr.frozen? ⟨w.heap.size, (4 + k), none⟩ = false := HK.out.frozen _
          have hxb := HF.out (4 + k)
          have hgk := HG.out (4 + k)
          obtain ⟨x, hx⟩ : ∃ x, f (4 + k) = x := ⟨_, rfl⟩
          rw [hx] at hcx hxb hgk
          clear hx
          have hmb := mul_bd2 x fac 65536 65536 hxb.1 HFAC.out.1 hxb.2 HFAC.out.2
          obtain ⟨z, hz⟩ : ∃ z, x * fac = z := ⟨_, rfl⟩
          have hzb : -65536 ≤ z ∧ z ≤ 4294967296 := by rw [← hz]; omega
          rw [hz] at hgk
          have hw1 : IntKind.i64.wrap (x * fac) = z := by rw [hz]; exact wrapQ z (by omega) (by omega)
          have C : Hid (∀ W, Calls Tryd.prog 59 #[.int .i64 z] W fun e w' => e = .returned (.int .i64 (z % 65537)) ∧ W = w') := fun W => modPrime_any z (by omega) (by omega) W
          have NXT : Hid (Bk (wr.setCell ⟨w.heap.size, (4 + k), none⟩ (.int .i64 (z % 65537))) w.heap.size 74 (eRow (mixF f g ((4 + k) + 1)))) := by
            show Bk _ _ _ _
            rw [← mixF_step f g (4 + k) (by omega), hgk]
            exact HK.out.set_ _ _
          have NZ : Hid (Bk (wr.setCell ⟨w.heap.size, (4 + k), none⟩ (.int .i64 (z % 65537))) (w.heap.size + 1) 74 eZero) := HZ.out.far _ (by show w.heap.size + 1 ≠ w.heap.size; omega) _
          have NB : Hid (Below w.heap.size w (wr.setCell ⟨w.heap.size, (4 + k), none⟩ (.int .i64 (z % 65537)))) := HB.out.setCell (Nat.le_refl _) _
          have HZZ := Lib.hid hz
          clear hgk hz hzb
          clear hmb
          go_wp2_with (go_at_call 59; (first | (refine (C.out _).mono ?_) | (rw [HZZ.out]; refine (C.out _).mono ?_)); rintro e w' ⟨rfl, rfl⟩)
          go_roundw
          case rel => exact ⟨k + 1, by omega, by go_num, NXT.out, NZ.out, NB.out⟩
          case measure => simp [intOf]; omega
        · obtain rfl : k = 8 := by omega
          have HFIN : Hid (Bk (wr.setRow (w.heap.size + 1) (eRow (mixF f g 12))) (w.heap.size + 1) 74 (eRow (mixF f g 12)) ∧ Below w.heap.size w (wr.setRow (w.heap.size + 1) (eRow (mixF f g 12)))) := ⟨setRow_heap wr (w.heap.size + 1) _ (eRow (mixF f g 12)) _ _ HZ.out, below_setRow HB.out (by omega) _⟩
          have HK12 : Hid (Bk wr w.heap.size 74 (eRow (mixF f g 12))) := HK
          go_wp2_with (first
            | (with_reducible refine wpList_load_row rfl 74 (.tmp 2) rfl w.heap.size rfl 74 (eRow (mixF f g 12)) (0, 0) _ HK12.out.heap Tryd.underlying74 rfl (eInf _) ?_)
            | (with_reducible refine wpList_store_row rfl 74 (.tmp 4) (.tmp 35) rfl (w.heap.size + 1) (eRow (mixF f g 12)) rfl rfl 74 eZero HZ.out.heap (eInf _) (eRow_size _) (eRow_one _) ?_))
          refine bodyPost_ret (v := .agg (eRow (mixF f g 12))) ?_ rfl ⟨by rw [mixF_all], HFIN.out.2⟩
          exact results_cell1 (fn := Tryd.f62) rfl _ _ (w.heap.size + 1) 74 (eRow (mixF f g 12)) (0, 0) _ rfl HFIN.out.1 Tryd.underlying74 rfl (eInf _)
set_option maxRecDepth 100000 in
set_option maxHeartbeats 8000000 in
theorem minus_any (f o : Nat → Int) (w : World) (hf : ∀ j, 0 ≤ f j ∧ f j ≤ 65536) (ho : ∀ j, 0 ≤ o j ∧ o j ≤ 65536) :
    Calls Tryd.prog 63 #[.agg (eRow f), .agg (eRow o)] w fun e w' => e = .returned (.agg (eRow (fun j => (f j - o j) % 65537))) ∧ Below w.heap.size w w' := by
  have HF := Lib.hid hf
  have HOB := Lib.hid ho
  obtain ⟨g, hg⟩ : ∃ g, (fun j => (f j - o j) % 65537) = g := ⟨_, rfl⟩
  have HG : Hid (∀ j, g j = (f j - o j) % 65537) := fun j => by rw [← hg]
  rw [hg]
  obtain ⟨w1, hw1⟩ : ∃ W, (((w.alloc (.cells (eRow f) 74)).alloc (.cells (eRow o) 74)).alloc (.cells eZero 74)) = W := ⟨_, rfl⟩
  have K1 : Hid (Bk w1 w.heap.size 74 (eRow (mixF f g 0))) := by
    show Bk _ _ _ _
    rw [mixF_zero, ← hw1]
    exact ((Bk.new _ _ _).alloc _).alloc _
  have Z1 : Hid (Bk w1 (w.heap.size + 1 + 1) 74 eZero) := by
    show Bk _ _ _ _
    rw [← hw1]
    simpa using Bk.new ((w.alloc (.cells (eRow f) 74)).alloc (.cells (eRow o) 74)) 74 eZero
  have B1 : Hid (Below w.heap.size w w1) := by
    show Below _ _ _
    rw [← hw1]
    exact (((Below.refl _ _).alloc (Nat.le_refl _) _).alloc (by simp) _).alloc (by simp; omega) _
  have O1 : Hid (Bk w1 (w.heap.size + 1) 74 (eRow o)) := by
    show Bk _ _ _ _
    rw [← hw1]
    simpa using (Bk.new (w.alloc (.cells (eRow f) 74)) 74 (eRow o)).alloc (.cells eZero 74)
  have HW1 := Lib.hid hw1
  clear hw1 hf ho hg
  go_enter Tryd.func63, Tryd.ntmps63
  go_upto_region 1 with fail
  rw [show (((w.alloc (.cells (eRow f) 74)).alloc (.cells (eRow o) 74)).alloc (.cells eZero 74)) = w1 from HW1.out]
  go_wp2
  go_loopw [7] (fun i wr => ∃ k : Nat, k ≤ 4 ∧ i = .int .i64 k ∧ Hid (Bk wr w.heap.size 74 (eRow (mixF f g k))) ∧ Hid (Bk wr (w.heap.size + 1 + 1) 74 eZero) ∧ Hid (Below w.heap.size w wr) ∧ Hid (Bk wr (w.heap.size + 1) 74 (eRow o))) (fun i _ => 4 - (intOf i).toNat)
  case atStart => exact ⟨0, Nat.zero_le _, rfl, K1.out, Z1.out, B1.out, O1.out⟩
  case round =>
    obtain ⟨k, hk, rfl, HK, HZ, HB, HO⟩ := hrel
    by_cases hlt : k < 4
    · have hltI : (k : Int) < 4 := by omega
      have hcx : wr.cell? ⟨w.heap.size, k, none⟩ = some (.int .i64 (f k)) := by rw [HK.out.cell, eRow_at _ _ (by omega), mixF_at]
      have hfr : wr.frozen? ⟨w.heap.size, k, none⟩ = false := HK.out.frozen _
      have hxb := HF.out k
      have hgk := HG.out k
      have hcy : wr.cell? ⟨w.heap.size + 1, k, none⟩ = some (.int .i64 (o k)) := by rw [HO.out.cell, eRow_at _ _ (by omega)]
      have hyb := HOB.out k
      obtain ⟨y, hy⟩ : ∃ y, o k = y := ⟨_, rfl⟩
      rw [hy] at hcy hyb hgk
      clear hy
      obtain ⟨x, hx⟩ : ∃ x, f k = x := ⟨_, rfl⟩
      rw [hx] at hcx hxb hgk
      clear hx
      obtain ⟨z, hz⟩ : ∃ z, x - y = z := ⟨_, rfl⟩
      have hzb : -65536 ≤ z ∧ z ≤ 4294967296 := by rw [← hz]; omega
      rw [hz] at hgk
      have hw1 : IntKind.i64.wrap (x - y) = z := by rw [hz]; exact wrapQ z (by omega) (by omega)
      have C : Hid (∀ W, Calls Tryd.prog 59 #[.int .i64 z] W fun e w' => e = .returned (.int .i64 (z % 65537)) ∧ W = w') := fun W => modPrime_any z (by omega) (by omega) W
      have NXT : Hid (Bk (wr.setCell ⟨w.heap.size, k, none⟩ (.int .i64 (z % 65537))) w.heap.size 74 (eRow (mixF f g (k + 1)))) := by
        show Bk _ _ _ _
        rw [← mixF_step f g k (by omega), hgk]
        exact HK.out.set_ _ _
      have NZ : Hid (Bk (wr.setCell ⟨w.heap.size, k, none⟩ (.int .i64 (z % 65537))) (w.heap.size + 1 + 1) 74 eZero) := HZ.out.far _ (by show w.heap.size + 1 + 1 ≠ w.heap.size; omega) _
      have NB : Hid (Below w.heap.size w (wr.setCell ⟨w.heap.size, k, none⟩ (.int .i64 (z % 65537)))) := HB.out.setCell (Nat.le_refl _) _
      have NO : Hid (Bk (wr.setCell ⟨w.heap.size, k, none⟩ (.int .i64 (z % 65537))) (w.heap.size + 1) 74 (eRow o)) := HO.out.far _ (by show w.heap.size + 1 ≠ w.heap.size; omega) _
      have HZZ := Lib.hid hz
      clear hgk hz hzb
      go_upto_region 4 with fail
      go_still_tail 13, (by kernel_rfl)
      refine wpStill_step (fun K hK => ?_)
      go_simp
      first | (refine ⟨_, (C.out _).mono (fun e w'' h => ⟨h.1, h.2.symm⟩), hK _ ?_⟩) | (rw [HZZ.out]; refine ⟨_, (C.out _).mono (fun e w'' h => ⟨h.1, h.2.symm⟩), hK _ ?_⟩)
      clear hK K
      repeat still_step
      refine wpStill_nil ?_
      change wpList _ _ _ _ _ wr.drew
      have hcx' : wr.drew.cell? ⟨w.heap.size, k, none⟩ = some (.int .i64 x) := hcx
      have hfr' : wr.drew.frozen? ⟨w.heap.size, k, none⟩ = false := hfr
      have NXT' : Hid (Bk (wr.drew.setCell ⟨w.heap.size, k, none⟩ (.int .i64 (z % 65537))) w.heap.size 74 (eRow (mixF f g (k + 1)))) := NXT.out.drew
      have NZ' : Hid (Bk (wr.drew.setCell ⟨w.heap.size, k, none⟩ (.int .i64 (z % 65537))) (w.heap.size + 1 + 1) 74 eZero) := NZ.out.drew
      have NB' : Hid (Below w.heap.size w (wr.drew.setCell ⟨w.heap.size, k, none⟩ (.int .i64 (z % 65537)))) := NB.out.drew
      have NO' : Hid (Bk (wr.drew.setCell ⟨w.heap.size, k, none⟩ (.int .i64 (z % 65537))) (w.heap.size + 1) 74 (eRow o)) := NO.out.drew
      clear hcx hfr NXT NZ NB NO HK HZ HB HO hcy C HZZ hw1
      generalize wr.drew = w2 at *
      go_wp2
      go_roundw
      case rel => exact ⟨k + 1, by omega, by go_num, NXT'.out, NZ'.out, NB'.out, NO'.out⟩
      case measure => simp [intOf]; omega
    · obtain rfl : k = 4 := by omega
      obtain ⟨wA, hwA⟩ : ∃ X, X = wr := ⟨_, rfl⟩
      subst hwA
      go_wp2
      rw [show ((4 : Nat) : Int) = 4 from rfl]
      go_loopw [24] (fun i wr => ∃ k : Nat, k ≤ 8 ∧ i = .int .i64 k ∧ Hid (Bk wr w.heap.size 74 (eRow (mixF f g (4 + k)))) ∧ Hid (Bk wr (w.heap.size + 1 + 1) 74 eZero) ∧ Hid (Below w.heap.size w wr) ∧ Hid (Bk wr (w.heap.size + 1) 74 (eRow o))) (fun i _ => 8 - (intOf i).toNat)
      case atStart => exact ⟨0, Nat.zero_le _, rfl, HK.out, HZ.out, HB.out, HO.out⟩
      case round =>
        obtain ⟨k, hk, rfl, HK, HZ, HB, HO⟩ := hrel
        by_cases hlt : k < 8
        · have hltI : (k : Int) < 8 := by omega
          have hcx : wr.cell? ⟨w.heap.size, 4 + k, none⟩ = some (.int .i64 (f (4 + k))) := by rw [HK.out.cell, eRow_at _ _ (by omega), mixF_at]
          have hfr : wr.frozen? ⟨w.heap.size, (4 + k), none⟩ = false := HK.out.frozen _
          have hxb := HF.out (4 + k)
          have hgk := HG.out (4 + k)
          have hcy : wr.cell? ⟨w.heap.size + 1, (4 + k), none⟩ = some (.int .i64 (o (4 + k))) := by rw [HO.out.cell, eRow_at _ _ (by omega)]
          have hyb := HOB.out (4 + k)
          obtain ⟨y, hy⟩ : ∃ y, o (4 + k) = y := ⟨_, rfl⟩
          rw [hy] at hcy hyb hgk
          clear hy
          obtain ⟨x, hx⟩ : ∃ x, f (4 + k) = x := ⟨_, rfl⟩
          rw [hx] at hcx hxb hgk
          clear hx
          obtain ⟨z, hz⟩ : ∃ z, x - y = z := ⟨_, rfl⟩
          have hzb : -65536 ≤ z ∧ z ≤ 4294967296 := by rw [← hz]; omega
          rw [hz] at hgk
          have hw1 : IntKind.i64.wrap (x - y) = z := by rw [hz]; exact wrapQ z (by omega) (by omega)
          have C : Hid (∀ W, Calls Tryd.prog 59 #[.int .i64 z] W fun e w' => e = .returned (.int .i64 (z % 65537)) ∧ W = w') := fun W => modPrime_any z (by omega) (by omega) W
          have NXT : Hid (Bk (wr.setCell ⟨w.heap.size, (4 + k), none⟩ (.int .i64 (z % 65537))) w.heap.size 74 (eRow (mixF f g ((4 + k) + 1)))) := by
            show Bk _ _ _ _
            rw [← mixF_step f g (4 + k) (by omega), hgk]
            exact HK.out.set_ _ _
          have NZ : Hid (Bk (wr.setCell ⟨w.heap.size, (4 + k), none⟩ (.int .i64 (z % 65537))) (w.heap.size + 1 + 1) 74 eZero) := HZ.out.far _ (by show w.heap.size + 1 + 1 ≠ w.heap.size; omega) _
          have NB : Hid (Below w.heap.size w (wr.setCell ⟨w.heap.size, (4 + k), none⟩ (.int .i64 (z % 65537)))) := HB.out.setCell (Nat.le_refl _) _
          have NO : Hid (Bk (wr.setCell ⟨w.heap.size, (4 + k), none⟩ (.int .i64 (z % 65537))) (w.heap.size + 1) 74 (eRow o)) := HO.out.far _ (by show w.heap.size + 1 ≠ w.heap.size; omega) _
          have HZZ := Lib.hid hz
          clear hgk hz hzb
          go_upto_region 9 with fail
          go_still_tail 13, (by kernel_rfl)
          refine wpStill_step (fun K hK => ?_)
          go_simp
          first | (refine ⟨_, (C.out _).mono (fun e w'' h => ⟨h.1, h.2.symm⟩), hK _ ?_⟩) | (rw [HZZ.out]; refine ⟨_, (C.out _).mono (fun e w'' h => ⟨h.1, h.2.symm⟩), hK _ ?_⟩)
          clear hK K
          repeat still_step
          refine wpStill_nil ?_
          change wpList _ _ _ _ _ wr.drew
          have hcx' : wr.drew.cell? ⟨w.heap.size, (4 + k), none⟩ = some (.int .i64 x) := hcx
          have hfr' : wr.drew.frozen? ⟨w.heap.size, (4 + k), none⟩ = false := hfr
          have NXT' : Hid (Bk (wr.drew.setCell ⟨w.heap.size, (4 + k), none⟩ (.int .i64 (z % 65537))) w.heap.size 74 (eRow (mixF f g ((4 + k) + 1)))) := NXT.out.drew
          have NZ' : Hid (Bk (wr.drew.setCell ⟨w.heap.size, (4 + k), none⟩ (.int .i64 (z % 65537))) (w.heap.size + 1 + 1) 74 eZero) := NZ.out.drew
          have NB' : Hid (Below w.heap.size w (wr.drew.setCell ⟨w.heap.size, (4 + k), none⟩ (.int .i64 (z % 65537)))) := NB.out.drew
          have NO' : Hid (Bk (wr.drew.setCell ⟨w.heap.size, (4 + k), none⟩ (.int .i64 (z % 65537))) (w.heap.size + 1) 74 (eRow o)) := NO.out.drew
          clear hcx hfr NXT NZ NB NO HK HZ HB HO hcy C HZZ hw1
          generalize wr.drew = w2 at *
          go_wp2
          go_roundw
          case rel => exact ⟨k + 1, by omega, by go_num, NXT'.out, NZ'.out, NB'.out, NO'.out⟩
          case measure => simp [intOf]; omega
        · obtain rfl : k = 8 := by omega
          have HFIN : Hid (Bk (wr.setRow (w.heap.size + 1 + 1) (eRow (mixF f g 12))) (w.heap.size + 1 + 1) 74 (eRow (mixF f g 12)) ∧ Below w.heap.size w (wr.setRow (w.heap.size + 1 + 1) (eRow (mixF f g 12)))) := ⟨setRow_heap wr (w.heap.size + 1 + 1) _ (eRow (mixF f g 12)) _ _ HZ.out, below_setRow HB.out (by omega) _⟩
          have HK12 : Hid (Bk wr w.heap.size 74 (eRow (mixF f g 12))) := HK
          go_wp2_with (first
            | (with_reducible refine wpList_load_row rfl 74 (.tmp 2) rfl w.heap.size rfl 74 (eRow (mixF f g 12)) (0, 0) _ HK12.out.heap Tryd.underlying74 rfl (eInf _) ?_)
            | (with_reducible refine wpList_store_row rfl 74 (.tmp 4) (.tmp 41) rfl (w.heap.size + 1 + 1) (eRow (mixF f g 12)) rfl rfl 74 eZero HZ.out.heap (eInf _) (eRow_size _) (eRow_one _) ?_))
          refine bodyPost_ret (v := .agg (eRow (mixF f g 12))) ?_ rfl ⟨by rw [mixF_all], HFIN.out.2⟩
          exact results_cell1 (fn := Tryd.f63) rfl _ _ (w.heap.size + 1 + 1) 74 (eRow (mixF f g 12)) (0, 0) _ rfl HFIN.out.1 Tryd.underlying74 rfl (eInf _)
end Go.Proofs.YtjjflbnopphciabDoor
