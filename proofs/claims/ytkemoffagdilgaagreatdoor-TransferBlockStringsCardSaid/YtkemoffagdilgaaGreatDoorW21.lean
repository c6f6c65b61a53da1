import Derived.Test.YtkemoffagdilgaaGreatDoorW19
import Derived.Test.YtkemoffagdilgaaGreatDoorW20
namespace Go.Proofs.YtkemoffagdilgaaGreatDoor
open Go.RowKit

theorem rd_of_own {w : World} {base : Nat} {e : TypeId} {v : Value} {n : Nat} {xs : List Int} (h : w.ownsRow base e 1 v n (xs.map (Value.int .i64))) :
    ∃ A c, v = .slice A n c ∧ n ≤ c ∧ RdI w A n xs := by
  have hl : xs.length = n := by have := h.1; simpa using this
  rcases h.2 with ⟨rfl, rfl⟩ | ⟨g, cap, cur, rfl, _, hh, hnc, _, _, htk⟩
  · exact ⟨none, 0, rfl, Nat.le_refl _, hl, fun h0 => absurd h0 (by omega)⟩
  · refine ⟨_, cap, rfl, hnc, hl, fun _ => ⟨_, rfl, ?_, fun j hj => ?_⟩⟩
    · have : Bk w g e cur := hh
      exact this.lt
    · have hadd : (⟨g, 0, none⟩ : Addr).add j = ⟨g, j, none⟩ := by unfold Addr.add; split <;> simp_all
      rw [hadd, cell_of_row w g j cur e (0, 0) hh, ← Array.getElem?_toList]
      have e1 : (cur.toList.take (n * 1))[j]? = (xs.map (Value.int .i64))[j]? := by rw [htk]
      rw [List.getElem?_take, if_pos (by omega)] at e1
      rw [e1]
      simp [List.getElem?_eq_getElem (show j < xs.length by omega)]

def lpS : ByteArray := { data := #[108, 112] }

theorem lp_carrier (w : World) :
    Calls Tryz.prog 27 #[.agg #[.string lpS, .int .i64 0, .int .i64 2, .int .i64 100, .int .i64 3]] w fun e w' => e = .returned (.int .i64 0) ∧ Below w.heap.size w w' := by
  have n1 : nameB lpS.data.toList = true := by decide +kernel
  have n2 : lowB 100 3 = true := by decide +kernel
  have h := checkCarrier_zero lpS 2 100 3 w true true
    (fun W => by have := isName_any lpS W (by decide); rw [n1] at this; exact this)
    (fun W => by have := isLowest_any 100 3 (by omega) (by omega) (by omega) W; rw [n2] at this; exact this)
  have e : firstE [whenE (!true) 4, whenE false 15, rangeE 2 1 2, whenE false 3, whenE (!true) 3, rangeE 100 1 10000, rangeE 3 1 10000] = 0 := by decide +kernel
  rw [e] at h
  exact h

theorem lp_samples (w : World) :
    Calls Tryz.prog 10 #[.agg #[.string lpS, .int .i64 0, .int .i64 2, .int .i64 100, .int .i64 3], .int .i64 48000] w fun e w' => e = .returned (.tuple #[.agg #[.int .i64 86400, .int .i64 1], .int .i64 0]) ∧ Below w.heap.size w w' := by
  have h := samples_ok lpS 0 2 100 3 48000 w rfl (by omega) (by omega) (by omega) (by omega) (by omega) (by omega) lp_carrier
  have e1 : turnN 100 3 48000 = 86400 := by decide +kernel
  have e2 : turnD 100 3 48000 = 1 := by decide +kernel
  rw [e1, e2, if_neg (by omega)] at h
  exact h

def bits24 : List Int := [1, 0, 0, 0, 0, 0, 0, 1, 1, 1, 1, 1, 1, 0, 1, 1, 1, 0, 0, 0, 0, 0, 0, 0]
theorem pack24 : packT [3, 4, 5, 6, 7, 8, 9, 10] = bits24 := by decide +kernel

theorem ex_packed (w : World) (hw : Laid w) :
    Calls Tryz.prog 11 #[.agg #[.int .i64 3, .int .i64 4, .int .i64 5, .int .i64 6, .int .i64 7, .int .i64 8, .int .i64 9, .int .i64 10]] w fun e w' => (∃ A c, e = .returned (.tuple #[.slice A 24 c, .int .i64 0]) ∧ RdI w' A 24 bits24) ∧ Below w.heap.size w w' := by
  refine (packed_ok _ [3, 4, 5, 6, 7, 8, 9, 10] w hw (is8_lit 3 4 5 6 7 8 9 10) (by decide +kernel)).mono ?_
  rintro e w' ⟨v, rfl, ho, hb⟩
  rw [pack24] at ho
  obtain ⟨A, c, rfl, _, hr⟩ := rd_of_own ho
  exact ⟨⟨A, c, rfl, hr⟩, hb⟩

theorem ex_inverse (w : World) :
    Calls Tryz.prog 12 #[.int .i64 4] w fun e w' => e = .returned (.tuple #[.int .i64 49153, .int .i64 0]) ∧ Below w.heap.size w w' := by
  have h := inverse_ok 4 (by omega) (by omega) w
  have e : invT 4 = 49153 := by decide +kernel
  rw [e] at h
  exact h

theorem ex_sum (w : World) :
    Calls Tryz.prog 13 #[.agg #[.int .i64 5, .int .i64 0, .int .i64 0, .int .i64 0, .int .i64 0, .int .i64 0, .int .i64 0, .int .i64 0, .int .i64 0, .int .i64 0, .int .i64 0]] w fun e w' => e = .returned (.tuple #[.int .i64 27, .int .i64 0]) ∧ Below w.heap.size w w' := by
  have h := sum_ok 5 0 0 0 0 0 0 0 0 0 0 w (by decide +kernel)
  have e : sumT 5 0 [0, 0, 0, 0, 0, 0, 0, 0] = 27 := by decide +kernel
  rw [e] at h
  exact h

end Go.Proofs.YtkemoffagdilgaaGreatDoor
