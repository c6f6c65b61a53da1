import Derived.Test.YtepjnkmmielamaaDoorW1
namespace Go.Proofs.YtepjnkmmielamaaDoor
open Go.RowKit

def firstE : List Int → Int
  | [] => 0
  | e :: es => if e = 0 then firstE es else e

theorem firstE_drop (es : List Int) (k : Nat) (hk : k < es.length) : firstE (es.drop k) = if es.getD k 0 = 0 then firstE (es.drop (k + 1)) else es.getD k 0 := by
  rw [List.drop_eq_getElem_cons hk]
  simp [firstE, List.getD_eq_getElem?_getD, List.getElem?_eq_getElem hk]

theorem firstError_any (b : Nat) (n c : Nat) (es : List Int) (w : World) (hl : es.length = n) (hc : ∀ j, j < n → w.cell? ⟨b, j, none⟩ = some (.int .i64 (es.getD j 0))) (hn : n ≤ 100) :
    Calls Tryd.prog 74 #[.slice (some ⟨b, 0, none⟩) n c] w fun e w' => e = .returned (.int .i64 (firstE es)) ∧ w = w' := by
  have HC := Lib.hid hc; clear hc
  have HL := Lib.hid hl; clear hl
  go_enter Tryd.func74, Tryd.ntmps74
  go_wp2
  go_loop [4, 7] (fun e i => ∃ k : Nat, k ≤ n ∧ i = .int .i64 k ∧ firstE es = firstE (es.drop k)) (fun _ i => n - (intOf i).toNat)
  case atStart => exact ⟨0, Nat.zero_le _, rfl, rfl⟩
  case round =>
    obtain ⟨k, hk, rfl, he⟩ := hrel
    have HE := Lib.hid he; clear he
    by_cases hlt : k < n
    · have hck := HC.out k hlt
      go_wp2
      · have h1 : (es[k]?.getD 0 != 0) = true := by assumption
        go_ret
        refine ⟨?_, rfl⟩
        rw [HE.out, firstE_drop es k (by have := HL.out; omega)]
        have h2 : es[k]?.getD 0 ≠ 0 := by simpa using h1
        simp [h2]
      · have h1 : (es[k]?.getD 0 != 0) = false := by assumption
        go_round
        case rel =>
          refine ⟨k + 1, by omega, by go_num, ?_⟩
          rw [HE.out, firstE_drop es k (by have := HL.out; omega)]
          have h2 : es[k]?.getD 0 = 0 := by simpa using h1
          simp [h2]
        case measure => simp [intOf]; omega
    · go_wp2
      go_ret
      refine ⟨?_, rfl⟩
      rw [HE.out, List.drop_of_length_le (by have := HL.out; omega)]
      rfl

end Go.Proofs.YtepjnkmmielamaaDoor
