import Derived.Test.YtnmfeonagigkeaaDoorKA
namespace Go.Proofs.YtnmfeonagigkeaaDoor
open Go.RowKit

theorem straight_walk (s d m : Int) (B : Option Addr) (k cB : Nat) (gs : List (Int × Int)) (z : Int) (w : World) (hl : LaidSides w) (hB : B = none → k = 0 ∧ cB = 0) (hg : RdP w B k gs) :
    Calls Tryd.prog 6 #[.agg #[.int .i64 s, .int .i64 d, .int .i64 m], .slice B k cB, .int .i64 z] w fun e w' => e = .returned (.bool true) ∧ Below w.heap.size w w' := by
  by_cases hs : -10000 ≤ s ∧ s ≤ 10000
  · by_cases hd : -1000 ≤ d ∧ d ≤ 1000
    · by_cases hm : 2 ≤ m ∧ m ≤ 60
      · by_cases hk : k ≤ 10
        · obtain ⟨n, hmn⟩ : ∃ n : Nat, m = n := ⟨m.toNat, by omega⟩
          by_cases hd2 : gapsE n gs = 0
          · by_cases hz : -100000 ≤ z ∧ z ≤ 100000
            · cases hBo : B with
              | none => rw [← hBo]; exact straight_okn s d m z B k cB gs w hl hB hg hs hd hm hk n hmn hd2 hz hBo
              | some ad => rw [← hBo]; exact straight_oks s d m z B k cB gs w hl hB hg hs hd hm hk n hmn hd2 hz ad hBo
            · exact straight_out5 s d m z B k cB gs w hl hB hg hs hd hm hk n hmn _ rfl hd2 hz
          · exact straight_out4 s d m z B k cB gs w hl hB hg hs hd hm hk n hmn _ rfl (by simpa using hd2)
        · exact straight_out3 s d m z B k cB gs w hl hB hg hs hd hm hk
      · exact straight_out2 s d m z B k cB gs w hl hB hg hs hd hm
    · exact straight_out1 s d m z B k cB gs w hl hB hg hs hd
  · exact straight_out0 s d m z B k cB gs w hl hB hg hs

end Go.Proofs.YtnmfeonagigkeaaDoor
