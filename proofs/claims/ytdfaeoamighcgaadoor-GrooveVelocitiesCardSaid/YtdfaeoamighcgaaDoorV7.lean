import Derived.Test.YtdfaeoamighcgaaDoorV6a
import Derived.Test.YtdfaeoamighcgaaDoorV6b
import Derived.Test.YtdfaeoamighcgaaDoorV6c
import Derived.Test.YtdfaeoamighcgaaDoorV6d
import Derived.Test.YtdfaeoamighcgaaDoorV6e
import Derived.Test.YtdfaeoamighcgaaDoorV6f
namespace Go.Proofs.YtdfaeoamighcgaaDoor
open Go.RowKit

theorem velocities_walk (A : Option Addr) (n c : Nat) (xs : List Int) (start limit : Int) (w : World) (hl : LaidSides w) (hA : A = none → n = 0 ∧ c = 0) (hr : RdI w A n xs) :
    Calls Tryd.prog 11 #[.slice A n c, .int .i64 start, .int .i64 limit] w fun e w' => e = .returned (.bool true) ∧ Below w.heap.size w w' := by
  by_cases hn : n ≤ 203
  · by_cases hp : posE xs = 0
    · have hsm := (pos_ok hp).2
      have hje : jmpE xs limit = limE limit := by unfold jmpE; rw [if_pos hp]
      have hte : turnErr xs = if n = 0 then 10 else 0 := by unfold turnErr; rw [if_pos hp, hr.1]
      by_cases hm : limE limit = 0
      · have hlb : 0 ≤ limit ∧ limit ≤ 2000000 := by
          unfold limE at hm
          by_cases h : fromB 0 2000000 [limit] = true
          · exact fromB_one.1 h
          · rw [if_neg h] at hm; omega
        have hjj : jmpL xs limit = jmpTo xs limit n := by unfold jmpL; rw [if_pos (hje.trans hm), hr.1]
        by_cases h0 : n = 0
        · have ht : turnErr xs = 10 := by rw [hte, if_pos h0]
          exact vel_ok0 A n c xs start limit w hl hA hr hn _ _ _ _ _ _ rfl rfl rfl rfl rfl rfl hsm hlb hjj hp (hje.trans hm) ht hm (by unfold velX; rw [if_neg (by rw [ht]; decide)]) (by rw [h0]; rfl)
        · have ht : turnErr xs = 0 := by rw [hte, if_neg h0]
          exact vel_ok1 A n c xs start limit w hl hA hr hn _ _ _ _ _ _ rfl rfl rfl rfl rfl rfl (by omega) hsm hlb hp (by unfold velX; rw [if_pos ht]) hjj hp (hje.trans hm) ht hm
      · have hj0 : jmpL xs limit = [] := by unfold jmpL; rw [if_neg (by rw [hje]; exact hm)]
        have h1 : (limE limit != 0) = true := by simpa using hm
        have h2 : (limE limit == 0) = false := by simpa using hm
        by_cases h0 : n = 0
        · have ht : turnErr xs = 10 := by rw [hte, if_pos h0]
          exact vel_lim0 A n c xs start limit w hl hA hr hn _ _ _ _ _ _ rfl rfl rfl rfl rfl rfl h1 h2 hp hje ht hj0 (by unfold velX; rw [if_neg (by rw [ht]; decide)]) (by rw [h0]; rfl)
        · have ht : turnErr xs = 0 := by rw [hte, if_neg h0]
          exact vel_lim1 A n c xs start limit w hl hA hr hn _ _ _ _ _ _ rfl rfl rfl rfl rfl rfl (by omega) hsm hp (by unfold velX; rw [if_pos ht]) h1 h2 hp hje ht hj0
    · have hje : jmpE xs limit = posE xs := by unfold jmpE; rw [if_neg hp]
      have ht : turnErr xs = posE xs := by unfold turnErr; rw [if_neg hp]
      exact vel_pos A n c xs start limit w hl hA hr hn _ _ _ _ _ _ rfl rfl rfl rfl rfl rfl (by simpa using hp) ht hje (by unfold velX; rw [if_neg (by rw [ht]; exact hp)]) (by unfold jmpL; rw [if_neg (by rw [hje]; exact hp)])
  · exact vel_long A n c xs start limit w hl hA hr hn

end Go.Proofs.YtdfaeoamighcgaaDoor
