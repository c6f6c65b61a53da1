import Derived.Test.YtofdjapbofagiaaDoorD7
import Derived.Test.YtofdjapbofagiaaDoorB1
import Derived.Deep.QuietTactic
import Derived.BigQuiet
namespace Go.Proofs.YtofdjapbofagiaaDoor
open Go.RowKit

set_option maxRecDepth 100000 in
set_option maxHeartbeats 1000000 in
/-- Two slices that read as the same pairs are equal. -/
theorem ranges_same (A B : Option Addr) (g h n c d : Nat) (ps : List (Int × Int)) (w : World) (hr : RdR w g n ps) (hs : RdR w h n ps) (hn : n ≤ 1000000) (hA : 0 < n → A = some ⟨g, 0, none⟩) (hB : 0 < n → B = some ⟨h, 0, none⟩) :
    Calls Tryd.prog 31 #[.slice A n c, .slice B n d] w fun e w' => e = .returned (.bool true) ∧ Below w.heap.size w w' := by
  have HR := Lib.hid hr
  have HS := Lib.hid hs
  have HA := Lib.hid hA
  have HB := Lib.hid hB
  have hne : ((n : Int) != (n : Int)) = false := bne_self_eq_false' _
  clear hr hs hA hB
  go_enter Tryd.func31, Tryd.ntmps31
  go_wp2
  clear hne
  go_loopw [5] (fun i wr => ∃ k : Nat, k ≤ n ∧ i = .int .i64 k ∧ Hid (∃ j, wr = w.drewN j)) (fun i _ => n - (intOf i).toNat)
  case atStart => exact ⟨0, Nat.zero_le _, rfl, 0, rfl⟩
  case round =>
    obtain ⟨k, hk, rfl, HJ⟩ := hrel
    obtain ⟨j, hj⟩ := HJ.out
    by_cases hlt : k < n
    · have hkI : (k : Int) < (n : Int) := by omega
      have hk0 : (0 : Int) ≤ (k : Int) := by omega
      obtain ⟨h1, h2⟩ := HR.out.2.2 k hlt
      obtain ⟨h3, h4⟩ := HS.out.2.2 k hlt
      have eA := HA.out (by omega)
      have eB := HB.out (by omega)
      subst eA eB
      obtain ⟨⟨x, y⟩, hxy⟩ : ∃ p, ps.getD k (0, 0) = p := ⟨_, rfl⟩
      rw [hxy] at h1 h2 h3 h4
      dsimp only at h1 h2 h3 h4
      have q1 : wr.cell? ⟨g, k * 2, none⟩ = some (.int .i64 x) := by rw [hj]; exact h1
      have q2 : wr.cell? ⟨g, k * 2 + 1, none⟩ = some (.int .i64 y) := by rw [hj]; exact h2
      have q3 : wr.cell? ⟨h, k * 2, none⟩ = some (.int .i64 x) := by rw [hj]; exact h3
      have q4 : wr.cell? ⟨h, k * 2 + 1, none⟩ = some (.int .i64 y) := by rw [hj]; exact h4
      have HJ' := Lib.hid hj
      clear hj HJ h1 h2 h3 h4 hxy
      go_wp2
      go_quiet (fail)
      go_wp2
      go_roundw
      case rel =>
        refine ⟨k + 1, by omega, by go_num, ?_⟩
        show ∃ _, _ = _
        rw [HJ'.out]; exact ⟨_, World.drewN_drewN _ _ _⟩
      case measure => simp [intOf]; omega
    · obtain rfl : n = k := by omega
      clear hj
      go_wp2
      go_ret
      obtain ⟨j, hj⟩ := HJ.out
      exact ⟨rfl, by rw [hj]; exact belowDrewN (Below.refl _ _) _⟩

end Go.Proofs.YtofdjapbofagiaaDoor
