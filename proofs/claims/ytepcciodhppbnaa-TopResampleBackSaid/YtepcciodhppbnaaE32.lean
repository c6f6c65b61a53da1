import Derived.Test.YtepcciodhppbnaaE31

namespace Go.Proofs.Ytepcciodhppbnaa
open Go.RowKit

set_option maxRecDepth 100000 in
set_option maxHeartbeats 1000000 in
theorem bLowest_any (n d : Int) (w : World) (hn : -1000000000000000000 ≤ n ∧ n ≤ 1000000000000000000) (hd : 0 < d ∧ d ≤ 1000000000000000000) :
    Calls Try.prog 110 #[.int .i64 n, .int .i64 d] w fun e w' => e = .returned (.agg #[.int .i64 (frN n d), .int .i64 (frD n d)]) ∧ Below w.heap.size w w' := by
  have CG := Lib.hid (fun w => bGcd_any n d w hn (by omega))
  have HN : Hid (frN n d = n.tdiv (Int.gcd n d : Nat)) := rfl
  have HD : Hid (frD n d = d.tdiv (Int.gcd n d : Nat)) := rfl
  have hpos : 0 < Int.gcd n d := Int.gcd_pos_of_ne_zero_right _ (by omega)
  obtain ⟨G, hG⟩ : ∃ G, Int.gcd n d = G := ⟨_, rfl⟩
  rw [hG] at CG HN HD hpos
  clear hG
  have hne : ((G : Int) == 0) = false := by rw [beq_eq_false_iff_ne]; omega
  have hG0 : ¬ G = 0 := by omega
  have hq1 := tdiv_bd n G hn
  have hq2 := tdiv_bd d G (by omega)
  have KW := Lib.hid (Bk.new w 57 #[.int .i64 0, .int .i64 0])
  have BW := Lib.hid (below1 w (.cells #[.int .i64 0, .int .i64 0] 57))
  go_enter Try.func110, Try.ntmps110
  go_wp2_with fail
  refine (CG.out _).mono ?_
  rintro e w1 ⟨rfl, hb⟩
  have K1 := Lib.hid (KW.out.later hb)
  have B1 := Lib.hid (BW.out.trans (hb.mono BW.out.size))
  clear hb KW BW
  have c0 : w1.cell? ⟨w.heap.size, 0, none⟩ = some (.int .i64 0) := by rw [K1.out.cell]; rfl
  have c1 : w1.cell? ⟨w.heap.size, 1, none⟩ = some (.int .i64 0) := by rw [K1.out.cell]; rfl
  have f0 : w1.frozen? ⟨w.heap.size, 0, none⟩ = false := K1.out.frozen 0
  have f1 : w1.frozen? ⟨w.heap.size, 1, none⟩ = false := K1.out.frozen 1
  go_wp2
  go_region
  all_goals
    go_wp2
    refine bodyPost_ret (v := .agg #[.int .i64 (n.tdiv (G : Int)), .int .i64 (d.tdiv (G : Int))]) (by simp [results, Try.results110, go_sem, c0, c1, f0, f1]) rfl ⟨?_, ?_⟩
    · rw [HN.out, HD.out]
    · have := B1.out
      go_grown

end Go.Proofs.Ytepcciodhppbnaa
