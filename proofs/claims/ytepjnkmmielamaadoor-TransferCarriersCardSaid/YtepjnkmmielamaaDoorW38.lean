import Derived.Test.YtepjnkmmielamaaDoorW37
namespace Go.Proofs.YtepjnkmmielamaaDoor
open Go.RowKit

theorem carriers_walk (nm : ByteArray) (k sd n d rate : Int) (w : World) (hw : Laid w)
    (hn0 : -9223372036854775808 ≤ n) (hn1 : n ≤ 9223372036854775807) (hd1 : d ≤ 9223372036854775807) :
    Calls Tryd.prog 3 #[.agg #[.string nm, .int .i64 k, .int .i64 sd, .int .i64 n, .int .i64 d], .int .i64 rate] w fun e w' => e = .returned (.bool true) ∧ Below w.heap.size w w' := by
  by_cases hs : 20 < nm.size
  · exact carriers_long nm k sd n d rate w hw hs
  have hs2 : nm.size ≤ 20 := by omega
  have D1 := fun W => checkCarrier_any nm k sd n d W (by omega) hn0 hn1 hd1
  have D2 := fun W => carrierErrC_any nm k sd n d W (by omega) hn0 hn1 hd1
  by_cases hr : carrE nm.data.toList k sd n d = 0
  · obtain ⟨⟨n0, n1⟩, d0, d1⟩ := carrE_zero _ _ _ _ _ hr
    rw [hr] at D1 D2
    by_cases hk : k = 2
    · have ht : (k == 2) = true := by simpa using hk
      exact carriers_ok nm k sd n d rate 15 0 0 w hw hs2 (fun W => samples_head nm k sd n d rate 0 15 W true ht rfl (by decide) D1) D2 D1 (fun W => samplesB_tape nm k sd n d rate W ht)
    · have ht : (k == 2) = false := by simpa using hk
      by_cases hi : 1 ≤ rate ∧ rate ≤ 200000
      · have P := fun W => samples_ok nm k sd n d rate W ht n0 n1 d0 d1 hi.1 hi.2 D1
        have Q := fun W => samplesB_ok nm k sd n d rate W ht n0 n1 d0 d1 hi.1 hi.2
        by_cases hb : 1000000000 < turnN n d rate
        · simp only [if_pos hb] at P Q
          exact carriers_ok nm k sd n d rate 8 0 0 w hw hs2 P D2 D1 Q
        · simp only [if_neg hb] at P Q
          exact carriers_ok nm k sd n d rate 0 _ _ w hw hs2 P D2 D1 Q
      · have hI : inB rate 1 200000 = false := by
          rw [inB]
          by_cases a : 1 ≤ rate
          · have : ¬ rate ≤ 200000 := fun b => hi ⟨a, b⟩
            simp [this]
          · simp [a]
        have hR : rangeE rate 1 200000 = 2 := by rw [rangeE, hI]; rfl
        exact carriers_ok nm k sd n d rate 2 0 0 w hw hs2 (fun W => samples_head nm k sd n d rate 0 2 W false ht (by rw [hR]; rfl) (by decide) D1) D2 D1 (fun W => samplesB_rate nm k sd n d rate W ht hI)
  · obtain ⟨r, hrr⟩ : ∃ r, carrE nm.data.toList k sd n d = r := ⟨_, rfl⟩
    rw [hrr] at D1 D2 hr
    exact carriers_err nm k sd n d rate r w hw hs2 (beq_eq_false_iff_ne.2 hr) (fun W => samples_head nm k sd n d rate r r W (k == 2) rfl (by rw [firstE, if_neg hr]) hr D1) D2 D1

end Go.Proofs.YtepjnkmmielamaaDoor
