import Derived.Test.YtkemoffagdilgaaGreatDoorSB9
import Derived.Test.YtkemoffagdilgaaGreatDoorW24
namespace Go.Proofs.YtkemoffagdilgaaGreatDoor
open Go.ChangeShapes Go.WideShapes Go.ChangeAt Go.RowKit

theorem laid_tail {P : Program} {W : World} {x : String × DataW Unit} {rest : List (String × DataW Unit)} (h : laidMet P (x :: rest) W) : laidMet P rest W := by
  obtain ⟨ps, ⟨g, t, cs, f, p, q, hg, ht, hv, hd, hr, rfl⟩, hn, hc⟩ := h
  exact ⟨q, hr, (List.nodup_append.1 hn).2.1, fun b off hm => hc b off (List.mem_append_right _ hm)⟩
theorem laid_head {P : Program} {W : World} {x : String × DataW Unit} {rest : List (String × DataW Unit)} (h : laidMet P (x :: rest) W) : laidMet P [x] W := by
  obtain ⟨ps, ⟨g, t, cs, f, p, q, hg, ht, hv, hd, hr, rfl⟩, hn, hc⟩ := h
  exact ⟨_, ⟨g, t, cs, f, p, [], hg, ht, hv, hd, rfl, (List.append_nil _).symm⟩, (List.nodup_append.1 hn).1, fun b off hm => hc b off (List.mem_append_left _ hm)⟩

/-- What the rows of this seat list. -/
def laidBS : List (String × DataW Unit) := [("math/bits.deBruijn32tab", Rows.laid_math_bits_deBruijn32tab), ("math/bits.deBruijn64tab", Rows.laid_math_bits_deBruijn64tab), ("internal/strconv.uint64pow10", Rows.laid_internal_strconv_uint64pow10), ("unicode/utf8.acceptRanges", Rows.laid_unicode_utf8_acceptRanges), ("lacquer/transfer.predictors", Rows.laid_lacquer_transfer_predictors), ("unicode/utf8.first", Rows.laid_unicode_utf8_first)]

theorem tPow : (Tryz.prog.globals[1]?).map (·.type) = some 125 := by kernel_rfl
theorem underPow : Tryz.prog.underlying 125 = some (.array 20 112) := by kernel_rfl
theorem underU64 : Tryz.prog.underlying 112 = some (.int .u64) := by kernel_rfl
theorem cellsU64 : Tryz.prog.cellsOf 112 = 1 := by kernel_rfl
theorem cellsPow : Tryz.prog.cellsOf 125 = 20 := by kernel_rfl

theorem of_laidBS {W : World} (h : laidMetH Tryz.prog laidBS W) (hm : ∃ m : Int, W.cell? ⟨2, 0, none⟩ = some (.int .i64 m)) : LaidB W := by
  rw [MakeChecks.laidMetH_plain _ _ _ (by kernel_rfl)] at h
  have h3 := laid_tail (laid_tail h)
  have h5 := laid_tail (laid_tail h3)
  have hp : laidMetH Tryz.prog laidP W := by
    rw [MakeChecks.laidMetH_plain _ _ _ (by kernel_rfl)]
    exact laid_head h5
  refine ⟨of_laid hp, hm, ?_, ?_⟩
  · obtain ⟨m, hm⟩ := hm
    exact block_lt_of_cell hm
  · exact Lib.tabIs_of_head gTabB tPow underPow underU64 cellsU64 cellsPow (show laidMet Tryz.prog (("internal/strconv.uint64pow10", Lib.tabData .u64 Lib.pow10Tab) :: _) W from h3)

end Go.Proofs.YtkemoffagdilgaaGreatDoor
