import Derived.Test.YtjjflbnopphciaaGreatDoorGS13
import Derived.Test.YtjjflbnopphciaaGreatDoorL2
import Derived.Stop.LaidErr
import Derived.LaidLaws
namespace Go.Proofs.YtjjflbnopphciaaGreatDoor
open Go.ChangeShapes Go.WideShapes Go.ChangeAt Go.RowKit

theorem laid_tail {P : Program} {W : World} {x : String × DataW Unit} {rest : List (String × DataW Unit)} (h : laidMet P (x :: rest) W) : laidMet P rest W := by
  obtain ⟨ps, ⟨g, t, cs, f, p, q, hg, ht, hv, hd, hr, rfl⟩, hn, hc⟩ := h
  exact ⟨q, hr, (List.nodup_append.1 hn).2.1, fun b off hm => hc b off (List.mem_append_right _ hm)⟩
theorem laid_head {P : Program} {W : World} {x : String × DataW Unit} {rest : List (String × DataW Unit)} (h : laidMet P (x :: rest) W) : laidMet P [x] W := by
  obtain ⟨ps, ⟨g, t, cs, f, p, q, hg, ht, hv, hd, hr, rfl⟩, hn, hc⟩ := h
  exact ⟨_, ⟨g, t, cs, f, p, [], hg, ht, hv, hd, rfl, (List.append_nil _).symm⟩, (List.nodup_append.1 hn).1, fun b off hm => hc b off (List.mem_append_left _ hm)⟩

/-- What the rows of this seat list. -/
def laidGS : List (String × DataW Unit) := [("math/bits.deBruijn32tab", Rows.laid_math_bits_deBruijn32tab), ("math/bits.deBruijn64tab", Rows.laid_math_bits_deBruijn64tab), ("internal/strconv.uint64pow10", Rows.laid_internal_strconv_uint64pow10), ("unicode/utf8.acceptRanges", Rows.laid_unicode_utf8_acceptRanges), ("strconv.ErrRange", Rows.laid_strconv_ErrRange), ("strconv.ErrSyntax", Rows.laid_strconv_ErrSyntax), ("lacquer/groove.sides", Rows.laid_lacquer_groove_sides), ("unicode/utf8.first", Rows.laid_unicode_utf8_first)]

theorem tPow : (Tryz.prog.globals[1]?).map (·.type) = some 180 := by kernel_rfl
theorem underPow : Tryz.prog.underlying 180 = some (.array 20 162) := by kernel_rfl
theorem underU64 : Tryz.prog.underlying 162 = some (.int .u64) := by kernel_rfl
theorem cellsU64 : Tryz.prog.cellsOf 162 = 1 := by kernel_rfl
theorem cellsPow : Tryz.prog.cellsOf 180 = 20 := by kernel_rfl
theorem gEs : Tryz.prog.globalNamed "strconv.ErrSyntax" = some 3 := by kernel_rfl
theorem gEr : Tryz.prog.globalNamed "strconv.ErrRange" = some 4 := by kernel_rfl
theorem tEs : (Tryz.prog.globals[3]?).map (·.type) = some 124 := by kernel_rfl
theorem tEr : (Tryz.prog.globals[4]?).map (·.type) = some 124 := by kernel_rfl
theorem starE : "*" ++ "errors.errorString" = "*errors.errorString" := by decide
theorem rowES (u : TypeId) (h : Tryz.prog.typeName? 3 u = some "*errors.errorString") : u = 198 :=
  typeName_ptr_named (nm := "errors.errorString") (by rw [starE]; kernel_rfl) (by kernel_rfl) (by decide) u (by rw [starE]; exact h)
theorem cellsES : Tryz.prog.cellsOf 200 = 1 := by kernel_rfl
theorem cellsStr : Tryz.prog.cellsOf 9 = 1 := by kernel_rfl

theorem of_laidGS {W : World} (h : laidMetH Tryz.prog laidGS W) (hm : ∃ m : Int, W.cell? ⟨2, 0, none⟩ = some (.int .i64 m)) : LaidG W := by
  rw [MakeChecks.laidMetH_plain _ _ _ (by kernel_rfl)] at h
  have h3 := laid_tail (laid_tail h)
  have h5 := laid_tail (laid_tail h3)
  have h6 := laid_tail h5
  have h7 := laid_tail h6
  have hp : laidMetH Tryz.prog laidP W := by
    rw [MakeChecks.laidMetH_plain _ _ _ (by kernel_rfl)]
    exact laid_head h7
  refine ⟨of_laid hp, hm, ?_, ?_, ?_⟩
  · exact Lib.tabIs_of_head gTabG tPow underPow underU64 cellsU64 cellsPow (show laidMet Tryz.prog (("internal/strconv.uint64pow10", Lib.tabData .u64 Lib.pow10Tab) :: _) W from h3)
  · obtain ⟨a1, s1, hv1, _, _, _⟩ := laid_sentinel (laid_head h6) gEs tEs Tryz.underlying124 rowES Tryz.underlying198 Tryz.underlying200 rfl rfl Tryz.underlying9 cellsES cellsStr
    exact ⟨_, _, by simpa using World.var?_cell gEs hv1 0⟩
  · obtain ⟨a1, s1, hv1, _, _, _⟩ := laid_sentinel (laid_head h5) gEr tEr Tryz.underlying124 rowES Tryz.underlying198 Tryz.underlying200 rfl rfl Tryz.underlying9 cellsES cellsStr
    exact ⟨_, _, by simpa using World.var?_cell gEr hv1 0⟩
end Go.Proofs.YtjjflbnopphciaaGreatDoor
