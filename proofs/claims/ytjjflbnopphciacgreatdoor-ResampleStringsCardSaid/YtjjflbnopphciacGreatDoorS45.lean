import Derived.Test.YtjjflbnopphciacGreatDoorRsal
import Derived.Test.YtjjflbnopphciacGreatDoorRows
import Derived.ProofKit
import Derived.OpenShut
import Derived.Stop.LaidErr
import Derived.LaidLaws
import Derived.MakeChecks
namespace Go.Proofs.YtjjflbnopphciacGreatDoor
open Go.ChangeShapes Go.WideShapes Go.ChangeAt Go.RowKit

theorem laid_tail {P : Program} {W : World} {x : String × DataW Unit} {rest : List (String × DataW Unit)} (h : laidMet P (x :: rest) W) : laidMet P rest W := by
  obtain ⟨ps, ⟨g, t, cs, f, p, q, hg, ht, hv, hd, hr, rfl⟩, hn, hc⟩ := h
  exact ⟨q, hr, (List.nodup_append.1 hn).2.1, fun b off hm => hc b off (List.mem_append_right _ hm)⟩
theorem laid_head {P : Program} {W : World} {x : String × DataW Unit} {rest : List (String × DataW Unit)} (h : laidMet P (x :: rest) W) : laidMet P [x] W := by
  obtain ⟨ps, ⟨g, t, cs, f, p, q, hg, ht, hv, hd, hr, rfl⟩, hn, hc⟩ := h
  exact ⟨_, ⟨g, t, cs, f, p, [], hg, ht, hv, hd, rfl, (List.append_nil _).symm⟩, (List.nodup_append.1 hn).1, fun b off hm => hc b off (List.mem_append_left _ hm)⟩

/-- What the rows of this seat list. -/
def laidGS : List (String × DataW Unit) := [("math/bits.deBruijn32tab", Rows.laid_math_bits_deBruijn32tab), ("math/bits.deBruijn64tab", Rows.laid_math_bits_deBruijn64tab), ("internal/strconv.uint64pow10", Rows.laid_internal_strconv_uint64pow10), ("unicode/utf8.acceptRanges", Rows.laid_unicode_utf8_acceptRanges), ("strconv.ErrRange", Rows.laid_strconv_ErrRange), ("strconv.ErrSyntax", Rows.laid_strconv_ErrSyntax), ("lacquer/resample.kindWords", Rows.laid_lacquer_resample_kindWords), ("unicode/utf8.first", Rows.laid_unicode_utf8_first)]

theorem tPow : (Tryz.prog.globals[2]?).map (·.type) = some 182 := by kernel_rfl
theorem underPow : Tryz.prog.underlying 182 = some (.array 20 155) := by kernel_rfl
theorem underU64 : Tryz.prog.underlying 155 = some (.int .u64) := by kernel_rfl
theorem cellsU64 : Tryz.prog.cellsOf 155 = 1 := by kernel_rfl
theorem cellsPow : Tryz.prog.cellsOf 182 = 20 := by kernel_rfl
theorem gEs : Tryz.prog.globalNamed "strconv.ErrSyntax" = some 3 := by kernel_rfl
theorem gEr : Tryz.prog.globalNamed "strconv.ErrRange" = some 4 := by kernel_rfl
theorem tEs : (Tryz.prog.globals[3]?).map (·.type) = some 126 := by kernel_rfl
theorem tEr : (Tryz.prog.globals[4]?).map (·.type) = some 126 := by kernel_rfl
theorem starE : "*" ++ "errors.errorString" = "*errors.errorString" := by decide
theorem rowES (u : TypeId) (h : Tryz.prog.typeName? 3 u = some "*errors.errorString") : u = 207 :=
  typeName_ptr_named (nm := "errors.errorString") (by rw [starE]; kernel_rfl) (by kernel_rfl) (by decide) u (by rw [starE]; exact h)
theorem cellsES : Tryz.prog.cellsOf 209 = 1 := by kernel_rfl
theorem cellsStr : Tryz.prog.cellsOf 9 = 1 := by kernel_rfl

theorem gKw : Tryz.prog.globalNamed "lacquer/resample.kindWords" = some 0 := by kernel_rfl
theorem tKw : (Tryz.prog.globals[0]?).map (·.type) = some 66 := by kernel_rfl
theorem underKw : Tryz.prog.underlying 66 = some (.array 2 9) := by kernel_rfl
theorem kw_of {W : World} (h : laidMet Tryz.prog [("lacquer/resample.kindWords", Rows.laid_lacquer_resample_kindWords)] W) : ∀ j, j < 2 → W.cell? ⟨0, j, none⟩ = some (.string (if j = 0 then kwRatio else kwMap)) := by
  obtain ⟨ps, ⟨g0, t0, cs0, f0, p0, q0, hg0, ht0, hv0, hd0, _, _⟩, _, _⟩ := h
  obtain rfl := Option.some.inj (gKw.symm.trans hg0)
  obtain rfl := Option.some.inj (tKw.symm.trans ht0)
  obtain ⟨xs, m, _, ex, _, hl, hel⟩ := DataW.trod_array underKw hd0
  intro r hr
  have hE := hel r hr
  rw [cellsStr, Nat.mul_one, List.getElem?_eq_getElem (by omega)] at hE
  obtain ⟨z, e1, e2, _⟩ := DataW.trod_string Tryz.underlying9 hE
  have e3 : (xs.map (·.1)) = [.lit (.string [114, 97, 116, 105, 111]), .lit (.string [109, 97, 112])] := (DataW.agg.inj (Prod.mk.inj ex).1).symm
  have hz : z = (if r = 0 then kwRatio else kwMap) := by
    have e4 : (xs.map (·.1))[r]? = ([.lit (.string [114, 97, 116, 105, 111]), .lit (.string [109, 97, 112])] : List (DataW Unit))[r]? := by rw [e3]
    rw [List.getElem?_map, List.getElem?_eq_getElem (by omega : r < xs.length), e2] at e4
    apply ByteArray.ext
    apply Array.toList_inj.1
    rcases (show r = 0 ∨ r = 1 by omega) with rfl | rfl
    all_goals
      simp at e4
      rw [e4]
      rfl
  rw [World.var?_cell hg0 hv0 r, ← hz]
  have : cs0.toList[r]? = some (.string z) := by
    have h0 : ((cs0.toList.drop r).take 1)[0]? = some (.string z) := by rw [e1]; rfl
    simpa using h0
  simpa using this

theorem of_laidGS {W : World} (h : laidMetH Tryz.prog laidGS W) (hm : ∃ m : Int, W.cell? ⟨1, 0, none⟩ = some (.int .i64 m)) : LaidG W := by
  rw [MakeChecks.laidMetH_plain _ _ _ (by kernel_rfl)] at h
  have h3 := laid_tail (laid_tail h)
  have h5 := laid_tail (laid_tail h3)
  have h6 := laid_tail h5
  have h7 := laid_tail h6
  have hk := kw_of (laid_head h7)
  refine ⟨hk 0 (by omega), hk 1 (by omega), hm, ?_, ?_, ?_⟩
  · exact Lib.tabIs_of_head gTabG tPow underPow underU64 cellsU64 cellsPow (show laidMet Tryz.prog (("internal/strconv.uint64pow10", Lib.tabData .u64 Lib.pow10Tab) :: _) W from h3)
  · obtain ⟨a1, s1, hv1, _, _, _⟩ := laid_sentinel (laid_head h6) gEs tEs Tryz.underlying126 rowES Tryz.underlying207 Tryz.underlying209 rfl rfl Tryz.underlying9 cellsES cellsStr
    exact ⟨_, _, by simpa using World.var?_cell gEs hv1 0⟩
  · obtain ⟨a1, s1, hv1, _, _, _⟩ := laid_sentinel (laid_head h5) gEr tEr Tryz.underlying126 rowES Tryz.underlying207 Tryz.underlying209 rfl rfl Tryz.underlying9 cellsES cellsStr
    exact ⟨_, _, by simpa using World.var?_cell gEr hv1 0⟩
end Go.Proofs.YtjjflbnopphciacGreatDoor
