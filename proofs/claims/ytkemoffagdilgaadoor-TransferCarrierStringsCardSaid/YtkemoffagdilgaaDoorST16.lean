import Derived.Test.YtkemoffagdilgaaDoorST15
import Derived.Test.YtkemoffagdilgaaDoorW24
namespace Go.Proofs.YtkemoffagdilgaaDoor
open Go.ChangeShapes Go.WideShapes Go.ChangeAt Go.RowKit

theorem laid_tail {P : Program} {W : World} {x : String × DataW Unit} {rest : List (String × DataW Unit)} (h : laidMet P (x :: rest) W) : laidMet P rest W := by
  obtain ⟨ps, ⟨g, t, cs, f, p, q, hg, ht, hv, hd, hr, rfl⟩, hn, hc⟩ := h
  exact ⟨q, hr, (List.nodup_append.1 hn).2.1, fun b off hm => hc b off (List.mem_append_right _ hm)⟩
theorem laid_head {P : Program} {W : World} {x : String × DataW Unit} {rest : List (String × DataW Unit)} (h : laidMet P (x :: rest) W) : laidMet P [x] W := by
  obtain ⟨ps, ⟨g, t, cs, f, p, q, hg, ht, hv, hd, hr, rfl⟩, hn, hc⟩ := h
  exact ⟨_, ⟨g, t, cs, f, p, [], hg, ht, hv, hd, rfl, (List.append_nil _).symm⟩, (List.nodup_append.1 hn).1, fun b off hm => hc b off (List.mem_append_left _ hm)⟩

/-- What the rows of this seat list. -/
def laidS : List (String × DataW Unit) := [("math/bits.deBruijn32tab", Rows.laid_math_bits_deBruijn32tab), ("math/bits.deBruijn64tab", Rows.laid_math_bits_deBruijn64tab), ("internal/strconv.uint64pow10", Rows.laid_internal_strconv_uint64pow10), ("unicode/utf8.acceptRanges", Rows.laid_unicode_utf8_acceptRanges), ("lacquer/transfer.predictors", Rows.laid_lacquer_transfer_predictors), ("lacquer/transfer.kindWords", Rows.laid_lacquer_transfer_kindWords), ("unicode/utf8.first", Rows.laid_unicode_utf8_first)]

theorem gKw : Tryd.prog.globalNamed "lacquer/transfer.kindWords" = some 0 := by kernel_rfl
theorem tKw : (Tryd.prog.globals[0]?).map (·.type) = some 50 := by kernel_rfl
theorem underKw : Tryd.prog.underlying 50 = some (.array 3 9) := by kernel_rfl
theorem cellsStr : Tryd.prog.cellsOf 9 = 1 := by kernel_rfl
theorem tPow : (Tryd.prog.globals[2]?).map (·.type) = some 125 := by kernel_rfl
theorem underPow : Tryd.prog.underlying 125 = some (.array 20 111) := by kernel_rfl
theorem underU64 : Tryd.prog.underlying 111 = some (.int .u64) := by kernel_rfl
theorem cellsU64 : Tryd.prog.cellsOf 111 = 1 := by kernel_rfl
theorem cellsPow : Tryd.prog.cellsOf 125 = 20 := by kernel_rfl

theorem kw_of {W : World} (h : laidMet Tryd.prog [("lacquer/transfer.kindWords", Rows.laid_lacquer_transfer_kindWords)] W) : ∀ j, j < 3 → W.cell? ⟨0, j, none⟩ = some (.string (kws j)) := by
  obtain ⟨ps, ⟨g0, t0, cs0, f0, p0, q0, hg0, ht0, hv0, hd0, _, _⟩, _, _⟩ := h
  obtain rfl := Option.some.inj (gKw.symm.trans hg0)
  obtain rfl := Option.some.inj (tKw.symm.trans ht0)
  obtain ⟨xs, m, _, ex, _, hl, hel⟩ := DataW.trod_array underKw hd0
  intro r hr
  have hE := hel r hr
  rw [cellsStr, Nat.mul_one, List.getElem?_eq_getElem (by omega)] at hE
  obtain ⟨z, e1, e2, _⟩ := DataW.trod_string Tryd.underlying9 hE
  have e3 : (xs.map (·.1)) = [.lit (.string [100, 105, 115, 99]), .lit (.string [99, 121, 108, 105, 110, 100, 101, 114]), .lit (.string [116, 97, 112, 101])] := (DataW.agg.inj (Prod.mk.inj ex).1).symm
  have hz : z = kws r := by
    have e4 : (xs.map (·.1))[r]? = ([.lit (.string [100, 105, 115, 99]), .lit (.string [99, 121, 108, 105, 110, 100, 101, 114]), .lit (.string [116, 97, 112, 101])] : List (DataW Unit))[r]? := by rw [e3]
    rw [List.getElem?_map, List.getElem?_eq_getElem (by omega : r < xs.length), e2] at e4
    apply ByteArray.ext
    apply Array.toList_inj.1
    rcases (show r = 0 ∨ r = 1 ∨ r = 2 by omega) with rfl | rfl | rfl
    all_goals
      simp at e4
      rw [e4]
      rfl
  rw [World.var?_cell hg0 hv0 r, ← hz]
  have : cs0.toList[r]? = some (.string z) := by
    have h0 : ((cs0.toList.drop r).take 1)[0]? = some (.string z) := by rw [e1]; rfl
    simpa using h0
  simpa using this

theorem of_laidS {W : World} (h : laidMetH Tryd.prog laidS W) (hm : ∃ m : Int, W.cell? ⟨3, 0, none⟩ = some (.int .i64 m)) : LaidS W := by
  rw [MakeChecks.laidMetH_plain _ _ _ (by kernel_rfl)] at h
  have h3 := laid_tail (laid_tail h)
  have h5 := laid_tail (laid_tail h3)
  have h6 := laid_tail h5
  have hp : laidMetH Tryd.prog laidP W := by
    rw [MakeChecks.laidMetH_plain _ _ _ (by kernel_rfl)]
    exact laid_head h5
  have hk := kw_of (laid_head h6)
  refine ⟨of_laid hp, hk, block_lt_of_cell (hk 0 (by omega)), hm, ?_, ?_⟩
  · obtain ⟨m, hm⟩ := hm
    exact block_lt_of_cell hm
  · exact Lib.tabIs_of_head gTab tPow underPow underU64 cellsU64 cellsPow (show laidMet Tryd.prog (("internal/strconv.uint64pow10", Lib.tabData .u64 Lib.pow10Tab) :: _) W from h3)

end Go.Proofs.YtkemoffagdilgaaDoor
