import Derived.Test.YtkemoffagdilgaaGreatDoorW53
import Derived.ChangeKeysEq
namespace Go.Proofs.YtkemoffagdilgaaGreatDoor
open Go.RowKit

theorem intInfoAt : ∃ i, Tryz.prog.info? 3 = some i := by
  obtain ⟨i0, hi, _⟩ := info_parts intInfo
  exact ⟨i0, hi⟩
theorem cellsOfInt : Tryz.prog.cellsOf 3 = 1 := by kernel_rfl
theorem underInt' : Tryz.prog.underlying 3 = some (.int .i64) := by kernel_rfl
theorem part_iArr (xs : List Int) (i : Nat) (h : i < xs.length) (W : World) : (Go.part 3 (iArr xs) (i * 1)).run Tryz.prog W = .ok (.int .i64 (xs.getD i 0)) W := by
  have h4 : (isAgg 3).run Tryz.prog W = .ok false W := by kernel_rfl
  have h1 := iArr_at xs i h
  simp [Go.part, Sem.run_bind, h4, h1]
theorem items8 (d : Nat) (xs ys : List Int) (hx : xs.length = 8) (hy : ys.length = 8) (W : World) : ∀ is : List Nat, (∀ i ∈ is, i < 8) →
    (Op.eqItems (d + 1) 3 1 (iArr xs) (iArr ys) is).run Tryz.prog W = .ok (is.all fun i => xs.getD i 0 == ys.getD i 0) W
  | [], _ => by simp [Op.eqItems]
  | i :: is, h => by
    have hi := h i (by simp)
    have ih := items8 d xs ys hx hy W is (fun j hj => h j (by simp [hj]))
    simp only [Op.eqItems, Sem.run_bind, part_iArr xs i (by omega), part_iArr ys i (by omega), Result.andThen_ok, run_equalIn_int W d 3 .i64 .i64 _ _ underInt']
    rw [List.all_cons]
    generalize (xs.getD i 0 == ys.getD i 0) = b
    cases b
    · simp only [Bool.not_false, if_true, Sem.run_pure, Bool.false_and]
    · simp only [Bool.not_true, Bool.false_eq_true, if_false, ih, Bool.true_and]
theorem all8 (xs ys : List Int) (hx : xs.length = 8) (hy : ys.length = 8) : ((List.range 8).all fun i => xs.getD i 0 == ys.getD i 0) = decide (xs = ys) := by
  rw [Bool.eq_iff_iff]
  simp only [List.all_eq_true, List.mem_range, beq_iff_eq, decide_eq_true_eq]
  constructor
  · intro h
    apply List.ext_getElem (by omega)
    intro i h1 h2
    have := h i (by omega)
    simpa [List.getD_eq_getElem?_getD, List.getElem?_eq_getElem h1, List.getElem?_eq_getElem h2] using this
  · rintro rfl i _; rfl
theorem eq8_run (xs ys : List Int) (hx : xs.length = 8) (hy : ys.length = 8) (W : World) : (binOp .eql 22 (.agg (iArr xs)) (.agg (iArr ys))).run Tryz.prog W = .ok (.bool (decide (xs = ys))) W := by
  obtain ⟨i, hi⟩ := intInfoAt
  have h := run_equalIn_array W 9999 (iArr xs) (iArr ys) arrUnder hi
  rw [cellsOfInt, items8 9998 xs ys hx hy W _ (fun i hi => by simpa using hi), all8 xs ys hx hy] at h
  rw [run_eql_struct]
  rw [h]
  rfl
theorem eq8_lit (x0 x1 x2 x3 x4 x5 x6 x7 : Int) (W : World) : (binOp .eql 22 (.agg #[.int .i64 x0, .int .i64 x1, .int .i64 x2, .int .i64 x3, .int .i64 x4, .int .i64 x5, .int .i64 x6, .int .i64 x7]) (.agg #[.int .i64 x0, .int .i64 x1, .int .i64 x2, .int .i64 x3, .int .i64 x4, .int .i64 x5, .int .i64 x6, .int .i64 x7])).run Tryz.prog W = .ok (.bool true) W := by
  have := eq8_run [x0, x1, x2, x3, x4, x5, x6, x7] [x0, x1, x2, x3, x4, x5, x6, x7] rfl rfl W
  simpa [iArr] using this

end Go.Proofs.YtkemoffagdilgaaGreatDoor
