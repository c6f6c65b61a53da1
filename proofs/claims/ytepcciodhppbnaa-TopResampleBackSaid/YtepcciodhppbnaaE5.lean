import Derived.Test.YtepcciodhppbnaaE2
import Derived.Handy

namespace Go.Proofs.Ytepcciodhppbnaa
open Go.RowKit

def itp1 : Value := .agg #[.int .i64 1, .int .i64 0, .int .i64 64, .func (.func 120) #[] #[], .int .i64 8192, .func (.func 121) #[] #[]]
def itp3 : Value := .agg #[.int .i64 3, .int .i64 1, .int .i64 1572864, .func (.func 122) #[] #[], .int .i64 402653184, .func (.func 123) #[] #[]]
def itp0 : Value := .agg #[.int .i64 0, .int .i64 0, .int .i64 0, .nilFunc, .int .i64 0, .nilFunc]

set_option maxRecDepth 100000 in
set_option maxHeartbeats 1000000 in
theorem itpOf_1 (w : World) :
    Calls Try.prog 67 #[.int .i64 1] w fun e w' => e = .returned (.tuple #[itp1, .int .i64 0]) ∧ Below w.heap.size w w' := by
  have i0 : ∀ w, (Instr.index 154 (.agg #[.int .i64 1, .int .i64 0, .int .i64 64, .func (.func 120) #[] #[], .int .i64 8192, .func (.func 121) #[] #[], .int .i64 3, .int .i64 1, .int .i64 1572864, .func (.func 122) #[] #[], .int .i64 402653184, .func (.func 123) #[] #[]]) (.int .i64 0)).run Try.prog w = .ok (.agg #[.int .i64 1, .int .i64 0, .int .i64 64, .func (.func 120) #[] #[], .int .i64 8192, .func (.func 121) #[] #[]]) w := fun _ => by kernel_rfl
  have i1 : ∀ w, (Instr.index 154 (.agg #[.int .i64 1, .int .i64 0, .int .i64 64, .func (.func 120) #[] #[], .int .i64 8192, .func (.func 121) #[] #[], .int .i64 3, .int .i64 1, .int .i64 1572864, .func (.func 122) #[] #[], .int .i64 402653184, .func (.func 123) #[] #[]]) (.int .i64 1)).run Try.prog w = .ok (.agg #[.int .i64 3, .int .i64 1, .int .i64 1572864, .func (.func 122) #[] #[], .int .i64 402653184, .func (.func 123) #[] #[]]) w := fun _ => by kernel_rfl
  go_enter Try.func67, Try.ntmps67
  go_wp2
  refine wp_loop_rounds 3 ?_
  rw [rounds_succ]
  go_wp2
  exact bodyPost_ret (v := .tuple #[itp1, .int .i64 0]) (by simp [results, Try.results67, go_sem, itp1]) rfl ⟨rfl, by go_grown⟩
set_option maxRecDepth 100000 in
set_option maxHeartbeats 1000000 in
theorem itpOf_3 (w : World) :
    Calls Try.prog 67 #[.int .i64 3] w fun e w' => e = .returned (.tuple #[itp3, .int .i64 0]) ∧ Below w.heap.size w w' := by
  have i0 : ∀ w, (Instr.index 154 (.agg #[.int .i64 1, .int .i64 0, .int .i64 64, .func (.func 120) #[] #[], .int .i64 8192, .func (.func 121) #[] #[], .int .i64 3, .int .i64 1, .int .i64 1572864, .func (.func 122) #[] #[], .int .i64 402653184, .func (.func 123) #[] #[]]) (.int .i64 0)).run Try.prog w = .ok (.agg #[.int .i64 1, .int .i64 0, .int .i64 64, .func (.func 120) #[] #[], .int .i64 8192, .func (.func 121) #[] #[]]) w := fun _ => by kernel_rfl
  have i1 : ∀ w, (Instr.index 154 (.agg #[.int .i64 1, .int .i64 0, .int .i64 64, .func (.func 120) #[] #[], .int .i64 8192, .func (.func 121) #[] #[], .int .i64 3, .int .i64 1, .int .i64 1572864, .func (.func 122) #[] #[], .int .i64 402653184, .func (.func 123) #[] #[]]) (.int .i64 1)).run Try.prog w = .ok (.agg #[.int .i64 3, .int .i64 1, .int .i64 1572864, .func (.func 122) #[] #[], .int .i64 402653184, .func (.func 123) #[] #[]]) w := fun _ => by kernel_rfl
  go_enter Try.func67, Try.ntmps67
  go_wp2
  refine wp_loop_rounds 3 ?_
  rw [rounds_succ]
  go_wp2
  rw [rounds_succ]
  go_wp2
  exact bodyPost_ret (v := .tuple #[itp3, .int .i64 0]) (by simp [results, Try.results67, go_sem, itp3]) rfl ⟨rfl, by go_grown⟩
set_option maxRecDepth 100000 in
set_option maxHeartbeats 1000000 in
theorem itpOf_no (n : Int) (w : World) (h1 : n ≠ 1) (h3 : n ≠ 3) :
    Calls Try.prog 67 #[.int .i64 n] w fun e w' => e = .returned (.tuple #[itp0, .int .i64 15]) ∧ Below w.heap.size w w' := by
  have i0 : ∀ w, (Instr.index 154 (.agg #[.int .i64 1, .int .i64 0, .int .i64 64, .func (.func 120) #[] #[], .int .i64 8192, .func (.func 121) #[] #[], .int .i64 3, .int .i64 1, .int .i64 1572864, .func (.func 122) #[] #[], .int .i64 402653184, .func (.func 123) #[] #[]]) (.int .i64 0)).run Try.prog w = .ok (.agg #[.int .i64 1, .int .i64 0, .int .i64 64, .func (.func 120) #[] #[], .int .i64 8192, .func (.func 121) #[] #[]]) w := fun _ => by kernel_rfl
  have i1 : ∀ w, (Instr.index 154 (.agg #[.int .i64 1, .int .i64 0, .int .i64 64, .func (.func 120) #[] #[], .int .i64 8192, .func (.func 121) #[] #[], .int .i64 3, .int .i64 1, .int .i64 1572864, .func (.func 122) #[] #[], .int .i64 402653184, .func (.func 123) #[] #[]]) (.int .i64 1)).run Try.prog w = .ok (.agg #[.int .i64 3, .int .i64 1, .int .i64 1572864, .func (.func 122) #[] #[], .int .i64 402653184, .func (.func 123) #[] #[]]) w := fun _ => by kernel_rfl
  have e1 : ((1 : Int) == n) = false := by rw [beq_eq_false_iff_ne]; omega
  have e3 : ((3 : Int) == n) = false := by rw [beq_eq_false_iff_ne]; omega
  clear h1 h3
  go_enter Try.func67, Try.ntmps67
  go_wp2
  refine wp_loop_rounds 3 ?_
  rw [rounds_succ]
  go_wp2
  rw [rounds_succ]
  go_wp2
  rw [rounds_succ]
  go_wp2
  exact bodyPost_ret (v := .tuple #[itp0, .int .i64 15]) (by simp [results, Try.results67, go_sem, itp0]) rfl ⟨rfl, by go_grown⟩

end Go.Proofs.Ytepcciodhppbnaa
