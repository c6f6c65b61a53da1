import Derived.Test.YtccoflhoggpgoaaMoaa
import Derived.RangeFuncFrom

namespace Go.Proofs.Ytccoflhoggpgoaa
open Go.RowKit

/-! ### floats at the example's numbers -/
theorem sizeF_128 (w : World) : Calls Try.prog 135 #[.float .f32 1124073472] w fun e w' => e = .returned (.float .f32 1124073472) ∧ w = w' := by
  have hn : ∀ W, (Op.unary .neg (.float .f32 1124073472)).run Try.prog W = .ok (.float .f32 3271557120) W := fun _ => by kernel_rfl
  have hm : ∀ ts t W, (Builtin.max_ ts t #[.float .f32 1124073472, .float .f32 3271557120]).run Try.prog W = .ok (.float .f32 1124073472) W := fun _ _ _ => by kernel_rfl
  go_enter Try.func135, Try.ntmps135
  go_wp2
  go_ret
  exact ⟨rfl, rfl⟩
theorem sizeF_17920 (w : World) : Calls Try.prog 135 #[.float .f32 1183580160] w fun e w' => e = .returned (.float .f32 1183580160) ∧ w = w' := by
  have hn : ∀ W, (Op.unary .neg (.float .f32 1183580160)).run Try.prog W = .ok (.float .f32 3331063808) W := fun _ => by kernel_rfl
  have hm : ∀ ts t W, (Builtin.max_ ts t #[.float .f32 1183580160, .float .f32 3331063808]).run Try.prog W = .ok (.float .f32 1183580160) W := fun _ _ _ => by kernel_rfl
  go_enter Try.func135, Try.ntmps135
  go_wp2
  go_ret
  exact ⟨rfl, rfl⟩
theorem sizeF_18432 (w : World) : Calls Try.prog 135 #[.float .f32 1183842304] w fun e w' => e = .returned (.float .f32 1183842304) ∧ w = w' := by
  have hn : ∀ W, (Op.unary .neg (.float .f32 1183842304)).run Try.prog W = .ok (.float .f32 3331325952) W := fun _ => by kernel_rfl
  have hm : ∀ ts t W, (Builtin.max_ ts t #[.float .f32 1183842304, .float .f32 3331325952]).run Try.prog W = .ok (.float .f32 1183842304) W := fun _ _ _ => by kernel_rfl
  go_enter Try.func135, Try.ntmps135
  go_wp2
  go_ret
  exact ⟨rfl, rfl⟩
theorem sampleAt_lo (A : Option Addr) (c : Nat) (w : World) : Calls Try.prog 148 #[.slice A 2 c, .int .i64 (-1)] w fun e w' => e = .returned (.float .f32 0) ∧ w = w' := by
  go_enter Try.func148, Try.ntmps148
  go_wp2
  go_ret
  exact ⟨rfl, rfl⟩
theorem sampleAt_hi (A : Option Addr) (c : Nat) (w : World) : Calls Try.prog 148 #[.slice A 2 c, .int .i64 2] w fun e w' => e = .returned (.float .f32 0) ∧ w = w' := by
  go_enter Try.func148, Try.ntmps148
  go_wp2
  go_ret
  exact ⟨rfl, rfl⟩
theorem conv128 (W : World) : (convert 3 156 (.int .i64 128)).run Try.prog W = .ok (.float .f32 1124073472) W := by kernel_rfl
theorem sampleAt_0 (g c : Nat) (w : World) (h : w.cell? ⟨g, 0, none⟩ = some (.int .i64 128)) : Calls Try.prog 148 #[.slice (some ⟨g, 0, none⟩) 2 c, .int .i64 0] w fun e w' => e = .returned (.float .f32 1124073472) ∧ w = w' := by
  have hc := fun W => conv128 W
  go_enter Try.func148, Try.ntmps148
  go_wp2
  go_ret
  exact ⟨rfl, rfl⟩
theorem sampleAt_1 (g c : Nat) (w : World) (h : w.cell? ⟨g, 1, none⟩ = some (.int .i64 128)) : Calls Try.prog 148 #[.slice (some ⟨g, 0, none⟩) 2 c, .int .i64 1] w fun e w' => e = .returned (.float .f32 1124073472) ∧ w = w' := by
  have hc := fun W => conv128 W
  go_enter Try.func148, Try.ntmps148
  go_wp2
  go_ret
  exact ⟨rfl, rfl⟩
def sam4 : Array Value := #[.float .f32 0, .float .f32 1124073472, .float .f32 1124073472, .float .f32 0]
def wgt0 : Array Value := #[.float .f32 3235905536, .float .f32 1121058816, .float .f32 1108082688, .float .f32 3231711232]
def sums0 : List Value := [.float .f32 0, .float .f32 0, .float .f32 1179779072, .float .f32 1183580160, .float .f32 1183580160]
set_option maxRecDepth 100000 in
set_option maxHeartbeats 2000000 in
theorem weighted0_any (w : World) : Calls Try.prog 149 #[.agg #[.float .f32 3235905536, .float .f32 1121058816, .float .f32 1108082688, .float .f32 3231711232], .agg #[.float .f32 0, .float .f32 1124073472, .float .f32 1124073472, .float .f32 0]] w fun e w' => e = .returned (.float .f32 1183580160) ∧ Below w.heap.size w w' := by
  have hm0 : ∀ W, (binOp .mul 156 (.float .f32 3235905536) (.float .f32 0)).run Try.prog W = .ok (.float .f32 2147483648) W := fun _ => by kernel_rfl
  have ha0 : ∀ W, (binOp .add 156 (.float .f32 0) (.float .f32 2147483648)).run Try.prog W = .ok (.float .f32 0) W := fun _ => by kernel_rfl
  have hm1 : ∀ W, (binOp .mul 156 (.float .f32 1121058816) (.float .f32 1124073472)).run Try.prog W = .ok (.float .f32 1179779072) W := fun _ => by kernel_rfl
  have ha1 : ∀ W, (binOp .add 156 (.float .f32 0) (.float .f32 1179779072)).run Try.prog W = .ok (.float .f32 1179779072) W := fun _ => by kernel_rfl
  have hm2 : ∀ W, (binOp .mul 156 (.float .f32 1108082688) (.float .f32 1124073472)).run Try.prog W = .ok (.float .f32 1166802944) W := fun _ => by kernel_rfl
  have ha2 : ∀ W, (binOp .add 156 (.float .f32 1179779072) (.float .f32 1166802944)).run Try.prog W = .ok (.float .f32 1183580160) W := fun _ => by kernel_rfl
  have hm3 : ∀ W, (binOp .mul 156 (.float .f32 3231711232) (.float .f32 0)).run Try.prog W = .ok (.float .f32 2147483648) W := fun _ => by kernel_rfl
  have ha3 : ∀ W, (binOp .add 156 (.float .f32 1183580160) (.float .f32 2147483648)).run Try.prog W = .ok (.float .f32 1183580160) W := fun _ => by kernel_rfl
  have hi0 : ∀ W, (Instr.index 168 (.agg #[.float .f32 3235905536, .float .f32 1121058816, .float .f32 1108082688, .float .f32 3231711232]) (.int .i64 0)).run Try.prog W = .ok (.float .f32 3235905536) W := fun _ => by kernel_rfl
  have hi1 : ∀ W, (Instr.index 168 (.agg #[.float .f32 3235905536, .float .f32 1121058816, .float .f32 1108082688, .float .f32 3231711232]) (.int .i64 1)).run Try.prog W = .ok (.float .f32 1121058816) W := fun _ => by kernel_rfl
  have hi2 : ∀ W, (Instr.index 168 (.agg #[.float .f32 3235905536, .float .f32 1121058816, .float .f32 1108082688, .float .f32 3231711232]) (.int .i64 2)).run Try.prog W = .ok (.float .f32 1108082688) W := fun _ => by kernel_rfl
  have hi3 : ∀ W, (Instr.index 168 (.agg #[.float .f32 3235905536, .float .f32 1121058816, .float .f32 1108082688, .float .f32 3231711232]) (.int .i64 3)).run Try.prog W = .ok (.float .f32 3231711232) W := fun _ => by kernel_rfl
  go_enter Try.func149, Try.ntmps149
  go_wp2
  go_loop [5, 9] (fun s i => ∃ k : Nat, k ≤ 4 ∧ i = .int .i64 k ∧ s = sums0.getD k undef) (fun _ i => 4 - (intOf i).toNat)
  case atStart => exact ⟨0, by omega, rfl, rfl⟩
  case round =>
    obtain ⟨k, hk, rfl, rfl⟩ := hrel
    rcases (by omega : k = 0 ∨ k = 1 ∨ k = 2 ∨ k = 3 ∨ k = 4) with rfl | rfl | rfl | rfl | rfl
    · simp only [sums0, List.getD_cons_zero, List.getD_cons_succ]
      go_wp2
      go_round
      case rel => exact ⟨1, by omega, rfl, rfl⟩
      case measure => decide
    · simp only [sums0, List.getD_cons_zero, List.getD_cons_succ]
      go_wp2
      go_round
      case rel => exact ⟨2, by omega, rfl, rfl⟩
      case measure => decide
    · simp only [sums0, List.getD_cons_zero, List.getD_cons_succ]
      go_wp2
      go_round
      case rel => exact ⟨3, by omega, rfl, rfl⟩
      case measure => decide
    · simp only [sums0, List.getD_cons_zero, List.getD_cons_succ]
      go_wp2
      go_round
      case rel => exact ⟨4, by omega, rfl, rfl⟩
      case measure => decide
    · simp only [sums0, List.getD_cons_zero, List.getD_cons_succ]
      go_wp2
      go_ret
      exact ⟨rfl, by go_grown⟩
def wgt1 : Array Value := #[.float .f32 3238002688, .float .f32 1116733440, .float .f32 1116733440, .float .f32 3238002688]
def sums1 : List Value := [.float .f32 0, .float .f32 0, .float .f32 1175453696, .float .f32 1183842304, .float .f32 1183842304]
set_option maxRecDepth 100000 in
set_option maxHeartbeats 2000000 in
theorem weighted1_any (w : World) : Calls Try.prog 149 #[.agg #[.float .f32 3238002688, .float .f32 1116733440, .float .f32 1116733440, .float .f32 3238002688], .agg #[.float .f32 0, .float .f32 1124073472, .float .f32 1124073472, .float .f32 0]] w fun e w' => e = .returned (.float .f32 1183842304) ∧ Below w.heap.size w w' := by
  have hm0 : ∀ W, (binOp .mul 156 (.float .f32 3238002688) (.float .f32 0)).run Try.prog W = .ok (.float .f32 2147483648) W := fun _ => by kernel_rfl
  have ha0 : ∀ W, (binOp .add 156 (.float .f32 0) (.float .f32 2147483648)).run Try.prog W = .ok (.float .f32 0) W := fun _ => by kernel_rfl
  have hm1 : ∀ W, (binOp .mul 156 (.float .f32 1116733440) (.float .f32 1124073472)).run Try.prog W = .ok (.float .f32 1175453696) W := fun _ => by kernel_rfl
  have ha1 : ∀ W, (binOp .add 156 (.float .f32 0) (.float .f32 1175453696)).run Try.prog W = .ok (.float .f32 1175453696) W := fun _ => by kernel_rfl
  have hm2 : ∀ W, (binOp .mul 156 (.float .f32 1116733440) (.float .f32 1124073472)).run Try.prog W = .ok (.float .f32 1175453696) W := fun _ => by kernel_rfl
  have ha2 : ∀ W, (binOp .add 156 (.float .f32 1175453696) (.float .f32 1175453696)).run Try.prog W = .ok (.float .f32 1183842304) W := fun _ => by kernel_rfl
  have hm3 : ∀ W, (binOp .mul 156 (.float .f32 3238002688) (.float .f32 0)).run Try.prog W = .ok (.float .f32 2147483648) W := fun _ => by kernel_rfl
  have ha3 : ∀ W, (binOp .add 156 (.float .f32 1183842304) (.float .f32 2147483648)).run Try.prog W = .ok (.float .f32 1183842304) W := fun _ => by kernel_rfl
  have hi0 : ∀ W, (Instr.index 168 (.agg #[.float .f32 3238002688, .float .f32 1116733440, .float .f32 1116733440, .float .f32 3238002688]) (.int .i64 0)).run Try.prog W = .ok (.float .f32 3238002688) W := fun _ => by kernel_rfl
  have hi1 : ∀ W, (Instr.index 168 (.agg #[.float .f32 3238002688, .float .f32 1116733440, .float .f32 1116733440, .float .f32 3238002688]) (.int .i64 1)).run Try.prog W = .ok (.float .f32 1116733440) W := fun _ => by kernel_rfl
  have hi2 : ∀ W, (Instr.index 168 (.agg #[.float .f32 3238002688, .float .f32 1116733440, .float .f32 1116733440, .float .f32 3238002688]) (.int .i64 2)).run Try.prog W = .ok (.float .f32 1116733440) W := fun _ => by kernel_rfl
  have hi3 : ∀ W, (Instr.index 168 (.agg #[.float .f32 3238002688, .float .f32 1116733440, .float .f32 1116733440, .float .f32 3238002688]) (.int .i64 3)).run Try.prog W = .ok (.float .f32 3238002688) W := fun _ => by kernel_rfl
  go_enter Try.func149, Try.ntmps149
  go_wp2
  go_loop [5, 9] (fun s i => ∃ k : Nat, k ≤ 4 ∧ i = .int .i64 k ∧ s = sums1.getD k undef) (fun _ i => 4 - (intOf i).toNat)
  case atStart => exact ⟨0, by omega, rfl, rfl⟩
  case round =>
    obtain ⟨k, hk, rfl, rfl⟩ := hrel
    rcases (by omega : k = 0 ∨ k = 1 ∨ k = 2 ∨ k = 3 ∨ k = 4) with rfl | rfl | rfl | rfl | rfl
    · simp only [sums1, List.getD_cons_zero, List.getD_cons_succ]
      go_wp2
      go_round
      case rel => exact ⟨1, by omega, rfl, rfl⟩
      case measure => decide
    · simp only [sums1, List.getD_cons_zero, List.getD_cons_succ]
      go_wp2
      go_round
      case rel => exact ⟨2, by omega, rfl, rfl⟩
      case measure => decide
    · simp only [sums1, List.getD_cons_zero, List.getD_cons_succ]
      go_wp2
      go_round
      case rel => exact ⟨3, by omega, rfl, rfl⟩
      case measure => decide
    · simp only [sums1, List.getD_cons_zero, List.getD_cons_succ]
      go_wp2
      go_round
      case rel => exact ⟨4, by omega, rfl, rfl⟩
      case measure => decide
    · simp only [sums1, List.getD_cons_zero, List.getD_cons_succ]
      go_wp2
      go_ret
      exact ⟨rfl, by go_grown⟩
def wgt2 : Array Value := #[.float .f32 3231711232, .float .f32 1108082688, .float .f32 1121058816, .float .f32 3235905536]
def sums2 : List Value := [.float .f32 0, .float .f32 0, .float .f32 1166802944, .float .f32 1183580160, .float .f32 1183580160]
set_option maxRecDepth 100000 in
set_option maxHeartbeats 2000000 in
theorem weighted2_any (w : World) : Calls Try.prog 149 #[.agg #[.float .f32 3231711232, .float .f32 1108082688, .float .f32 1121058816, .float .f32 3235905536], .agg #[.float .f32 0, .float .f32 1124073472, .float .f32 1124073472, .float .f32 0]] w fun e w' => e = .returned (.float .f32 1183580160) ∧ Below w.heap.size w w' := by
  have hm0 : ∀ W, (binOp .mul 156 (.float .f32 3231711232) (.float .f32 0)).run Try.prog W = .ok (.float .f32 2147483648) W := fun _ => by kernel_rfl
  have ha0 : ∀ W, (binOp .add 156 (.float .f32 0) (.float .f32 2147483648)).run Try.prog W = .ok (.float .f32 0) W := fun _ => by kernel_rfl
  have hm1 : ∀ W, (binOp .mul 156 (.float .f32 1108082688) (.float .f32 1124073472)).run Try.prog W = .ok (.float .f32 1166802944) W := fun _ => by kernel_rfl
  have ha1 : ∀ W, (binOp .add 156 (.float .f32 0) (.float .f32 1166802944)).run Try.prog W = .ok (.float .f32 1166802944) W := fun _ => by kernel_rfl
  have hm2 : ∀ W, (binOp .mul 156 (.float .f32 1121058816) (.float .f32 1124073472)).run Try.prog W = .ok (.float .f32 1179779072) W := fun _ => by kernel_rfl
  have ha2 : ∀ W, (binOp .add 156 (.float .f32 1166802944) (.float .f32 1179779072)).run Try.prog W = .ok (.float .f32 1183580160) W := fun _ => by kernel_rfl
  have hm3 : ∀ W, (binOp .mul 156 (.float .f32 3235905536) (.float .f32 0)).run Try.prog W = .ok (.float .f32 2147483648) W := fun _ => by kernel_rfl
  have ha3 : ∀ W, (binOp .add 156 (.float .f32 1183580160) (.float .f32 2147483648)).run Try.prog W = .ok (.float .f32 1183580160) W := fun _ => by kernel_rfl
  have hi0 : ∀ W, (Instr.index 168 (.agg #[.float .f32 3231711232, .float .f32 1108082688, .float .f32 1121058816, .float .f32 3235905536]) (.int .i64 0)).run Try.prog W = .ok (.float .f32 3231711232) W := fun _ => by kernel_rfl
  have hi1 : ∀ W, (Instr.index 168 (.agg #[.float .f32 3231711232, .float .f32 1108082688, .float .f32 1121058816, .float .f32 3235905536]) (.int .i64 1)).run Try.prog W = .ok (.float .f32 1108082688) W := fun _ => by kernel_rfl
  have hi2 : ∀ W, (Instr.index 168 (.agg #[.float .f32 3231711232, .float .f32 1108082688, .float .f32 1121058816, .float .f32 3235905536]) (.int .i64 2)).run Try.prog W = .ok (.float .f32 1121058816) W := fun _ => by kernel_rfl
  have hi3 : ∀ W, (Instr.index 168 (.agg #[.float .f32 3231711232, .float .f32 1108082688, .float .f32 1121058816, .float .f32 3235905536]) (.int .i64 3)).run Try.prog W = .ok (.float .f32 3235905536) W := fun _ => by kernel_rfl
  go_enter Try.func149, Try.ntmps149
  go_wp2
  go_loop [5, 9] (fun s i => ∃ k : Nat, k ≤ 4 ∧ i = .int .i64 k ∧ s = sums2.getD k undef) (fun _ i => 4 - (intOf i).toNat)
  case atStart => exact ⟨0, by omega, rfl, rfl⟩
  case round =>
    obtain ⟨k, hk, rfl, rfl⟩ := hrel
    rcases (by omega : k = 0 ∨ k = 1 ∨ k = 2 ∨ k = 3 ∨ k = 4) with rfl | rfl | rfl | rfl | rfl
    · simp only [sums2, List.getD_cons_zero, List.getD_cons_succ]
      go_wp2
      go_round
      case rel => exact ⟨1, by omega, rfl, rfl⟩
      case measure => decide
    · simp only [sums2, List.getD_cons_zero, List.getD_cons_succ]
      go_wp2
      go_round
      case rel => exact ⟨2, by omega, rfl, rfl⟩
      case measure => decide
    · simp only [sums2, List.getD_cons_zero, List.getD_cons_succ]
      go_wp2
      go_round
      case rel => exact ⟨3, by omega, rfl, rfl⟩
      case measure => decide
    · simp only [sums2, List.getD_cons_zero, List.getD_cons_succ]
      go_wp2
      go_round
      case rel => exact ⟨4, by omega, rfl, rfl⟩
      case measure => decide
    · simp only [sums2, List.getD_cons_zero, List.getD_cons_succ]
      go_wp2
      go_ret
      exact ⟨rfl, by go_grown⟩

end Go.Proofs.Ytccoflhoggpgoaa

namespace Go.Proofs.Ytccoflhoggpgoaa
open Go.RowKit

open Go.Shelf
attribute [local go_sem] Oper.semAt_some

/-- The law for a loop whose one variable is no box: what the frame is, by the slots. -/
theorem wpIn_rangeFunc_one {F : Fence} {n : Nat} {P : Program} {α : Type} {g : Operand} {p : Tmp} {assign body : Code} {Q : Exit → Act → World → Prop} {a : Act} {w : World}
    (hro : F.round = none) (h1 : 1 ≤ n) {gf : Nat} {lb : Array Value} (hg : a.eval g = .func (.func gf) #[] lb) (hFg : F.fn gf) (eg : ∀ args w, (callFunc gf args).run P w = .ok (.enter gf args) w)
    (enc : α → Value) {Kp : World → World → Prop} {S Sp : List α → Prop} {N : Nat} {w0 : World} (hseq : SeqStopsK F (n - 1) P gf lb (fun x => #[enc x]) Kp S Sp N w0)
    (hKt : ∀ {A B C : World}, Kp A B → Kp B C → Kp A C) (hKb : ∀ (W : World) (l : Nat) (o o' : Obj), w.heap.size ≤ l → W.heap[l]? = some o → o.isCells = false → o.isWalk = false → Kp W (W.putObj l o')) (hb0 : Below w0.heap.size w0 w)
    (q : Tmp)
    (I : List α → World → Prop) (Ix : Code → List α → World → Prop) (hI : OwnFrom w.heap.size I) (hIx : ∀ c, OwnFrom w.heap.size (Ix c)) (h0 : I [] w)
    (hassign : ∀ (l : Nat) (x : α) (W : World) (K : Act → World → Prop), K { tmps := (a.tmps.setIfInBounds p (enc x)).setIfInBounds q (enc x), defers := [] } W →
      assign.wpIn (F.inRound l) (n - 1 - 1) P (Exit.then K (fun _ _ _ => False)) { tmps := a.tmps.setIfInBounds p (enc x), defers := [] } W)
    (hbody : ∀ (l : Nat) (pre : List α) (x : α) (W : World), I pre W → pre.length < N → body.wpIn (F.inRound l) (n - 1 - 1) P (ownPostG w.heap.size Kp I Ix (pre ++ [x]) W) { tmps := (a.tmps.setIfInBounds p (enc x)).setIfInBounds q (enc x), defers := [] } W)
    (hdone : ∀ (D : Nat) (xs : List α) (W : World), w.heap.size ≤ D → S xs → I xs W → W.heap[D]? = some (.deferred (some [])) → Q .normal { a with defers := { target := .collected D, args := #[] } :: a.defers } W)
    (hstop : ∀ (D : Nat) (c : Code) (pre : List α) (W : World), w.heap.size ≤ D → Sp pre → Ix c pre W → W.heap[D]? = some (.deferred (some [])) → c.wpIn F n P Q { a with defers := { target := .collected D, args := #[] } :: a.defers } W) :
    (Code.rangeFunc g #[p] assign body).wpIn F n P Q a w :=
  wpIn_rangeFunc_ownG hro h1 hg hFg eg hseq hKt hKb hb0 (fun _ => rfl) I Ix hI hIx h0 (fun x => { tmps := (a.tmps.setIfInBounds p (enc x)).setIfInBounds q (enc x), defers := [] })
    (fun l x W K hK => by simpa using hassign l x W K hK) hbody hdone hstop

theorem grown_of_below {W W' : World} (h : Below W.heap.size W W') : W.grownBy W' none := ⟨h.os, h.tape, h.output, h.size, fun k hk _ => h.block k hk⟩

theorem bk_grown {X Y : World} {row : Option Nat} {B : Nat} {T : TypeId} {cs : Array Value} (h : Bk X B T cs) (hg : X.grownBy Y row) (hr : ∀ r, row = some r → ∃ o : Obj, X.heap[r]? = some o ∧ o.isCells = false) : Bk Y B T cs := by
  refine (hg.block B h.lt (fun e => ?_)).trans h
  obtain ⟨o, ho, hc⟩ := hr B e.symm
  rw [h.heap] at ho; cases ho; cases hc

theorem range_takeT {N k : Nat} (h : k < N) : (List.range N).take (k + 1) = (List.range N).take k ++ [k] := by
  rw [List.take_range, List.take_range, Nat.min_eq_left (by omega), Nat.min_eq_left (by omega), List.range_succ]

theorem run_store_float (P : Program) (w : World) (a : Addr) (m : Mode) (k : FloatKind) (b : Nat) : (store a (.float k b) m).run P w = stored P w a (.float k b) m := run_store P w a _ m rfl

end Go.Proofs.Ytccoflhoggpgoaa

namespace Go.Proofs.Ytccoflhoggpgoaa
open Go.RowKit

open Go.Shelf

variable {F : Fence} {n : Nat} {P : Program}

/-- What an iterator with blocks of its own (T) may do: new blocks, stores into T, draws. -/
structure Out (T : Nat → Prop) (A B : World) : Prop where
  os : B.os = A.os
  tape : B.tape = A.tape
  output : B.output = A.output
  size : A.heap.size ≤ B.heap.size
  block : ∀ k, k < A.heap.size → ¬ T k → B.heap[k]? = A.heap[k]?
theorem Out.refl (T : Nat → Prop) (A : World) : Out T A A := ⟨rfl, rfl, rfl, Nat.le_refl _, fun _ _ _ => rfl⟩
theorem Out.trans {T : Nat → Prop} {A B C : World} (h : Out T A B) (k : Out T B C) : Out T A C :=
  ⟨k.os.trans h.os, k.tape.trans h.tape, k.output.trans h.output, Nat.le_trans h.size k.size, fun i h1 h2 => (k.block i (Nat.lt_of_lt_of_le h1 h.size) h2).trans (h.block i h1 h2)⟩
theorem Out.of_below {T : Nat → Prop} {A B : World} (h : Below A.heap.size A B) : Out T A B := ⟨h.os, h.tape, h.output, h.size, fun k hk _ => h.block k hk⟩

/-- An iterator that stores into blocks of its own between two rounds, and hands on memory (M). Of bodies that never leave. -/
def SeqRunsM {α : Type} (F : Fence) (n : Nat) (P : Program) (g : Nat) (lb : Array Value) (encs : α → Array Value) (M : (Nat → Prop) → α → World → Prop) (S : List α → Prop) (N : Nat) (T0 : Nat → Prop) (w : World) : Prop :=
  ∀ (l : Nat) (J : (Nat → Prop) → List α → World → Prop) (W : World), Below w.heap.size w W →
    (∀ T s A, J T s A → ∀ r, T r → r < A.heap.size) →
    (∀ T s A o, J T s A → J (fun r => T r ∨ r = A.heap.size) s (A.alloc o)) →
    (∀ T s A B, J T s A → Out T A B → J T s B) →
    (∀ T pre x A, J T pre A → M T x A → pre.length < N → YieldAt F (n - 1) P l (encs x) A fun e A' => e = .returned (.bool true) ∧ J T (pre ++ [x]) A' ∧ (∀ r, T r → A'.heap[r]? = A.heap[r]?)) →
    J T0 [] W → CallsIn F n P g (#[.func (.yield l) #[] #[]] ++ lb) W fun e W' => (∃ v, e = .returned v) ∧ ∃ T xs, S xs ∧ J T xs W'

/-- How a round goes on. -/
def runPostM {α : Type} (T : Nat → Prop) (I : (Nat → Prop) → List α → World → Prop) (xs : List α) (W : World) : Exit → Act → World → Prop
  | .normal, _, W' => KeepsOthers W W' ∧ (∀ r, T r → W'.heap[r]? = W.heap[r]?) ∧ I T xs W'
  | _, _, _ => False

theorem wpIn_rangeFunc_runsM {α : Type} {g : Operand} {ps : Array Tmp} {assign body : Code} {Q : Exit → Act → World → Prop} {a : Act} {w : World}
    (hro : F.round = none) (h1 : 1 ≤ n) {gf : Nat} {lb : Array Value} (hg : a.eval g = .func (.func gf) #[] lb) (hFg : F.fn gf) (eg : ∀ args w, (callFunc gf args).run P w = .ok (.enter gf args) w)
    {encs : α → Array Value} {M : (Nat → Prop) → α → World → Prop} {S : List α → Prop} {N : Nat} {T0 : Nat → Prop} {w0 : World} (hseq : SeqRunsM F (n - 1) P gf lb encs M S N T0 w0) (hb0 : Below w0.heap.size w0 w) (hps : ∀ x, (encs x).size = ps.size)
    (hM : ∀ T x A l o o', M T x A → A.heap[l]? = some o → o.isCells = false → M T x (A.putObj l o'))
    (I : (Nat → Prop) → List α → World → Prop) (hsz : ∀ T s A, I T s A → ∀ r, T r → r < A.heap.size) (hnew : ∀ T s A o, I T s A → I (fun r => T r ∨ r = A.heap.size) s (A.alloc o))
    (hout : ∀ T s A B, I T s A → Out T A B → I T s B)
    (hobj : ∀ T s A l o o', I T s A → w.heap.size ≤ l → A.heap[l]? = some o → o.isCells = false → I T s (A.putObj l o'))
    (h0 : I T0 [] w) (a₁ : α → Act)
    (hassign : ∀ (l : Nat) (x : α) (W : World) (K : Act → World → Prop), K (a₁ x) W →
      assign.wpIn (F.inRound l) (n - 1 - 1) P (Exit.then K (fun _ _ _ => False)) { tmps := (ps.zip (encs x)).foldl (fun t (p, v) => t.setIfInBounds p v) a.tmps, defers := [] } W)
    (hbody : ∀ (l : Nat) (T : Nat → Prop) (pre : List α) (x : α) (W : World), I T pre W → M T x W → pre.length < N → body.wpIn (F.inRound l) (n - 1 - 1) P (runPostM T I (pre ++ [x]) W) (a₁ x) W)
    (hdone : ∀ (D : Nat) (T : Nat → Prop) (xs : List α) (W : World), w.heap.size ≤ D → S xs → I T xs W → W.heap[D]? = some (.deferred (some [])) → Q .normal { a with defers := { target := .collected D, args := #[] } :: a.defers } W) :
    (Code.rangeFunc g ps assign body).wpIn F n P Q a w := by
  refine wpIn_rangeFunc ?_
  intro fn hfn
  rw [hro]
  have hal : ∀ T s A o, I T s A → I T s (A.alloc o) := fun T s A o h => hout T s A _ h (Out.of_below ((Below.refl _ _).alloc (Nat.le_refl _) _))
  have hlD : ((w.alloc (.deferred (some []))).alloc (.loop { state := .ready, pending := none, fn, tmps := a.tmps, params := ps, assign, body, defers := w.heap.size })).heap[w.heap.size + 1]? = some (.loop { state := .ready, pending := none, fn, tmps := a.tmps, params := ps, assign, body, defers := w.heap.size }) := by
    have := World.alloc_heap_new (w.alloc (.deferred (some []))) (.loop { state := .ready, pending := none, fn, tmps := a.tmps, params := ps, assign, body, defers := w.heap.size })
    rwa [World.size_alloc] at this
  have hdD : ((w.alloc (.deferred (some []))).alloc (.loop { state := .ready, pending := none, fn, tmps := a.tmps, params := ps, assign, body, defers := w.heap.size })).heap[w.heap.size]? = some (.deferred (some [])) :=
    (Below.heap_alloc _ _ _ (by simp)).trans (World.alloc_heap_new w _)
  have hb1 : Below w0.heap.size w0 ((w.alloc (.deferred (some []))).alloc (.loop { state := .ready, pending := none, fn, tmps := a.tmps, params := ps, assign, body, defers := w.heap.size })) := hb0.trans ((((Below.refl _ w).alloc (Nat.le_refl _) _).alloc (by simp) _).mono hb0.size)
  have hI1 := hal _ _ _ (.loop { state := .ready, pending := none, fn, tmps := a.tmps, params := ps, assign, body, defers := w.heap.size }) (hal _ _ _ (.deferred (some [])) h0)
  have hent := run_enterLoop_outer (P := P) (w := w) fn a.tmps ps assign body
  obtain ⟨W1, hW1⟩ : ∃ W1, (w.alloc (.deferred (some []))).alloc (.loop { state := .ready, pending := none, fn, tmps := a.tmps, params := ps, assign, body, defers := w.heap.size }) = W1 := ⟨_, rfl⟩
  rw [hW1] at hlD hdD hb1 hI1 hent
  refine ⟨w.heap.size + 1, _, W1, { target := .fn (.func gf) lb, args := #[.func (.yield (w.heap.size + 1)) #[] #[]] }, W1, gf, #[.func (.yield (w.heap.size + 1)) #[] #[]] ++ lb, W1, hent, ?_, ?_, ?_, fun _ => h1, ?_⟩
  · simp only [resolve, hg]
    simp [go_sem]
  · intro f' hf'
    simp [Target.leads] at hf'
    subst hf'
    exact hFg
  · simp [invoke, go_sem, eg]
  · refine (hseq (w.heap.size + 1)
      (fun T pre W => I T pre W ∧ W.heap[w.heap.size + 1]? = some (.loop { state := .ready, pending := none, fn, tmps := a.tmps, params := ps, assign, body, defers := w.heap.size }) ∧ W.heap[w.heap.size]? = some (.deferred (some [])) ∧ ∀ r, T r → r ≠ w.heap.size + 1 ∧ r ≠ w.heap.size)
      W1 hb1 ?_ ?_ ?_ ?_ ⟨hI1, hlD, hdD, fun r hr => by have := hsz _ _ _ h0 r hr; omega⟩).mono ?_
    · exact fun T s A h => hsz T s A h.1
    · rintro T s A o ⟨hi, hl, hk, hT⟩
      have hlt := (Array.getElem?_eq_some_iff.1 hl).1
      refine ⟨hnew _ _ _ _ hi, (Below.heap_alloc _ _ _ hlt).trans hl, (Below.heap_alloc _ _ _ (by omega)).trans hk, ?_⟩
      rintro r (hr | rfl)
      · exact hT r hr
      · omega
    · rintro T s A B ⟨hi, hl, hk, hT⟩ hO
      have hlt := (Array.getElem?_eq_some_iff.1 hl).1
      exact ⟨hout _ _ _ _ hi hO, (hO.block _ hlt (fun h => (hT _ h).1 rfl)).trans hl, (hO.block _ (by omega) (fun h => (hT _ h).2 rfl)).trans hk, hT⟩
    · rintro T pre x W ⟨hi, hl, hk, hT⟩ hMx hlen
      have hlt : w.heap.size + 1 < W.heap.size := (Array.getElem?_eq_some_iff.1 hl).1
      refine ⟨fn, _, assign, body, run_yield hl (hps x), roundIn_of_wpIn hfn (hassign _ x W _ ⟨_, run_beginRound hl rfl, ?_⟩)⟩
      refine wpIn_mono (hbody _ T pre x _ (hobj _ _ _ _ _ _ hi (by omega) hl rfl) (hM _ _ _ _ _ _ hMx hl rfl) hlen) ?_
      rintro e a3 W3 hp
      cases e with
      | normal =>
        obtain ⟨hk3, hT3, hi3⟩ := hp
        have hl3 := hk3.same _ _ (World.putObj_heap_same hlt) rfl
        have hd3 := hk3.same _ _ ((World.putObj_heap_other (by omega)).trans hk) rfl
        refine ⟨_, _, run_endRound none hl3, rfl, ⟨hobj _ _ _ _ _ _ hi3 (by omega) hl3 rfl, World.putObj_heap_same (Array.getElem?_eq_some_iff.1 hl3).1, (World.putObj_heap_other (by omega)).trans hd3, hT⟩, ?_⟩
        intro r hr
        have := (hT r hr).1
        exact (World.putObj_heap_other (by omega)).trans ((hT3 r hr).trans (World.putObj_heap_other (by omega)))
      | _ => exact hp.elim
    · rintro e W2 ⟨⟨v, rfl⟩, T, xs, hS, hi, hl, hk, _⟩
      exact ⟨none, _, run_endLoop hl (by simp), hdone _ T xs _ (Nat.le_refl _) hS (hobj _ _ _ _ _ _ hi (by omega) hl rfl) ((World.putObj_heap_other (by omega)).trans hk)⟩

end Go.Proofs.Ytccoflhoggpgoaa


namespace Go.Proofs.Ytccoflhoggpgoaa
open Go.RowKit

/-! ### orders -/
/-- All orders that begin with some items, lexicographically: the reference's. -/
def ordX (n : Nat) : Nat → List Int → List (List Int)
  | 0, b => [b]
  | f + 1, b => (List.range n).flatMap fun (i : Nat) => if b.contains (Int.ofNat i) then [] else ordX n f (b ++ [Int.ofNat i])
def ords (n : Nat) : List (List Int) := ordX n n []
def swp (o : List Int) (i j : Nat) : List Int := (o.set i (o.getD j 0)).set j (o.getD i 0)
/-- A part from s on of m numbers, reversed by k exchanges. -/
def rvK (l : List Int) (s m : Nat) : Nat → List Int
  | 0 => l
  | k + 1 => swp (rvK l s m k) (s + k) (s + (m - 1 - k))
def ascI (o : List Int) : Nat → Option Nat
  | 0 => none
  | k + 1 => if o.getD k 0 > o.getD (k + 1) 0 then ascI o k else some k
def grI (o : List Int) (i : Nat) : Nat → Nat
  | 0 => 0
  | k + 1 => if o.getD (k + 1) 0 < o.getD i 0 then grI o i k else k + 1
/-- The next order. -/
def adv (o : List Int) : Option (List Int) :=
  match ascI o (o.length - 1) with
  | none => none
  | some i => some (rvK (swp o i (grI o i (o.length - 1))) (i + 1) (o.length - 1 - i) ((o.length - 1 - i) / 2))
def chainB : List (List Int) → Bool
  | [] => true
  | [a] => adv a == none
  | a :: b :: l => (adv a == some b) && chainB (b :: l)
theorem ords_chain : ∀ n, n < 7 → chainB (ords n) = true := by decide +kernel
theorem ords_head : ∀ n, n < 7 → (ords n).head? = some ((List.range n).map fun (i : Nat) => (i : Int)) := by decide +kernel
theorem ords_len : ∀ n, n < 7 → (ords n).length ≤ 720 ∧ 0 < (ords n).length ∧ (ords n).all (fun l => l.length == n && l.all (fun x => decide (0 ≤ x) && decide (x < n))) = true := by decide +kernel
theorem swp_length (o : List Int) (i j : Nat) : (swp o i j).length = o.length := by simp [swp]
theorem rvK_length (l : List Int) (s m k : Nat) : (rvK l s m k).length = l.length := by
  induction k with
  | zero => rfl
  | succ k ih => show (swp _ _ _).length = _; rw [swp_length, ih]
theorem chain_at : ∀ (L : List (List Int)) (k : Nat), chainB L = true → k < L.length → adv (L.getD k []) = (if k + 1 < L.length then some (L.getD (k + 1) []) else none)
  | [], k, _, h => absurd h (by simp)
  | [a], 0, h, _ => by simpa [chainB] using h
  | [a], k + 1, _, h => absurd h (by simp)
  | a :: b :: l, 0, h, _ => by
    have h1 : adv a = some b := by
      have := h
      simp [chainB] at this
      exact this.1
    simp [h1]
  | a :: b :: l, k + 1, h, hk => by
    have h1 : chainB (b :: l) = true := by
      have := h
      simp [chainB] at this
      exact this.2
    have := chain_at (b :: l) k h1 (by simpa using hk)
    simpa using this
theorem ords_next {n k : Nat} (hn : n < 7) (hk : k < (ords n).length) : adv ((ords n).getD k []) = (if k + 1 < (ords n).length then some ((ords n).getD (k + 1) []) else none) := chain_at _ _ (ords_chain n hn) hk
theorem ords_mem {n k : Nat} (hn : n < 7) (hk : k < (ords n).length) : ((ords n).getD k []).length = n ∧ ∀ x ∈ (ords n).getD k [], 0 ≤ x ∧ x < n := by
  have h := List.all_eq_true.1 (ords_len n hn).2.2 ((ords n).getD k []) (by rw [List.getD_eq_getElem?_getD, List.getElem?_eq_getElem hk, Option.getD_some]; exact List.getElem_mem _)
  simp at h
  refine ⟨by simpa using h.1, fun x hx => ?_⟩
  have := h.2 x (by simpa using hx)
  exact this

end Go.Proofs.Ytccoflhoggpgoaa

namespace Go.Proofs.Ytccoflhoggpgoaa
open Go.RowKit

open Go.Shelf

theorem swp_set (l : List Int) (i j : Nat) : swp l i j = (l.set i (l.getD j 0)).set j (l.getD i 0) := rfl
theorem Out.setCell (O : Nat) {A W : World} (h : Out (fun r => r = O) A W) (i : Nat) (v : Value) : Out (fun r => r = O) A (W.setCell ⟨O, i, none⟩ v) :=
  ⟨h.os, h.tape, h.output, by simpa using h.size, fun k h1 h2 => (heap_setCell_other W ⟨O, i, none⟩ k v (by simpa using h2)).trans (h.block k h1 h2)⟩
theorem Out.drew {T : Nat → Prop} {A W : World} (h : Out T A W) : Out T A W.drew := ⟨h.os, h.tape, h.output, h.size, h.block⟩
theorem Out.drewN {T : Nat → Prop} {A W : World} (h : Out T A W) (n : Nat) : Out T A (W.drewN n) := ⟨h.os, h.tape, h.output, h.size, h.block⟩
set_option maxRecDepth 100000 in
set_option maxHeartbeats 4000000 in
theorem reverse_any (O s m c : Nat) (l : List Int) (w : World) (hk : Bk w O 3 (iArr l)) (hs : s + m ≤ l.length) (hl : l.length ≤ 1000) :
    Calls Try.prog 151 #[.slice (some ⟨O, s, none⟩) m c] w fun e w' => e = .returned (.tuple #[]) ∧ Bk w' O 3 (iArr (rvK l s m (m / 2))) ∧ Out (fun r => r = O) w w' := by
  have HK := Lib.hid hk
  have HO := Lib.hid (Out.refl (fun r => r = O) w)
  have HL : Hid (∀ k, (rvK l s m k).length = l.length) := fun k => rvK_length l s m k
  clear hk
  have w0 : IntKind.i64.wrap ((m : Int) - 1) = (m : Int) - 1 := IntWalk.i64_in _ (by omega)
  go_enter Try.func151, Try.ntmps151
  go_wp2
  go_loopw [2, 3] (fun i j wr => ∃ (k : Nat) (κ : Int), k ≤ m / 2 ∧ i = .int .i64 k ∧ j = .int .i64 κ ∧ Hid (κ = (m : Int) - 1 - k) ∧ Hid (Bk wr O 3 (iArr (rvK l s m k))) ∧ Hid (Out (fun r => r = O) w wr)) (fun i _ _ => m - (intOf i).toNat)
  case atStart => exact ⟨0, (m : Int) - 1, by omega, rfl, rfl, by show _ = _; omega, HK, HO⟩
  case round =>
    obtain ⟨k, κ, hk, rfl, rfl, HKA, HB, HW⟩ := hrel
    have hκ := HKA.out
    by_cases hlt : k < m / 2
    · have hkI : (k : Int) < κ := by omega
      obtain ⟨j, hj⟩ : ∃ j : Nat, m - 1 - k = j := ⟨_, rfl⟩
      have hjκ : κ = (j : Int) := by omega
      subst hjκ
      have hjm : j < m := by omega
      have hkm : k < m := by omega
      have hkj : k < j := by omega
      have hll := HL.out k
      have HST : Hid (rvK l s m (k + 1) = swp (rvK l s m k) (s + k) (s + j)) := by show _ = _; rw [← hj]; rfl
      obtain ⟨L, hL⟩ : ∃ L, rvK l s m k = L := ⟨_, rfl⟩
      rw [hL] at hll HB HST
      have c1 : wr.cell? ⟨O, s + k, none⟩ = some (.int .i64 (L.getD (s + k) 0)) := by rw [HB.out.cell, iArr_at _ _ (by omega)]
      have c2 : wr.cell? ⟨O, s + j, none⟩ = some (.int .i64 (L.getD (s + j) 0)) := by rw [HB.out.cell, iArr_at _ _ (by omega)]
      have f1 : wr.frozen? ⟨O, s + k, none⟩ = false := HB.out.frozen (s + k)
      have f2 : wr.frozen? ⟨O, s + j, none⟩ = false := HB.out.frozen (s + j)
      have hne : s + k ≠ s + j := by omega
      have hjI : (j : Int) < (m : Int) := by omega
      have hkI2 : (k : Int) < (m : Int) := by omega
      have hk0 : (0 : Int) ≤ (k : Int) := by omega
      have hj0 : (0 : Int) ≤ (j : Int) := by omega
      have hw1 : IntKind.i64.wrap ((j : Int) - 1) = (j : Int) - 1 := IntWalk.i64_in _ (by omega)
      have HNB : Hid (Bk ((wr.setCell ⟨O, s + k, none⟩ (.int .i64 (L.getD (s + j) 0))).setCell ⟨O, s + j, none⟩ (.int .i64 (L.getD (s + k) 0))) O 3 (iArr (rvK l s m (k + 1)))) := by
        show Bk _ _ _ _
        rw [HST.out, swp_set, ← iArr_set, ← iArr_set]
        exact (HB.out.set_ (s + k) _).set_ (s + j) _
      have HNW := Lib.hid ((HW.out.setCell O (s + k) (.int .i64 (L.getD (s + j) 0))).setCell O (s + j) (.int .i64 (L.getD (s + k) 0)))
      obtain ⟨x, hx⟩ : ∃ x, L.getD (s + k) 0 = x := ⟨_, rfl⟩
      obtain ⟨y, hy⟩ : ∃ y, L.getD (s + j) 0 = y := ⟨_, rfl⟩
      rw [hx] at c1 HNB HNW
      rw [hy] at c2 HNB HNW
      clear hx hy hL hκ
      go_wp2
      go_region
      go_wp2
      go_roundw
      case rel => exact ⟨k + 1, (j : Int) - 1, by omega, by go_num, by first | rfl | go_num, by show _ = _; have := HKA.out; omega, HNB.out.drew, HNW.out.drew⟩
      case measure => simp only [intOf]; omega
    · have hκ2 : ¬ (k : Int) < κ := by omega
      obtain rfl : m / 2 = k := by omega
      clear hκ
      go_wp2
      exact bodyPost_end (v := .tuple #[]) (by simp [results, Try.results151, go_sem]) rfl ⟨rfl, HB.out, HW.out⟩

end Go.Proofs.Ytccoflhoggpgoaa

namespace Go.Proofs.Ytccoflhoggpgoaa
open Go.RowKit

open Go.Shelf

theorem ascI_lt {l : List Int} : ∀ {c i : Nat}, ascI l c = some i → i < c ∧ l.getD i 0 ≤ l.getD (i + 1) 0
  | 0, i, h => by simp [ascI] at h
  | c + 1, i, h => by
    unfold ascI at h
    by_cases h1 : l.getD c 0 > l.getD (c + 1) 0
    · rw [if_pos h1] at h
      have := ascI_lt h
      exact ⟨by omega, this.2⟩
    · rw [if_neg h1] at h
      injection h with h
      subst h
      exact ⟨by omega, by omega⟩
theorem adv_some {l : List Int} {n i : Nat} (hn : l.length = n) (h : ascI l (n - 1) = some i) : adv l = some (rvK (swp l i (grI l i (n - 1))) (i + 1) (n - 1 - i) ((n - 1 - i) / 2)) := by
  unfold adv; rw [hn, h]
theorem adv_none {l : List Int} {n : Nat} (hn : l.length = n) (h : ascI l (n - 1) = none) : adv l = none := by
  unfold adv; rw [hn, h]

set_option maxRecDepth 100000 in
set_option maxHeartbeats 4000000 in
theorem advance_any (O n c : Nat) (l : List Int) (w : World) (hk : Bk w O 3 (iArr l)) (hl : l.length = n) (hn : n ≤ 1000) (hc : n ≤ c) :
    Calls Try.prog 143 #[.slice (some ⟨O, 0, none⟩) n c] w fun e w' => e = .returned (.bool (adv l).isSome) ∧ Bk w' O 3 (iArr ((adv l).getD l)) ∧ Out (fun r => r = O) w w' := by
  have HK := Lib.hid hk
  have HL := Lib.hid hl
  clear hk
  have w0 : IntKind.i64.wrap ((n : Int) - 2) = (n : Int) - 2 := IntWalk.i64_in _ (by omega)
  have w01 : IntKind.i64.wrap ((n : Int) - 1) = (n : Int) - 1 := IntWalk.i64_in _ (by omega)
  obtain ⟨BV, hBV⟩ : ∃ b, (adv l).isSome = b := ⟨_, rfl⟩
  obtain ⟨LV, hLV⟩ : ∃ b, (adv l).getD l = b := ⟨_, rfl⟩
  rw [hBV, hLV]
  have HBV := Lib.hid hBV
  have HLV := Lib.hid hLV
  clear hBV hLV
  go_enter Try.func143, Try.ntmps143
  go_wp2
  go_loopw [3] (fun i wr => ∃ (cnt : Nat) (κ : Int), i = .int .i64 κ ∧ -2 ≤ κ ∧ κ ≤ 1000 ∧ Hid (κ = (cnt : Int) - 1 ∨ (cnt = 0 ∧ κ < 0)) ∧ cnt ≤ n - 1 ∧ Hid (ascI l (n - 1) = ascI l cnt) ∧ Hid (∃ j, wr = w.drewN j)) (fun i _ => (intOf i + 2).toNat)
  case atStart => exact ⟨n - 1, (n : Int) - 2, rfl, by omega, by omega, by show _ ∨ _; omega, Nat.le_refl _, rfl, 0, rfl⟩
  case round =>
    obtain ⟨cnt, κ, rfl, hκ1, hκ2, HC, hcn, HA, HW⟩ := hrel
    obtain ⟨j, hj⟩ := HW.out
    have HB := Lib.hid (HK.out.drewN j)
    rw [← hj] at HB
    have HJ := Lib.hid hj
    have HOW : Hid (Out (fun r => r = O) w wr) := by show Out _ _ _; rw [hj]; exact (Out.refl _ _).drewN j
    clear hj HW
    by_cases hneg : κ < 0
    · have hnb : decide (0 ≤ κ) = false := decide_eq_false (by omega)
      have hc0 : cnt = 0 := by have := HC.out; omega
      have ha : ascI l (n - 1) = none := by rw [HA.out, hc0]; rfl
      have hadv := adv_none hl ha
      have HAD := Lib.hid hadv
      clear ha hadv
      go_wp2
      go_quiet (fail)
      go_wp2
      go_ret
      exact ⟨by rw [← HBV.out, HAD.out]; rfl, by rw [← HLV.out, HAD.out]; exact HB.out.drewN _, HOW.out.drewN _⟩
    · obtain ⟨p, rfl⟩ : ∃ p : Nat, κ = p := ⟨κ.toNat, by omega⟩
      have hcp : cnt = p + 1 := by have := HC.out; omega
      subst hcp
      have hnb : decide ((0 : Int) ≤ (p : Int)) = true := decide_eq_true (by omega)
      have hp0 : (0 : Int) ≤ (p : Int) := by omega
      have hpn : (p : Int) < (n : Int) := by omega
      obtain ⟨q, hq⟩ : ∃ q : Nat, p + 1 = q := ⟨_, rfl⟩
      have hqn : (q : Int) < (n : Int) := by omega
      have hq0 : (0 : Int) ≤ (q : Int) := by omega
      have hpN : p < n := by omega
      have hqN : q < n := by omega
      have wq : IntKind.i64.wrap ((p : Int) + 1) = (q : Int) := by rw [show (p : Int) + 1 = q by omega]; exact IntWalk.i64_in _ (by omega)
      have wp : IntKind.i64.wrap ((p : Int) - 1) = (p : Int) - 1 := IntWalk.i64_in _ (by omega)
      have c1 : wr.cell? ⟨O, p, none⟩ = some (.int .i64 (l.getD p 0)) := by rw [HB.out.cell, iArr_at _ _ (by omega)]
      have c2 : wr.cell? ⟨O, q, none⟩ = some (.int .i64 (l.getD q 0)) := by rw [HB.out.cell, iArr_at _ _ (by omega)]
      have HST : Hid (ascI l (p + 1) = if l.getD p 0 > l.getD q 0 then ascI l p else some p) := by show _ = _; rw [← hq]; rfl
      have HPQ := Lib.hid hq
      obtain ⟨x, hx⟩ : ∃ x, l.getD p 0 = x := ⟨_, rfl⟩
      obtain ⟨y, hy⟩ : ∃ y, l.getD q 0 = y := ⟨_, rfl⟩
      have HX := Lib.hid hx
      have HY := Lib.hid hy
      rw [hx] at c1 HST
      rw [hy] at c2 HST
      clear hx hy hq
      by_cases hgt : y < x
      · have hgb : decide (y < x) = true := decide_eq_true hgt
        have HGT := Lib.hid hgt
        go_wp2
        go_quiet (fail)
        go_wp2
        go_roundw
        case rel => exact ⟨p, (p : Int) - 1, by first | rfl | go_num, by omega, by omega, by show _ ∨ _; omega, by omega, by show _ = _; rw [HA.out, HST.out, if_pos HGT.out], by show ∃ _, _ = _; rw [HJ.out]; exact ⟨_, World.drewN_drewN _ _ _⟩⟩
        case measure => simp only [intOf]; omega
      · have hgb : decide (y < x) = false := decide_eq_false hgt
        have ha : ascI l (n - 1) = some p := by rw [HA.out, HST.out, if_neg hgt]
        have hadv := adv_some hl ha
        have HXY : Hid (x ≤ y) := by show _ ≤ _; omega
        have HAD := Lib.hid hadv
        clear hadv ha HA HST HC hgt
        have hneg2 : ¬ (p : Int) < 0 := by omega
        go_wp2
        go_quiet (fail)
        go_wp2
        have HBN := Lib.hid (HB.out.drewN nq)
        have HON := Lib.hid (HOW.out.drewN nq)
        have HJN : Hid (∃ j, wr.drewN nq = w.drewN j) := by rw [HJ.out]; exact ⟨_, World.drewN_drewN _ _ _⟩
        obtain ⟨W2, hW2⟩ : ∃ W2, wr.drewN nq = W2 := ⟨_, rfl⟩
        rw [hW2] at HBN HON HJN ⊢
        clear hW2 HB HOW HJ c1 c2
        go_loopw [4] (fun i W => ∃ g : Nat, i = .int .i64 g ∧ q ≤ g ∧ g ≤ n - 1 ∧ Hid (grI l p (n - 1) = grI l p g) ∧ Hid (∃ j, W = W2.drewN j)) (fun i _ => (intOf i).toNat)
        case atStart => exact ⟨n - 1, by first | go_num | (show Value.int _ _ = _; congr 1; omega), by omega, Nat.le_refl _, rfl, 0, rfl⟩
        case round =>
          obtain ⟨g, rfl, hg1, hg2, HG, HWG⟩ := hrel
          obtain ⟨j2, hj2⟩ := HWG.out
          have HB2 := Lib.hid (HBN.out.drewN j2)
          have HO2 := Lib.hid (HON.out.drewN j2)
          rw [← hj2] at HB2 HO2
          have HJ2 := Lib.hid hj2
          clear hj2 HWG
          have hgn : (g : Int) < (n : Int) := by omega
          have hgN : g < n := by omega
          have hg0 : (0 : Int) ≤ (g : Int) := by omega
          have wg : IntKind.i64.wrap ((g : Int) - 1) = (g : Int) - 1 := IntWalk.i64_in _ (by omega)
          have c1 : wr.cell? ⟨O, p, none⟩ = some (.int .i64 x) := by rw [HB2.out.cell, iArr_at _ _ (by have := HL.out; omega), HX.out]
          have c2 : wr.cell? ⟨O, g, none⟩ = some (.int .i64 (l.getD g 0)) := by rw [HB2.out.cell, iArr_at _ _ (by have := HL.out; omega)]
          have HGS : Hid (∀ g', g = g' + 1 → grI l p g = if l.getD g 0 < x then grI l p g' else g) := by
            rintro g' rfl
            show (if l.getD (g' + 1) 0 < l.getD p 0 then _ else _) = _
            rw [HX.out]
          have HGY : Hid (g = q → l.getD g 0 = y) := by rintro rfl; exact HY.out
          obtain ⟨z, hz⟩ : ∃ z, l.getD g 0 = z := ⟨_, rfl⟩
          have HZ := Lib.hid hz
          rw [hz] at c2 HGS HGY
          clear hz
          by_cases hlt : z < x
          · have hlb : decide (z < x) = true := decide_eq_true hlt
            have hgq : q < g := by
              rcases Nat.lt_or_ge q g with h | h
              · exact h
              · have := HGY.out (by omega); have := HXY.out; omega
            have HLT := Lib.hid hlt
            go_wp2
            go_quiet (fail)
            go_wp2
            go_roundw
            case rel => exact ⟨g - 1, by first | go_num | (show Value.int _ _ = _; congr 1; omega), by omega, by omega, by show _ = _; rw [HG.out, HGS.out (g - 1) (by omega), if_pos HLT.out], by show ∃ _, _ = _; rw [HJ2.out]; exact ⟨_, World.drewN_drewN _ _ _⟩⟩
            case measure => simp only [intOf]; omega
          · have hlb : decide (z < x) = false := decide_eq_false hlt
            have hgr : grI l p (n - 1) = g := by rw [HG.out, HGS.out (g - 1) (by have := HPQ.out; omega), if_neg hlt]
            have HGR := Lib.hid hgr
            clear hgr hlt HG HGS
            go_wp2
            go_quiet (fail)
            go_wp2
            have HB3 := Lib.hid (HB2.out.drewN nq)
            have HO3 := Lib.hid (HO2.out.drewN nq)
            obtain ⟨W3, hW3⟩ : ∃ W3, wr.drewN nq = W3 := ⟨_, rfl⟩
            rw [hW3] at HB3 HO3 ⊢
            clear hW3 HB2 HO2 HJ2 c1 c2
            have d1 : W3.cell? ⟨O, p, none⟩ = some (.int .i64 x) := by rw [HB3.out.cell, iArr_at _ _ (by have := HL.out; omega), HX.out]
            have d2 : W3.cell? ⟨O, g, none⟩ = some (.int .i64 z) := by rw [HB3.out.cell, iArr_at _ _ (by have := HL.out; omega), HZ.out]
            have e1 : W3.frozen? ⟨O, p, none⟩ = false := HB3.out.frozen p
            have e2 : W3.frozen? ⟨O, g, none⟩ = false := HB3.out.frozen g
            have hpg : p ≠ g := by have := HPQ.out; omega
            have HNB : Hid (Bk ((W3.setCell ⟨O, p, none⟩ (.int .i64 z)).setCell ⟨O, g, none⟩ (.int .i64 x)) O 3 (iArr (swp l p g))) := by
              show Bk _ _ _ _
              rw [swp_set, HX.out, HZ.out, ← iArr_set, ← iArr_set]
              exact (HB3.out.set_ p _).set_ g _
            have HNW := Lib.hid ((HO3.out.setCell O p (.int .i64 z)).setCell O g (.int .i64 x))
            have hcut : ∀ W, (Instr.slice 43 (.slice (some ⟨O, 0, none⟩) n c) (some (.int .i64 (q : Int))) none none).run Try.prog W = .ok (.slice (some ⟨O, q, none⟩) (n - q) (c - q)) W := by
              intro W
              have h := cutFrom_run (some ⟨O, 0, none⟩) n c q (n - q) (c - q) (q : Int) rfl (by omega) rfl rfl W
              rw [h]
              unfold cutA
              rw [if_neg (by omega)]
              simp [Addr.add]
              omega
            have CR : Hid (∀ W, Bk W O 3 (iArr (swp l p g)) → Calls Try.prog 151 #[.slice (some ⟨O, q, none⟩) (n - q) (c - q)] W fun e w' => e = .returned (.tuple #[]) ∧ Bk w' O 3 (iArr (rvK (swp l p g) q (n - q) ((n - q) / 2))) ∧ Out (fun r => r = O) W w') := fun W h => reverse_any O q (n - q) (c - q) (swp l p g) W h (by rw [swp_length, HL.out]; omega) (by rw [swp_length, HL.out]; exact hn)
            have HFL : Hid (LV = rvK (swp l p g) q (n - q) ((n - q) / 2)) := by
              show _ = _
              rw [← HLV.out, HAD.out, HGR.out, Option.getD_some, show p + 1 = q from HPQ.out, show n - 1 - p = n - q by have := HPQ.out; omega]
            have HFB : Hid (BV = true) := by show _ = _; rw [← HBV.out, HAD.out]; rfl
            clear HGY HGR HAD HLV HBV HX HY HZ HXY
            go_wp2
            go_region
            obtain ⟨W4, hW4⟩ : ∃ W4, ((W3.setCell ⟨O, p, none⟩ (.int .i64 z)).setCell ⟨O, g, none⟩ (.int .i64 x)).drew = W4 := ⟨_, rfl⟩
            have HN4 : Hid (Bk W4 O 3 (iArr (swp l p g))) := by show Bk _ _ _ _; rw [← hW4]; exact HNB.out.drew
            have HO4 : Hid (Out (fun r => r = O) w W4) := by show Out _ _ _; rw [← hW4]; exact HNW.out.drew
            rw [hW4]
            clear hW4 HNB HNW HB3 HO3 d1 d2 e1 e2
            go_wp2_with fail
            refine (CR.out _ HN4.out).mono ?_
            rintro e w5 ⟨rfl, h5, h6⟩
            have H5 := Lib.hid h5
            have H6 := Lib.hid (HO4.out.trans h6)
            clear h5 h6
            go_wp2
            go_ret
            exact ⟨by rw [HFB.out]; rfl, by rw [HFL.out]; exact H5.out, H6.out⟩

end Go.Proofs.Ytccoflhoggpgoaa

namespace Go.Proofs.Ytccoflhoggpgoaa
open Go.RowKit

open Go.Shelf

/-- .. however long its rows are. -/
def RdGo (w : World) (A : Option Addr) (n : Nat) (rows : List (List Int)) : Prop :=
  rows.length = n ∧ (0 < n → ∃ ad, A = some ad ∧ ad.block < w.heap.size ∧ ∀ j, j < n → ∃ B m c, w.cell? (ad.add j) = some (.slice B m c) ∧ RdI w B m (rows.getD j []) ∧ (B = none → m = 0 ∧ c = 0))

theorem RdGo.below {w w' : World} {A : Option Addr} {n : Nat} {rows : List (List Int)} (h : RdGo w A n rows) (hb : Below w.heap.size w w') : RdGo w' A n rows := by
  refine ⟨h.1, fun hn => ?_⟩
  obtain ⟨ad, e, hlt, hc⟩ := h.2 hn
  refine ⟨ad, e, Nat.lt_of_lt_of_le hlt hb.size, fun j hj => ?_⟩
  obtain ⟨B, m, c, h1, h2, h3⟩ := hc j hj
  exact ⟨B, m, c, (hb.cell (by rw [addBlock]; exact hlt)).trans h1, h2.below hb, h3⟩

theorem own_apart {w : World} {base base' : Nat} {v p : Value} {n k : Nat} {xs vs : List Value} (h : w.ownsRow base 3 1 v n xs) (h' : w.ownsRow base' 43 1 p k vs) : v.ownBlock = none ∨ v.ownBlock ≠ p.ownBlock := by
  rcases h.2 with ⟨rfl, _⟩ | ⟨g, cap, cur, rfl, _, hg, _⟩
  · exact .inl rfl
  · right
    rcases h'.2 with ⟨rfl, _⟩ | ⟨g', cap', cur', rfl, _, hg', _⟩
    · simp [Value.ownBlock]
    · simp only [Value.ownBlock]
      intro e
      injection e with e
      subst e
      rw [hg] at hg'
      injection hg' with h1
      injection h1 with _ h2
      exact absurd h2 (by decide)

theorem nilCmp (a : Option Addr) (n c : Nat) (W : World) : (binOp .eql 43 (.slice a n c) (.slice none 0 0)).run Try.prog W = .ok (.bool a.isNone) W := by
  have h := run_equal_slice_nil (P := Try.prog) W 43 3 a n c Try.underlying43
  simp only [binOp]
  simp [h]

set_option maxRecDepth 100000 in
theorem clone_any (A : Option Addr) (n c : Nat) (xs : List Int) (w : World) (hr : RdI w A n xs) (hn : n ≤ 1000000) :
    Calls Try.prog 144 #[.slice A n c] w (OwnS w xs) := by
  obtain ⟨i0, hi0, hz0, hz1, hz2⟩ := info_parts intInfo'
  rcases A with _ | ad
  · have hnc := nilCmp none 0
    have h0 : n = 0 := by
      rcases Nat.eq_zero_or_pos n with h | h
      · exact h
      · obtain ⟨_, h1, _⟩ := hr.2 h; cases h1
    have hx : xs = [] := List.eq_nil_of_length_eq_zero (by rw [hr.1, h0])
    subst hx h0
    clear hr
    go_enter Try.func144, Try.ntmps144
    go_wp2
    go_ret
    exact ⟨⟨_, rfl, World.ownsRow_nil _ _ _ _⟩, Below.refl _ _⟩
  · have hnc := nilCmp (some ad) n
    have hl := hr.1
    have hsrc : Hid (∀ j u, (xs.map (Value.int .i64))[j]? = some u → (w.alloc (.cells #[] 3)).cell? (ad.add j) = some u) := by
      intro j u hu
      have hj : j < n := by
        rcases Nat.lt_or_ge j n with h | h
        · exact h
        · rw [List.getElem?_eq_none (by simp; omega)] at hu; cases hu
      obtain ⟨ad', e, _, hc⟩ := hr.2 (by omega)
      cases e
      have := cellA (.cells #[] 3) (hc j hj)
      rw [this]
      rw [List.getElem?_map, List.getElem?_eq_getElem (by omega)] at hu
      rw [List.getD_eq_getElem?_getD, List.getElem?_eq_getElem (by omega)]
      simpa using hu
    have hone : Hid (∀ u ∈ xs.map (Value.int .i64), u.oneCell' = true) := by
      intro u hu
      obtain ⟨x, _, rfl⟩ := List.mem_map.1 hu
      rfl
    have ho : Hid ((w.alloc (.cells #[] 3)).ownsRow w.heap.size 3 1 (.slice (some ⟨w.heap.size, 0, none⟩) 0 0) 0 ([] : List Value)) := World.ownsRow_lit w #[] 0 (Nat.le_refl _) (by simp only [maxLen]; omega) rfl
    have HL := Lib.hid hl
    clear hr hl
    obtain ⟨news, hnews⟩ : ∃ news, xs.map (Value.int .i64) = news := ⟨_, rfl⟩
    have hnl : Hid (news.length = n * 1) := by show _ = _; rw [← hnews, List.length_map, HL.out, Nat.mul_one]
    rw [hnews] at hsrc hone
    have HN := Lib.hid hnews
    clear hnews
    go_enter Try.func144, Try.ntmps144
    go_wp2_with (at_builtin; refine wpList_append_own _ rfl (.tmp 5) (.tmp 6) 43 rfl w.heap.size 3 i0 _ 1 8 Try.underlying43 hi0 hz0 hz1 hz2 rfl (by decide) _ _ _ rfl ho.out ad n c news rfl hnl.out hsrc.out hone.out (by unfold maxLen; omega) (by omega) (by simp) ?_)
    intro v' w1 hown' hgrow _
    have HO : Hid (w1.ownsRow w.heap.size 3 1 v' xs.length (xs.map (Value.int .i64))) := by
      show World.ownsRow _ _ _ _ _ _ _
      rw [HN.out, HL.out]
      simpa using hown'
    have HB : Hid (Below w.heap.size w w1) := ((Below.refl _ w).alloc (Nat.le_refl _) _).grown hgrow (by simp) (fun k e => by simp [Value.ownBlock] at e; omega)
    clear hown' hgrow
    go_wp2
    go_ret
    exact ⟨⟨_, rfl, HO.out⟩, HB.out⟩

theorem isNaN_any (a : Int) (w : World) : Calls Try.prog 145 #[.int .i64 a] w fun e w' => e = .returned (.bool false) ∧ w = w' := by
  go_enter Try.func145, Try.ntmps145
  go_wp2
  go_ret
  exact ⟨by first | rfl | simp, rfl⟩
def cpF (a b : Int) : Int := if a < b then -1 else if b < a then 1 else 0
theorem compare_any (a b : Int) (w : World) : Calls Try.prog 121 #[.int .i64 a, .int .i64 b] w fun e w' => e = .returned (.int .i64 (cpF a b)) ∧ w = w' := by
  have HV : Hid (cpF a b = if a < b then -1 else if b < a then 1 else 0) := rfl
  obtain ⟨V, hV⟩ : ∃ V, cpF a b = V := ⟨_, rfl⟩
  rw [hV] at HV ⊢
  clear hV
  by_cases h1 : a < b
  · obtain rfl : V = -1 := by rw [HV.out, if_pos h1]
    go_enter Try.func121, Try.ntmps121
    go_wp2_with (go_at_call 145; refine (isNaN_any _ _).mono ?_; rintro e w' ⟨rfl, rfl⟩)
    go_ret
    exact ⟨rfl, rfl⟩
  · by_cases h2 : b < a
    · obtain rfl : V = 1 := by rw [HV.out, if_neg h1, if_pos h2]
      go_enter Try.func121, Try.ntmps121
      go_wp2_with (go_at_call 145; refine (isNaN_any _ _).mono ?_; rintro e w' ⟨rfl, rfl⟩)
      go_ret
      exact ⟨rfl, rfl⟩
    · obtain rfl : V = 0 := by rw [HV.out, if_neg h1, if_neg h2]
      go_enter Try.func121, Try.ntmps121
      go_wp2_with (go_at_call 145; refine (isNaN_any _ _).mono ?_; rintro e w' ⟨rfl, rfl⟩)
      go_ret
      exact ⟨rfl, rfl⟩

/-! ### disagreements -/
def ent (p : List (List Int)) (x y : Int) : Int := (p.getD x.toNat []).getD y.toNat 0
def dsR (p : List (List Int)) (x : Int) (l : List Int) : Int := (l.map fun y => ent p x y).sum
def dsP (p : List (List Int)) (o : List Int) : Nat → Int
  | 0 => 0
  | k + 1 => dsP p o k + dsR p (o.getD k 0) (o.take k)
def dsF (p : List (List Int)) (o : List Int) : Int := dsP p o o.length
/-- Preferences that are valid, an order that is. -/
def VP (n : Nat) (p : List (List Int)) : Prop := p.length = n ∧ ∀ r ∈ p, r.length = n ∧ ∀ x ∈ r, 0 ≤ x ∧ x ≤ 1000
def VO (n : Nat) (o : List Int) : Prop := o.length = n ∧ ∀ x ∈ o, 0 ≤ x ∧ x < n
theorem VO.at {n : Nat} {o : List Int} (h : VO n o) {k : Nat} (hk : k < n) : 0 ≤ o.getD k 0 ∧ o.getD k 0 < n := by
  rw [List.getD_eq_getElem?_getD, List.getElem?_eq_getElem (by rw [h.1]; exact hk), Option.getD_some]
  exact h.2 _ (List.getElem_mem _)
theorem VP.row {n : Nat} {p : List (List Int)} (h : VP n p) {k : Nat} (hk : k < n) : (p.getD k []).length = n ∧ ∀ x ∈ p.getD k [], 0 ≤ x ∧ x ≤ 1000 := by
  rw [List.getD_eq_getElem?_getD, List.getElem?_eq_getElem (by rw [h.1]; exact hk), Option.getD_some]
  exact h.2 _ (List.getElem_mem _)
theorem VP.ent {n : Nat} {p : List (List Int)} (h : VP n p) {x y : Int} (hx : 0 ≤ x ∧ x < n) (hy : 0 ≤ y ∧ y < n) : 0 ≤ ent p x y ∧ ent p x y ≤ 1000 := by
  have h1 := h.row (k := x.toNat) (by omega)
  unfold Go.Proofs.Ytccoflhoggpgoaa.ent
  rw [List.getD_eq_getElem?_getD, List.getElem?_eq_getElem (by rw [h1.1]; omega), Option.getD_some]
  exact h1.2 _ (List.getElem_mem _)
theorem dsR_snoc (p : List (List Int)) (x : Int) (l : List Int) (y : Int) : dsR p x (l ++ [y]) = dsR p x l + ent p x y := by simp [dsR, List.sum_append]
theorem dsR_bd {n : Nat} {p : List (List Int)} (h : VP n p) {x : Int} (hx : 0 ≤ x ∧ x < n) : ∀ l : List Int, (∀ y ∈ l, 0 ≤ y ∧ y < n) → 0 ≤ dsR p x l ∧ dsR p x l ≤ 1000 * l.length
  | [], _ => by simp [dsR]
  | y :: l, hl => by
    have h1 := dsR_bd h hx l (fun z hz => hl z (List.mem_cons_of_mem _ hz))
    have h2 := h.ent hx (hl y (List.mem_cons_self))
    have e : dsR p x (y :: l) = ent p x y + dsR p x l := by simp [dsR]
    rw [e, List.length_cons]
    omega
theorem dsP_bd {n : Nat} {p : List (List Int)} {o : List Int} (h : VP n p) (ho : VO n o) (hn : n ≤ 10) : ∀ k, k ≤ n → 0 ≤ dsP p o k ∧ dsP p o k ≤ 10000 * k
  | 0, _ => by simp [dsP]
  | k + 1, hk => by
    have h1 := dsP_bd h ho hn k (by omega)
    have h2 := dsR_bd h (ho.at (k := k) (by omega)) (o.take k) (fun y hy => ho.2 y (List.mem_of_mem_take hy))
    rw [List.length_take] at h2
    show 0 ≤ dsP p o k + dsR p (o.getD k 0) (o.take k) ∧ _
    have e : dsP p o (k + 1) = dsP p o k + dsR p (o.getD k 0) (o.take k) := rfl
    rw [e]
    omega

end Go.Proofs.Ytccoflhoggpgoaa

namespace Go.Proofs.Ytccoflhoggpgoaa
open Go.RowKit

open Go.Shelf

theorem cutTo0_run (ad : Addr) (n c hi : Nat) (h2 : hi ≤ c) (W : World) :
    (Instr.slice 43 (.slice (some ad) n c) none (some (.int .i64 (hi : Int))) none).run Try.prog W = .ok (.slice (cutA (some ad) 0 c) hi c) W := cutTo_run (some ad) n c hi (hi : Int) rfl h2 W

set_option maxRecDepth 100000 in
set_option maxHeartbeats 4000000 in
theorem disagreements_any (A : Option Addr) (n c : Nat) (p : List (List Int)) (B : Option Addr) (d : Nat) (o : List Int) (w : World) (hp : RdGo w A n p) (ho : RdI w B n o) (hd : n ≤ d) (hn : n ≤ 6) (hv : VP n p) (hvo : VO n o) :
    Calls Try.prog 116 #[.slice A n c, .slice B n d] w fun e w' => e = .returned (.int .i64 (dsF p o)) ∧ w = w' := by
  have HP := Lib.hid hp
  have HO := Lib.hid ho
  have HV := Lib.hid hv
  have HVO := Lib.hid hvo
  have HF : Hid (dsF p o = dsP p o n) := by show _ = _; unfold dsF; rw [hvo.1]
  have HBD := Lib.hid (dsP_bd hv hvo (by omega))
  obtain ⟨V, hV⟩ : ∃ V, dsF p o = V := ⟨_, rfl⟩
  rw [hV] at HF ⊢
  clear hp ho hv hvo hV
  go_enter Try.func116, Try.ntmps116
  go_wp2
  go_loop [5, 12] (fun s i => ∃ k : Nat, k ≤ n ∧ i = .int .i64 k ∧ s = .int .i64 (dsP p o k)) (fun _ i => n - (intOf i).toNat)
  case atStart => exact ⟨0, Nat.zero_le _, rfl, rfl⟩
  case round =>
    obtain ⟨k, hk, rfl, rfl⟩ := hrel
    by_cases hlt : k < n
    · have hkI : (k : Int) < (n : Int) := by omega
      have hk0 : (0 : Int) ≤ (k : Int) := by omega
      obtain ⟨bd, hb, _, hcb⟩ := HO.out.2 (by omega)
      subst hb
      have hck := hcb k hlt
      have hit := HVO.out.at hlt
      have HST : Hid (dsP p o (k + 1) = dsP p o k + dsR p (o.getD k 0) (o.take k)) := rfl
      have hbk := HBD.out k hk
      have HRB := Lib.hid (fun j => dsR_bd HV.out hit ((o.take k).take j) (fun y hy => HVO.out.2 y (List.mem_of_mem_take (List.mem_of_mem_take hy))))
      obtain ⟨x, hx⟩ : ∃ x, o.getD k 0 = x := ⟨_, rfl⟩
      rw [hx] at hck hit HST HRB
      obtain ⟨xn, rfl⟩ : ∃ xn : Nat, x = xn := ⟨x.toNat, by omega⟩
      obtain ⟨ad, ha, hal, hca⟩ := HP.out.2 (by omega)
      subst ha
      have hxn : xn < n := by omega
      have hxI : (xn : Int) < (n : Int) := by omega
      have hx0 : (0 : Int) ≤ (xn : Int) := by omega
      obtain ⟨R, m, rc, hrow, hrd, _⟩ := hca xn hxn
      have hrl := (HV.out.row hxn).1
      have hmn : m = n := by have := hrd.1; omega
      subst hmn
      obtain ⟨rd, hR, _, hcr⟩ := hrd.2 (by omega)
      subst hR
      have hcut := cutTo0_run bd m d k (by omega)
      have HCR : Hid (∀ j, j < m → w.cell? (rd.add j) = some (.int .i64 (ent p xn (j : Int)))) := fun j hj => by
        rw [hcr j hj]
        rfl
      have hk6 : k ≤ 6 := by omega
      have HCT := Lib.hid (rd_take HO.out d k (by omega) (by omega))
      have HTL : Hid ((o.take k).length = k) := by show _ = _; rw [List.length_take, HVO.out.1]; omega
      have HTV : Hid (∀ j, j < k → 0 ≤ (o.take k).getD j 0 ∧ (o.take k).getD j 0 < m) := fun j hj => by
        have h := HVO.out.at (k := j) (by omega)
        rwa [show (o.take k).getD j 0 = o.getD j 0 by simp [List.getD_eq_getElem?_getD, List.getElem?_take, hj]]
      have HEB : Hid (∀ y : Nat, y < m → 0 ≤ ent p xn y ∧ ent p xn y ≤ 1000) := fun y hy => HV.out.ent (by omega) (by omega)
      obtain ⟨ot, hot⟩ : ∃ t, o.take k = t := ⟨_, rfl⟩
      rw [hot] at HST HRB HCT HTL HTV
      obtain ⟨cb, hcbv⟩ : ∃ b, cutA (some bd) 0 d = b := ⟨_, rfl⟩
      rw [hcbv] at hcut HCT
      have HFIN : Hid (ot.take k = ot) := List.take_of_length_le (by rw [HTL.out]; exact Nat.le_refl _)
      obtain ⟨s0, hs0⟩ : ∃ s, dsP p o k = s := ⟨_, rfl⟩
      rw [hs0] at HST hbk ⊢
      clear hcb hca hcr hrd hrl hx hot hcbv hs0
      go_wp2
      go_loop [5, 21] (fun s i => ∃ j : Nat, j ≤ k ∧ i = .int .i64 j ∧ s = .int .i64 (s0 + dsR p xn (ot.take j))) (fun _ i => k - (intOf i).toNat)
      case atStart => exact ⟨0, Nat.zero_le _, rfl, by rw [List.take_zero]; simp [dsR]⟩
      case round =>
        obtain ⟨j, hj, rfl, rfl⟩ := hrel
        by_cases hjk : j < k
        · have hjI : (j : Int) < (k : Int) := by omega
          obtain ⟨cd, hcd, _, hcc⟩ := HCT.out.2 (by omega)
          subst hcd
          have hcj := hcc j hjk
          have hyv := HTV.out j hjk
          have HSN := Lib.hid (dsR_snoc p xn (ot.take j) (ot.getD j 0))
          rw [← take_snoc (by rw [HTL.out]; exact hjk)] at HSN
          have hrb := HRB.out j
          rw [List.length_take] at hrb
          obtain ⟨y, hy⟩ : ∃ y, ot.getD j 0 = y := ⟨_, rfl⟩
          rw [hy] at hcj hyv HSN
          obtain ⟨yn, rfl⟩ : ∃ yn : Nat, y = yn := ⟨y.toNat, by omega⟩
          have hyn : yn < m := by omega
          have hyI : (yn : Int) < (m : Int) := by omega
          have hy0 : (0 : Int) ≤ (yn : Int) := by omega
          have hce := HCR.out yn hyn
          have hev := HEB.out yn hyn
          obtain ⟨e, he⟩ : ∃ e, ent p xn yn = e := ⟨_, rfl⟩
          rw [he] at hce hev HSN
          obtain ⟨r, hr⟩ : ∃ r, dsR p xn (ot.take j) = r := ⟨_, rfl⟩
          rw [hr] at HSN hrb ⊢
          have hw : IntKind.i64.wrap (s0 + r + e) = s0 + r + e := IntWalk.i64_in _ (by omega)
          clear hcc hy he hr
          go_wp2
          go_round
          case rel => exact ⟨j + 1, by omega, by go_num, by rw [HSN.out, Int.add_assoc]⟩
          case measure => simp [intOf]; omega
        · obtain rfl : k = j := by omega
          have hjI : ¬ (k : Int) < (k : Int) := by omega
          rw [HFIN.out, ← HST.out]
          go_wp2
          go_round
          case rel => exact ⟨k + 1, by omega, by go_num, rfl⟩
          case measure => simp [intOf]; omega
    · obtain rfl : n = k := by omega
      have hkI : ¬ (n : Int) < (n : Int) := by omega
      go_wp2
      go_ret
      exact ⟨by rw [HF.out]; rfl, rfl⟩

end Go.Proofs.Ytccoflhoggpgoaa

namespace Go.Proofs.Ytccoflhoggpgoaa
open Go.RowKit

open Go.Shelf

/-- The error of preferences. -/
def celE (i j : Nat) (x : Int) : Int := firstNZ [rngE 0 1000 [x], if i = j ∧ x ≠ 0 then 3 else 0]
def rwE (i : Nat) : Nat → List Int → Int
  | _, [] => 0
  | j, x :: xs => if celE i j x = 0 then rwE i (j + 1) xs else celE i j x
def rwsE : Nat → List (List Int) → Int
  | _, [] => 0
  | i, r :: rs => if rwE i 0 r = 0 then rwsE (i + 1) rs else rwE i 0 r
def shE (n : Nat) (p : List (List Int)) : Int := if p.all (fun r => decide (r.length = n)) = true then 0 else 10
def pfE (p : List (List Int)) : Int := if 6 < p.length then 8 else if shE p.length p = 0 then rwsE 0 p else 10
theorem shE_step (n : Nat) (p : List (List Int)) (k : Nat) (hk : k < p.length) : shE n (p.drop k) = if (p.getD k []).length = n then shE n (p.drop (k + 1)) else 10 := by
  unfold shE
  rw [List.drop_eq_getElem_cons hk]
  simp only [List.all_cons, List.getD_eq_getElem?_getD, List.getElem?_eq_getElem hk, Option.getD_some]
  by_cases h : (p[k]).length = n <;> simp [h]
theorem rwE_step (i : Nat) (r : List Int) (j : Nat) (hj : j < r.length) : rwE i j (r.drop j) = if celE i j (r.getD j 0) = 0 then rwE i (j + 1) (r.drop (j + 1)) else celE i j (r.getD j 0) := by
  rw [List.drop_eq_getElem_cons hj]
  simp only [rwE, List.getD_eq_getElem?_getD, List.getElem?_eq_getElem hj, Option.getD_some]
theorem rwsE_step (p : List (List Int)) (i : Nat) (hi : i < p.length) : rwsE i (p.drop i) = if rwE i 0 (p.getD i []) = 0 then rwsE (i + 1) (p.drop (i + 1)) else rwE i 0 (p.getD i []) := by
  rw [List.drop_eq_getElem_cons hi]
  simp only [rwsE, List.getD_eq_getElem?_getD, List.getElem?_eq_getElem hi, Option.getD_some]

theorem rowLen_any (B : Option Addr) (m c g : Nat) (A : Option Addr) (n d : Nat) (w : World) (hb : w.cell? ⟨g, 0, none⟩ = some (.slice A n d)) (hn : n ≤ 1000000) :
    Calls Try.prog 139 #[.slice B m c, .pointer (some ⟨g, 0, none⟩)] w fun e w' => e = .returned (.int .i64 (if m = n then 0 else 10)) ∧ w = w' := by
  by_cases h : m = n
  · subst h
    rw [if_pos rfl]
    go_enter Try.func139, Try.ntmps139
    go_wp2_with (go_at_call 99; refine (when_any false 10 _).mono ?_; rintro e w' ⟨rfl, rfl⟩)
    go_ret
    exact ⟨rfl, rfl⟩
  · rw [if_neg h]
    have h1 : ((m : Int) != (n : Int)) = true := by simp; omega
    have h2 : ((m : Int) == (n : Int)) = false := by simp; omega
    go_enter Try.func139, Try.ntmps139
    go_wp2_with (go_at_call 99; refine (when_any true 10 _).mono ?_; rintro e w' ⟨rfl, rfl⟩)
    go_ret
    exact ⟨rfl, rfl⟩

set_option maxHeartbeats 2000000 in
theorem checkRowsP_any (A : Option Addr) (n c g : Nat) (p : List (List Int)) (w : World) (hp : RdGo w A n p) (hn : n ≤ 1000000) (hb : w.cell? ⟨g, 0, none⟩ = some (.slice A n c)) :
    Calls Try.prog 138 #[.slice A n c, .func (.func 139) #[] #[.pointer (some ⟨g, 0, none⟩)]] w fun e w' => e = .returned (.int .i64 (shE n p)) ∧ w = w' := by
  have HP := Lib.hid hp
  have CR : Hid (∀ B m c', Calls Try.prog 139 #[.slice B m c', .pointer (some ⟨g, 0, none⟩)] w fun e w' => e = .returned (.int .i64 (if m = n then 0 else 10)) ∧ w = w') := fun B m c' => rowLen_any B m c' g A n c w hb hn
  have HLN : Hid (p.length = n) := hp.1
  clear hp hb
  obtain ⟨V, hV⟩ : ∃ V, shE n p = V := ⟨_, rfl⟩
  have HV := Lib.hid hV
  rw [hV]
  clear hV
  go_enter Try.func138, Try.ntmps138
  go_wp2
  go_loop [10] (fun i => ∃ k : Nat, k ≤ n ∧ i = .int .i64 k ∧ Hid (shE n p = shE n (p.drop k))) (fun i => n - (intOf i).toNat)
  case atStart => exact ⟨0, Nat.zero_le _, rfl, rfl⟩
  case round =>
    obtain ⟨k, hk, rfl, HS⟩ := hrel
    by_cases hlt : k < n
    · have hkI : (k : Int) < (n : Int) := by omega
      obtain ⟨ad, ha, _, hc⟩ := HP.out.2 (by omega)
      subst ha
      obtain ⟨R, m, rc, hrow, hrd, _⟩ := hc k hlt
      have hs := shE_step n p k (by rw [HLN.out]; exact hlt)
      rw [hrd.1] at hs
      have HST := Lib.hid hs
      clear hs hc
      · have CX := Lib.hid (CR.out R m rc)
        clear hrd
        by_cases hm : m = n
        · rw [if_pos hm] at CX
          have HM := Lib.hid hm
          clear hm
          go_wp2_with (go_at_call 139; refine CX.out.mono ?_; rintro e w' ⟨rfl, rfl⟩)
          go_round
          case rel => exact ⟨k + 1, by omega, by go_num, by show _ = _; rw [HS.out, HST.out, if_pos HM.out]⟩
          case measure => simp [intOf]; omega
        · rw [if_neg hm] at CX
          have HM := Lib.hid hm
          clear hm
          go_wp2_with (go_at_call 139; refine CX.out.mono ?_; rintro e w' ⟨rfl, rfl⟩)
          go_ret
          exact ⟨by rw [← HV.out, HS.out, HST.out, if_neg HM.out]; rfl, rfl⟩
    · obtain rfl : n = k := by omega
      go_wp2
      go_ret
      exact ⟨by rw [← HV.out, HS.out, List.drop_eq_nil_of_le (by rw [HLN.out]; exact Nat.le_refl _)]; rfl, rfl⟩

set_option maxRecDepth 100000 in
set_option maxHeartbeats 4000000 in
theorem checkPreferences_any (A : Option Addr) (n c : Nat) (p : List (List Int)) (w : World) (hp : RdGo w A n p) (hn : n ≤ 1000000) :
    Calls Try.prog 114 #[.slice A n c] w fun e w' => e = .returned (.int .i64 (pfE p)) ∧ Below w.heap.size w w' := by
  have R0 := Lib.hid (OneB.start w 95 #[.slice A n c])
  have HP := Lib.hid (hp.below R0.out.b)
  have HLN : Hid (p.length = n) := hp.1
  have HF : Hid (pfE p = if 6 < n then 8 else if shE n p = 0 then rwsE 0 p else 10) := by show _ = _; unfold pfE; rw [hp.1]
  have CE : Hid (∀ W, RdGo W A n p → W.cell? ⟨w.heap.size, 0, none⟩ = some (.slice A n c) → Calls Try.prog 138 #[.slice A n c, .func (.func 139) #[] #[.pointer (some ⟨w.heap.size, 0, none⟩)]] W fun e w' => e = .returned (.int .i64 (shE n p)) ∧ W = w') := fun W h1 h2 => checkRowsP_any A n c w.heap.size p W h1 hn h2
  have HSZ : Hid (shE n p = 0 ∨ shE n p = 10) := by show _ ∨ _; unfold shE; split <;> simp
  have HRL : Hid (shE n p = 0 → ∀ j, j < n → (p.getD j []).length = n) := by
    intro h j hj
    unfold shE at h
    by_cases h1 : p.all (fun r => decide (r.length = n)) = true
    · have := List.all_eq_true.1 h1 (p.getD j []) (by rw [List.getD_eq_getElem?_getD, List.getElem?_eq_getElem (by rw [hp.1]; exact hj), Option.getD_some]; exact List.getElem_mem _)
      simpa using this
    · rw [if_neg h1] at h; cases h
  clear hp
  obtain ⟨V, hV⟩ : ∃ V, pfE p = V := ⟨_, rfl⟩
  rw [hV] at HF ⊢
  obtain ⟨S, hS⟩ : ∃ S, shE n p = S := ⟨_, rfl⟩
  rw [hS] at HF CE HSZ HRL
  clear hV hS
  go_enter Try.func114, Try.ntmps114
  have c0 := (bk1 R0.out.k).1
  by_cases h6 : 6 < n
  · obtain rfl : V = 8 := by rw [HF.out, if_pos h6]
    have h6I : (6 : Int) < (n : Int) := by omega
    clear HF CE
    go_wp2
    go_ret
    exact ⟨rfl, R0.out.b⟩
  · have h6I : ¬ (6 : Int) < (n : Int) := by omega
    have hV := HF.out
    rw [if_neg h6] at hV
    have HF2 := Lib.hid hV
    clear hV HF
    go_wp2_with fail
    refine (CE.out _ HP.out c0).mono ?_
    rintro e w' ⟨rfl, rfl⟩
    obtain ⟨W, hW⟩ : ∃ W, w.alloc (.cells #[.slice A n c] 95) = W := ⟨_, rfl⟩
    rw [hW] at R0 HP c0 ⊢
    clear hW CE
    by_cases hs : S = 0
    · subst hs
      have hV := HF2.out
      rw [if_pos rfl] at hV
      have HF3 := Lib.hid hV
      have HRL2 := Lib.hid (HRL.out rfl)
      have HSTP : Hid (∀ i, i < n → rwsE i (p.drop i) = if rwE i 0 (p.getD i []) = 0 then rwsE (i + 1) (p.drop (i + 1)) else rwE i 0 (p.getD i [])) := fun i hi => rwsE_step p i (by rw [HLN.out]; exact hi)
      clear hV HF2 HRL
      go_wp2
      clear c0
      go_loopw [20] (fun i wr => ∃ k : Nat, k ≤ n ∧ i = .int .i64 k ∧ Hid (V = rwsE k (p.drop k)) ∧ Hid (Below W.heap.size W wr)) (fun i _ => n - (intOf i).toNat)
      case atStart => exact ⟨0, Nat.zero_le _, rfl, by show _ = _; rw [List.drop_zero]; exact HF3.out, Lib.hid (Below.refl _ _)⟩
      case round =>
        obtain ⟨k, hk, rfl, HE, HB⟩ := hrel
        by_cases hlt : k < n
        · have hkI : (k : Int) < (n : Int) := by omega
          obtain ⟨ad, ha, hal, hc⟩ := (HP.out.below HB.out).2 (by omega)
          subst ha
          obtain ⟨R, m, rc, hrow, hrd, _⟩ := hc k hlt
          have hrl := HRL2.out k hlt
          have hmn : m = n := by have := hrd.1; omega
          subst hmn
          have HST := Lib.hid (HSTP.out k hlt)
          obtain ⟨r, hr⟩ : ∃ r, p.getD k [] = r := ⟨_, rfl⟩
          rw [hr] at hrd hrl HST
          have HRD := Lib.hid hrd
          have HRW : Hid (∀ j, j < m → rwE k j (r.drop j) = if celE k j (r.getD j 0) = 0 then rwE k (j + 1) (r.drop (j + 1)) else celE k j (r.getD j 0)) := fun j hj => rwE_step k r j (by omega)
          have HRLN := Lib.hid hrl
          obtain ⟨RV, hRV⟩ : ∃ v, rwE k 0 r = v := ⟨_, rfl⟩
          rw [hRV] at HST
          have HRV : Hid (RV = rwE k 0 (r.drop 0)) := by show _ = _; rw [List.drop_zero, hRV]
          obtain ⟨wA, hwA⟩ : ∃ X, X = wr := ⟨_, rfl⟩
          subst hwA
          clear hc hr hrd hrl hRV
          go_wp2
          clear hrow
          go_loopw [27] (fun i wr => ∃ j : Nat, j ≤ m ∧ i = .int .i64 j ∧ Hid (RV = rwE k j (r.drop j)) ∧ Hid (Below wA.heap.size wA wr)) (fun i _ => m - (intOf i).toNat)
          case atStart => exact ⟨0, Nat.zero_le _, rfl, HRV, Lib.hid (Below.refl _ _)⟩
          case round =>
            obtain ⟨j, hj, rfl, HEJ, HBJ⟩ := hrel
            by_cases hjl : j < m
            · have hjI : (j : Int) < (m : Int) := by omega
              obtain ⟨rd, hR, _, hcr⟩ := (HRD.out.below HBJ.out).2 (by omega)
              subst hR
              have hcj := hcr j hjl
              have HSJ := Lib.hid (HRW.out j hjl)
              obtain ⟨x, hx⟩ : ∃ x, r.getD j 0 = x := ⟨_, rfl⟩
              rw [hx] at hcj HSJ
              have HCE : Hid (celE k j x = firstNZ [rngE 0 1000 [x], if k = j ∧ x ≠ 0 then 3 else 0]) := rfl
              obtain ⟨CV, hCV⟩ : ∃ v, celE k j x = v := ⟨_, rfl⟩
              rw [hCV] at HSJ HCE
              obtain ⟨E1, hE1⟩ : ∃ e, rngE 0 1000 [x] = e := ⟨_, rfl⟩
              have C1 := Lib.hid (fun a b w ha hb => from1_any x 0 1000 a b w ha hb)
              rw [hE1] at HCE C1
              have HBW := Lib.hid (HB.out.trans (HBJ.out.mono HB.out.size))
              clear hcr hx hCV hE1
              have HW2 : Hid (Below w.heap.size w wr) := R0.out.b.trans (HBW.out.mono R0.out.b.size)
              by_cases hkj : k = j
              · subst hkj
                have hkb : decide ((k : Int) = (k : Int)) = true := decide_eq_true rfl
                by_cases hx0 : x = 0
                · subst hx0
                  have HC2 : Hid (firstNZ [E1, 0] = CV) := by show _ = _; rw [HCE.out, if_neg (by simp)]
                  by_cases h0 : CV = 0
                  · subst h0
                    have HSN := Lib.hid (HSJ.out.trans (if_pos rfl))
                    go_wp2_with (first | (go_at_call 86; refine (from_any _ _ _).mono ?_; rintro e w' ⟨rfl, rfl⟩) | (go_at_call 125; refine (C1.out _ _ _ ?_ ?_).mono ?_; (focus (simp [go_sem])); (focus (simp [go_sem])); rintro e w' ⟨rfl, rfl⟩) | (go_at_call 99; refine (when_any false 3 _).mono ?_; rintro e w' ⟨rfl, rfl⟩) | (go_at_call 84; refine (firstError2 (E1 := E1) (E2 := 0) (F := 0) HC2.out _ _ ?_ ?_).mono ?_; (focus (simp [go_sem])); (focus (simp [go_sem])); rintro e w' ⟨rfl, rfl⟩))
                    go_roundw
                    case rel => exact ⟨k + 1, by omega, by go_num, by show _ = _; rw [HEJ.out, HSN.out], Lib.hid (by have hbw := HBJ.out; have hbz := hbw.size; go_grown)⟩
                    case measure => simp only [intOf]; first | omega | (simp [intOf]; omega)
                  · have d1 : (CV == 0) = false := by rw [beq_eq_false_iff_ne]; exact h0
                    have d2 : (CV != 0) = true := by rw [bne_iff_ne]; exact h0
                    have hrv : RV = CV := by rw [HEJ.out, HSJ.out, if_neg h0]
                    have hst := HST.out
                    rw [hrv, if_neg h0] at hst
                    have hvv : V = CV := by rw [HE.out, hst]
                    subst hvv
                    clear h0 hrv hst
                    go_wp2_with (first | (go_at_call 86; refine (from_any _ _ _).mono ?_; rintro e w' ⟨rfl, rfl⟩) | (go_at_call 125; refine (C1.out _ _ _ ?_ ?_).mono ?_; (focus (simp [go_sem])); (focus (simp [go_sem])); rintro e w' ⟨rfl, rfl⟩) | (go_at_call 99; refine (when_any false 3 _).mono ?_; rintro e w' ⟨rfl, rfl⟩) | (go_at_call 84; refine (firstError2 (E1 := E1) (E2 := 0) (F := V) HC2.out _ _ ?_ ?_).mono ?_; (focus (simp [go_sem])); (focus (simp [go_sem])); rintro e w' ⟨rfl, rfl⟩))
                    go_ret
                    exact ⟨rfl, by have hbw := HW2.out; have hbz := hbw.size; go_grown⟩
                · have hxb : (x == 0) = false := by rw [beq_eq_false_iff_ne]; exact hx0
                  have hxc : (x != 0) = true := by rw [bne_iff_ne]; exact hx0
                  have HC2 : Hid (firstNZ [E1, 3] = CV) := by show _ = _; rw [HCE.out, if_pos ⟨rfl, hx0⟩]
                  clear hx0
                  by_cases h0 : CV = 0
                  · subst h0
                    have HSN := Lib.hid (HSJ.out.trans (if_pos rfl))
                    go_wp2_with (first | (go_at_call 86; refine (from_any _ _ _).mono ?_; rintro e w' ⟨rfl, rfl⟩) | (go_at_call 125; refine (C1.out _ _ _ ?_ ?_).mono ?_; (focus (simp [go_sem])); (focus (simp [go_sem])); rintro e w' ⟨rfl, rfl⟩) | (go_at_call 99; refine (when_any true 3 _).mono ?_; rintro e w' ⟨rfl, rfl⟩) | (go_at_call 84; refine (firstError2 (E1 := E1) (E2 := 3) (F := 0) HC2.out _ _ ?_ ?_).mono ?_; (focus (simp [go_sem])); (focus (simp [go_sem])); rintro e w' ⟨rfl, rfl⟩))
                    go_roundw
                    case rel => exact ⟨k + 1, by omega, by go_num, by show _ = _; rw [HEJ.out, HSN.out], Lib.hid (by have hbw := HBJ.out; have hbz := hbw.size; go_grown)⟩
                    case measure => simp only [intOf]; first | omega | (simp [intOf]; omega)
                  · have d1 : (CV == 0) = false := by rw [beq_eq_false_iff_ne]; exact h0
                    have d2 : (CV != 0) = true := by rw [bne_iff_ne]; exact h0
                    have hrv : RV = CV := by rw [HEJ.out, HSJ.out, if_neg h0]
                    have hst := HST.out
                    rw [hrv, if_neg h0] at hst
                    have hvv : V = CV := by rw [HE.out, hst]
                    subst hvv
                    clear h0 hrv hst
                    go_wp2_with (first | (go_at_call 86; refine (from_any _ _ _).mono ?_; rintro e w' ⟨rfl, rfl⟩) | (go_at_call 125; refine (C1.out _ _ _ ?_ ?_).mono ?_; (focus (simp [go_sem])); (focus (simp [go_sem])); rintro e w' ⟨rfl, rfl⟩) | (go_at_call 99; refine (when_any true 3 _).mono ?_; rintro e w' ⟨rfl, rfl⟩) | (go_at_call 84; refine (firstError2 (E1 := E1) (E2 := 3) (F := V) HC2.out _ _ ?_ ?_).mono ?_; (focus (simp [go_sem])); (focus (simp [go_sem])); rintro e w' ⟨rfl, rfl⟩))
                    go_ret
                    exact ⟨rfl, by have hbw := HW2.out; have hbz := hbw.size; go_grown⟩
              · have hkb : decide ((k : Int) = (j : Int)) = false := decide_eq_false (by omega)
                have hkc : ((k : Int) == (j : Int)) = false := by rw [beq_eq_false_iff_ne]; omega
                have HC2 : Hid (firstNZ [E1, 0] = CV) := by show _ = _; rw [HCE.out, if_neg (by simp [hkj])]
                by_cases h0 : CV = 0
                · subst h0
                  have HSN := Lib.hid (HSJ.out.trans (if_pos rfl))
                  go_wp2_with (first | (go_at_call 86; refine (from_any _ _ _).mono ?_; rintro e w' ⟨rfl, rfl⟩) | (go_at_call 125; refine (C1.out _ _ _ ?_ ?_).mono ?_; (focus (simp [go_sem])); (focus (simp [go_sem])); rintro e w' ⟨rfl, rfl⟩) | (go_at_call 99; refine (when_any false 3 _).mono ?_; rintro e w' ⟨rfl, rfl⟩) | (go_at_call 84; refine (firstError2 (E1 := E1) (E2 := 0) (F := 0) HC2.out _ _ ?_ ?_).mono ?_; (focus (simp [go_sem])); (focus (simp [go_sem])); rintro e w' ⟨rfl, rfl⟩))
                  go_roundw
                  case rel => exact ⟨j + 1, by omega, by go_num, by show _ = _; rw [HEJ.out, HSN.out], Lib.hid (by have hbw := HBJ.out; have hbz := hbw.size; go_grown)⟩
                  case measure => simp only [intOf]; first | omega | (simp [intOf]; omega)
                · have d1 : (CV == 0) = false := by rw [beq_eq_false_iff_ne]; exact h0
                  have d2 : (CV != 0) = true := by rw [bne_iff_ne]; exact h0
                  have hrv : RV = CV := by rw [HEJ.out, HSJ.out, if_neg h0]
                  have hst := HST.out
                  rw [hrv, if_neg h0] at hst
                  have hvv : V = CV := by rw [HE.out, hst]
                  subst hvv
                  clear h0 hrv hst
                  go_wp2_with (first | (go_at_call 86; refine (from_any _ _ _).mono ?_; rintro e w' ⟨rfl, rfl⟩) | (go_at_call 125; refine (C1.out _ _ _ ?_ ?_).mono ?_; (focus (simp [go_sem])); (focus (simp [go_sem])); rintro e w' ⟨rfl, rfl⟩) | (go_at_call 99; refine (when_any false 3 _).mono ?_; rintro e w' ⟨rfl, rfl⟩) | (go_at_call 84; refine (firstError2 (E1 := E1) (E2 := 0) (F := V) HC2.out _ _ ?_ ?_).mono ?_; (focus (simp [go_sem])); (focus (simp [go_sem])); rintro e w' ⟨rfl, rfl⟩))
                  go_ret
                  exact ⟨rfl, by have hbw := HW2.out; have hbz := hbw.size; go_grown⟩
            · obtain rfl : m = j := by omega
              have hjI : ¬ (m : Int) < (m : Int) := by omega
              have hrv : RV = 0 := by rw [HEJ.out, List.drop_eq_nil_of_le (by have := HRLN.out; omega)]; rfl
              have HRZ := Lib.hid hrv
              clear hrv
              go_wp2
              go_roundw
              case rel => exact ⟨k + 1, by omega, by go_num, by show _ = _; rw [HE.out, HST.out, if_pos HRZ.out], Lib.hid (HB.out.trans (HBJ.out.mono HB.out.size))⟩
              case measure => simp only [intOf]; first | omega | (simp [intOf]; omega)
        · obtain rfl : n = k := by omega
          have hkI : ¬ (n : Int) < (n : Int) := by omega
          obtain rfl : V = 0 := by rw [HE.out, List.drop_eq_nil_of_le (by rw [HLN.out]; exact Nat.le_refl _)]; rfl
          go_wp2
          go_ret
          exact ⟨rfl, R0.out.b.trans (HB.out.mono R0.out.b.size)⟩
    · have hs10 : S = 10 := by have := HSZ.out; omega
      subst hs10
      obtain rfl : V = 10 := by rw [HF2.out, if_neg hs]
      go_wp2
      go_ret
      exact ⟨rfl, R0.out.b⟩

end Go.Proofs.Ytccoflhoggpgoaa

namespace Go.Proofs.Ytccoflhoggpgoaa
open Go.RowKit

open Go.Shelf
attribute [local go_sem] Oper.semAt_some

/-- An order as a number, which grows. -/
def encN (l : List Int) : Int := l.foldl (fun a x => a * 10 + x) 0
def incB : List (List Int) → Bool
  | [] => true
  | [a] => decide (0 ≤ encN a) && decide (encN a < 1000000)
  | a :: b :: l => decide (0 ≤ encN a) && decide (encN a < encN b) && incB (b :: l)
theorem ords_inc : ∀ n, n < 7 → incB (ords n) = true := by decide +kernel
theorem inc_at : ∀ (L : List (List Int)) (k : Nat), incB L = true → k < L.length → 0 ≤ encN (L.getD k []) ∧ encN (L.getD k []) < 1000000 ∧ (k + 1 < L.length → encN (L.getD k []) < encN (L.getD (k + 1) []))
  | [], k, _, h => absurd h (by simp)
  | [a], 0, h, _ => by simp [incB] at h; simpa using h
  | [a], k + 1, _, h => absurd h (by simp)
  | a :: b :: l, 0, h, _ => by
    have h0 := h
    simp [incB] at h0
    have := inc_at (b :: l) 0 h0.2 (by simp)
    simp at this ⊢
    omega
  | a :: b :: l, k + 1, h, hk => by
    have h0 := h
    simp [incB] at h0
    have := inc_at (b :: l) k h0.2 (by simpa using hk)
    simpa using this
/-- What a block of numbers holds. -/
def rdL (W : World) (O n : Nat) : List Int := (List.range n).map fun i => match W.cell? ⟨O, i, none⟩ with | some v => intOf v | none => 0
theorem rdL_bk {W : World} {O : Nat} {l : List Int} (h : Bk W O 3 (iArr l)) : rdL W O l.length = l := by
  unfold rdL
  apply List.ext_getElem (by simp)
  intro i h1 h2
  simp only [List.getElem_map, List.getElem_range]
  rw [h.cell, iArr_at _ _ h2]
  simp [intOf, List.getD_eq_getElem?_getD, List.getElem?_eq_getElem h2]
def fillL (n k : Nat) : List Int := (List.range n).map fun (i : Nat) => if i < k then (i : Int) else 0
theorem fillL_zero (n : Nat) : fillL n 0 = List.replicate n 0 := by
  apply List.ext_getElem (by simp [fillL])
  intro i h1 h2
  simp [fillL]
theorem fillL_len (n k : Nat) : (fillL n k).length = n := by simp [fillL]
theorem fillL_step (n k : Nat) (hk : k < n) : (fillL n k).set k (k : Int) = fillL n (k + 1) := by
  apply List.ext_getElem (by simp [fillL])
  intro i h1 h2
  have hi : i < n := by simpa [fillL] using h2
  rw [List.getElem_set]
  by_cases e : k = i
  · subst e; simp [fillL]
  · rw [if_neg e]
    simp only [fillL, List.getElem_map, List.getElem_range]
    by_cases h : i < k
    · rw [if_pos h, if_pos (by omega)]
    · rw [if_neg h, if_neg (by omega)]
theorem fillL_full (n : Nat) : fillL n n = (List.range n).map fun (i : Nat) => (i : Int) := by
  unfold fillL
  refine List.map_congr_left fun i hi => ?_
  rw [if_pos (by simpa using hi)]

/-- What is handed on: a list of the iterator's making, in no block that it will touch. -/
abbrev Ro := Value × List Int
def RoM (b0 n : Nat) (T : Nat → Prop) (x : Ro) (A : World) : Prop :=
  A.ownsRow b0 3 1 x.1 n (x.2.map (Value.int .i64)) ∧ x.2.length = n ∧ ∀ g, x.1.ownBlock = some g → ¬ T g

theorem orders_any (n : Nat) (w : World) :
    Calls Try.prog 119 #[.int .i64 n] w fun e w' => e = .returned (.func (.func 142) #[] #[.pointer (some ⟨w.heap.size, 0, none⟩)]) ∧ w.alloc (.cells #[.int .i64 n] 3) = w' := by
  go_enter Try.func119, Try.ntmps119
  go_wp2
  go_ret
  first | exact ⟨rfl, rfl⟩ | (refine ⟨?_, rfl⟩; simp)

end Go.Proofs.Ytccoflhoggpgoaa

namespace Go.Proofs.Ytccoflhoggpgoaa
open Go.RowKit

open Go.Shelf
attribute [local go_sem] Oper.semAt_some

def isT : Value → Bool
  | .bool b => b
  | _ => false
theorem Out.grow {T T' : Nat → Prop} {A B : World} (h : Out T A B) (hT : ∀ r, T r → T' r) : Out T' A B := ⟨h.os, h.tape, h.output, h.size, fun k h1 h2 => h.block k h1 (fun h3 => h2 (hT k h3))⟩

set_option maxRecDepth 100000 in
set_option maxHeartbeats 8000000 in
theorem orders1_runs (nf : Nat) (hn1 : 1 ≤ nf) (gx b0 n : Nat) (hn : n < 7) (w0 : World) (hgx : w0.cell? ⟨gx, 0, none⟩ = some (.int .i64 n)) (hgl : gx < w0.heap.size) (hb0 : b0 ≤ w0.heap.size) :
    SeqRunsM Fence.wide nf Try.prog 142 #[.pointer (some ⟨gx, 0, none⟩)] (fun x : Ro => #[x.1]) (RoM b0 n) (fun xs => xs.map (·.2) = ords n) 720 (fun _ => False) w0 := by
  intro l J W hW hT hA hO hY h0
  have HT := Lib.hid hT
  have HO := Lib.hid hO
  have HY := Lib.hid hY
  have HLEN := ords_len n hn
  have HMEM : Hid (∀ k, k < (ords n).length → ((ords n).getD k []).length = n) := fun k hk => (ords_mem hn hk).1
  have HNX : Hid (∀ k, k < (ords n).length → adv ((ords n).getD k []) = (if k + 1 < (ords n).length then some ((ords n).getD (k + 1) []) else none)) := fun k hk => ords_next hn hk
  have HINC : Hid (∀ k, k < (ords n).length → 0 ≤ encN ((ords n).getD k []) ∧ encN ((ords n).getD k []) < 1000000 ∧ (k + 1 < (ords n).length → encN ((ords n).getD k []) < encN ((ords n).getD (k + 1) []))) := fun k hk => inc_at _ k (ords_inc n hn) hk
  have HHD : Hid ((ords n).getD 0 [] = fillL n n) := by
    show _ = _
    have h := ords_head n hn
    rw [fillL_full, List.getD_eq_getElem?_getD, ← List.head?_eq_getElem?, h]
    rfl
  have HLAST : Hid ((ords n).take (ords n).length = ords n) := List.take_length
  have HTK : Hid (∀ k, k < (ords n).length → (ords n).take (k + 1) = (ords n).take k ++ [(ords n).getD k []]) := fun k hk => by
    rw [List.take_succ_eq_append_getElem hk, List.getD_eq_getElem?_getD, List.getElem?_eq_getElem hk, Option.getD_some]
  obtain ⟨L, hL⟩ : ∃ L, ords n = L := ⟨_, rfl⟩
  rw [hL] at HLEN HMEM HNX HINC HHD HLAST HTK ⊢
  have HN0 : 0 < L.length := HLEN.2.1
  have HN7 : L.length ≤ 720 := HLEN.1
  clear hL HLEN hT hO hY
  have hc0 : W.cell? ⟨gx, 0, none⟩ = some (.int .i64 n) := (hW.cell (p := ⟨gx, 0, none⟩) hgl).trans hgx
  have hJ1 := Lib.hid (hA _ _ _ (.cells (iArr (List.replicate n 0)) 3) h0)
  have hwl : b0 ≤ W.heap.size := Nat.le_trans hb0 hW.size
  have HBk : Hid (Bk (W.alloc (.cells (iArr (List.replicate n 0)) 3)) W.heap.size 3 (iArr (fillL n 0))) := by
    show Bk _ _ _ _
    rw [fillL_zero]
    exact Bk.new _ _ _
  have hsz1 : (W.alloc (.cells (iArr (List.replicate n 0)) 3)).heap.size = W.heap.size + 1 := by simp
  have hmk := make_ints n (by omega) W
  clear hgx hA h0 hW
  refine callsIn_of_wp Try.func142 rfl trivial ?_ rfl
  simp only [Try.ntmps142, List.size_toArray, List.length_cons, List.length_nil, Nat.reduceAdd, Nat.reduceSub, Array.replicate_succ, Array.replicate_zero, List.push_toArray, List.append_toArray, List.nil_append, List.cons_append]
  gi_wp2
  obtain ⟨O, hOe⟩ : ∃ b, W.heap.size = b := ⟨_, rfl⟩
  rw [hOe] at HBk hsz1 hJ1 hwl ⊢
  obtain ⟨T, hTe⟩ : ∃ T : Nat → Prop, (fun r => False ∨ r = O) = T := ⟨_, rfl⟩
  have hTO : T O := by rw [← hTe]; exact Or.inr rfl
  have hTO2 : ∀ r, T r → r = O := by rw [← hTe]; rintro r (h | h); exact h.elim; exact h
  rw [hTe] at hJ1
  obtain ⟨W1, hW1⟩ : ∃ W1, W.alloc (.cells (iArr (List.replicate n 0)) 3) = W1 := ⟨_, rfl⟩
  rw [hW1] at HBk hsz1 hJ1 ⊢
  clear hW1 hOe hTe hmk hc0
  gi_loopw [10] (fun i wr => ∃ k : Nat, k ≤ n ∧ i = .int .i64 k ∧ Hid (Bk wr O 3 (iArr (fillL n k))) ∧ Hid (J T [] wr)) (fun i _ => n - (intOf i).toNat)
  case atStart => exact ⟨0, Nat.zero_le _, rfl, HBk, hJ1⟩
  case round =>
    obtain ⟨k, hk, rfl, HB, HJ⟩ := hrel
    clear HBk hJ1
    by_cases hlt : k < n
    · have hkI : (k : Int) < (n : Int) := by omega
      have hk0 : (0 : Int) ≤ (k : Int) := by omega
      have ho : wr.cell? ⟨O, k, none⟩ = some (.int .i64 ((fillL n k).getD k 0)) := by rw [HB.out.cell, iArr_at _ _ (by rw [fillL_len]; exact hlt)]
      have hf : wr.frozen? ⟨O, k, none⟩ = false := HB.out.frozen k
      have HNB : Hid (Bk (wr.setCell ⟨O, k, none⟩ (.int .i64 (k : Int))) O 3 (iArr (fillL n (k + 1)))) := by
        show Bk _ _ _ _
        rw [← fillL_step n k hlt, ← iArr_set]
        exact HB.out.set_ k _
      have HNJ : Hid (J T [] (wr.setCell ⟨O, k, none⟩ (.int .i64 (k : Int)))) := HO.out _ _ _ _ HJ.out (((Out.refl _ _).setCell O k _).grow (fun r h => by rw [h]; exact hTO))
      clear HB HJ
      gi_wp2
      go_roundw
      case rel => exact ⟨k + 1, by omega, by go_num, HNB, HNJ⟩
      case measure => simp [intOf]; omega
    · obtain rfl : n = k := by omega
      have hkI : ¬ (n : Int) < (n : Int) := by omega
      rw [← HHD.out] at HB
      gi_wp2
      gi_loopw [5] (fun e wr => ∃ (k : Nat) (q : List Ro), k ≤ L.length ∧ e = .bool (decide (k < L.length)) ∧ Hid (q.map (·.2) = L.take k) ∧ Hid (J T q wr) ∧ Hid (k < L.length → Bk wr O 3 (iArr (L.getD k [])))) (fun e wr => if isT e = true then 1000000 - (encN (rdL wr O n)).toNat else 0)
      case atStart => exact ⟨0, [], Nat.zero_le _, by rw [decide_eq_true HN0], rfl, HJ, fun _ => HB.out⟩
      case round =>
        obtain ⟨k, q, hk2, rfl, HQ, HJ2, HB2⟩ := hrel
        clear HB HJ
        by_cases hk3 : k < L.length
        · have hkb : decide (k < L.length) = true := decide_eq_true hk3
          rw [hkb]
          have hln := HMEM.out k hk3
          have HBK := Lib.hid (HB2.out hk3)
          have HNK := Lib.hid (HNX.out k hk3)
          have HIK := Lib.hid (HINC.out k hk3)
          have HTKK := Lib.hid (HTK.out k hk3)
          have HMS : Hid ((1000000 - (encN (rdL wr O n)).toNat : Nat) = 1000000 - (encN (L.getD k [])).toNat) := by
            show _ = _
            rw [← hln, rdL_bk HBK.out]
          obtain ⟨o, ho⟩ : ∃ o, L.getD k [] = o := ⟨_, rfl⟩
          rw [ho] at hln HBK HNK HIK HTKK HMS
          have HRD := Lib.hid (rd_of_bk HBK.out hln)
          have hOl := HBK.out.lt
          gi_wp2_with fail
          refine ⟨trivial, ?_⟩
          refine (callsIn_wide.2 (clone_any _ n n o _ HRD.out (by omega))).mono ?_
          rintro e w3 ⟨⟨v, rfl, hov⟩, hb3⟩
          have HJ3 := HO.out _ _ _ _ HJ2.out (Out.of_below hb3)
          have HB3 := Lib.hid (HBK.out.later hb3)
          have hM3 : RoM b0 n T (v, o) w3 := ⟨by rw [← hln]; exact ownMono hov (by have := HBK.out.lt; omega), hln, fun g hg ht => by
            have h1 := (hov.lt g hg).1
            have h2 := hTO2 g ht
            omega⟩
          have hql : q.length < 720 := by
            have h1 := congrArg List.length HQ.out
            rw [List.length_map, List.length_take] at h1
            omega
          obtain ⟨fn, tmps, assign, body, hy, hR⟩ := HY.out T q (v, o) w3 HJ3 hM3 hql
          have HRB := Lib.hid hR
          have HOV := Lib.hid hov
          clear hR hov hM3 HJ3 hb3 HJ2 HB2
          dsimp only at hy
          gi_wp2_with fail
          refine HRB.out.mono ?_
          rintro e W4 ⟨rfl, hJ4, hT4⟩
          have HB4 : Hid (Bk W4 O 3 (iArr o)) := (hT4 O hTO).trans HB3.out
          have HJ4 := Lib.hid hJ4
          clear hJ4 hT4 HRB
          gi_wp2_with fail
          refine ⟨trivial, ?_⟩
          refine (callsIn_wide.2 (advance_any O n n o W4 HB4.out hln (by omega) (Nat.le_refl _))).mono ?_
          rintro e w5 ⟨rfl, hb5, ho5⟩
          have HB5 := Lib.hid hb5
          have HJ5 := Lib.hid (HO.out _ _ _ _ HJ4.out (ho5.grow (fun r h => by rw [h]; exact hTO)))
          clear hb5 ho5
          gi_wp2
          have hq2 : (q ++ [((v, o) : Ro)]).map (·.2) = L.take (k + 1) := by rw [List.map_append, HQ.out, HTKK.out]; rfl
          by_cases hlast : k + 1 < L.length
          · have ha : adv o = some (L.getD (k + 1) []) := by rw [HNK.out, if_pos hlast]
            have hb := HB5.out
            rw [ha, Option.getD_some] at hb
            have hl5 := HMEM.out (k + 1) hlast
            have hi5 := HINC.out (k + 1) hlast
            have hik := HIK.out
            refine ⟨⟨k + 1, q ++ [(v, o)], by omega, by rw [ha, decide_eq_true hlast]; rfl, hq2, HJ5, fun _ => hb⟩, ?_⟩
            rw [ha]
            have e5 : rdL w5 O n = L.getD (k + 1) [] := by rw [← hl5]; exact rdL_bk hb
            rw [e5]
            show (1000000 - (encN (L.getD (k + 1) [])).toNat) < (1000000 - (encN (rdL wr O n)).toNat)
            rw [HMS.out]
            have h6 := hik.2.2 hlast
            omega
          · have ha : adv o = none := by rw [HNK.out, if_neg hlast]
            refine ⟨⟨k + 1, q ++ [(v, o)], by omega, by rw [ha, decide_eq_false hlast]; rfl, hq2, HJ5, fun h => absurd h hlast⟩, ?_⟩
            rw [ha]
            show 0 < (1000000 - (encN (rdL wr O n)).toNat)
            rw [HMS.out]
            have hik := HIK.out
            omega
        · have hkb : decide (k < L.length) = false := decide_eq_false hk3
          obtain rfl : L.length = k := by omega
          rw [hkb]
          gi_wp2
          go_end0
          exact ⟨⟨_, rfl⟩, T, q, by rw [HQ.out, HLAST.out], HJ2.out⟩

end Go.Proofs.Ytccoflhoggpgoaa

namespace Go.Proofs.Ytccoflhoggpgoaa
open Go.RowKit

open Go.Shelf
attribute [local go_sem] Oper.semAt_some

theorem slInfo : (Try.prog.info? 43).map (fun i => (i.zero, i.size, i.bytes)) = some (some (.slice none 0 0), 1, 24) := by kernel_rfl
/-- An own row is kept if its block is. -/
theorem own_same {w w' : World} {base : Nat} {e : TypeId} {size : Nat} {v : Value} {n : Nat} {xs : List Value} (h : w.ownsRow base e size v n xs) (hb : ∀ g, v.ownBlock = some g → w'.heap[g]? = w.heap[g]?) : w'.ownsRow base e size v n xs := by
  refine ⟨h.1, ?_⟩
  rcases h.2 with h0 | ⟨g, cap, cur, rfl, h2, h3, h4⟩
  · exact .inl h0
  · exact .inr ⟨g, cap, cur, rfl, h2, (hb g rfl).trans h3, h4⟩
theorem bk_apart {w : World} {base : Nat} {v : Value} {n : Nat} {xs : List Value} {t : TypeId} {g : Nat} {cs : Array Value} {e : TypeId} (h : w.ownsRow base e 1 v n xs) (hk : Bk w g t cs) (hne : t ≠ e) : v.ownBlock ≠ some g := by
  rcases h.2 with ⟨rfl, _⟩ | ⟨g', cap', cur', rfl, _, hg', _⟩
  · simp [Value.ownBlock]
  · simp only [Value.ownBlock]
    intro e'
    injection e' with e'
    subst e'
    rw [hk.heap] at hg'
    injection hg' with h1
    injection h1 with _ h2
    exact hne h2

/-- What the loop that collects keeps. -/
structure ColI (w wL : World) (b0 n : Nat) (T : Nat → Prop) (pre : List Ro) (W : World) : Prop where
  row : ∃ v, Bk W w.heap.size 95 #[v] ∧ W.ownsRow w.heap.size 43 1 v pre.length (pre.map (·.1)) ∧ ∀ g, v.ownBlock = some g → ¬ T g
  ros : ∀ x ∈ pre, RoM b0 n T x W
  tin : ∀ r, T r → w.heap.size < r ∧ r < W.heap.size
  bel : Below w.heap.size w W
  size : wL.heap.size ≤ W.heap.size
theorem RoM.same {b0 n : Nat} {T : Nat → Prop} {x : Ro} {A B : World} (h : RoM b0 n T x A) (hb : ∀ g, x.1.ownBlock = some g → B.heap[g]? = A.heap[g]?) : RoM b0 n T x B := ⟨own_same h.1 hb, h.2⟩
theorem RoM.obj {b0 n : Nat} {T : Nat → Prop} {x : Ro} {A : World} {l : Nat} {o o' : Obj} (h : RoM b0 n T x A) (hl : A.heap[l]? = some o) (ho : o.isCells = false) : RoM b0 n T x (A.putObj l o') := ⟨ownsRow_putObj h.1 o' hl ho, h.2⟩
theorem Bk.obj {A : World} {g l : Nat} {t : TypeId} {cs : Array Value} {o o' : Obj} (h : Bk A g t cs) (hl : A.heap[l]? = some o) (ho : o.isCells = false) : Bk (A.putObj l o') g t cs := by
  have hne : g ≠ l := by rintro rfl; rw [h.heap] at hl; cases hl; cases ho
  exact (World.putObj_heap_other hne).trans h
theorem below_obj {B : Nat} {A : World} {l : Nat} {o' : Obj} (h : B ≤ l) : Below B A (A.putObj l o') := ⟨rfl, rfl, rfl, by simp, fun k hk => World.putObj_heap_other (by omega)⟩
theorem ColI.out {w wL : World} {b0 n : Nat} {T : Nat → Prop} {pre : List Ro} {A B : World} (h : ColI w wL b0 n T pre A) (ho : Out T A B) : ColI w wL b0 n T pre B := by
  obtain ⟨v, hk, hr, ht⟩ := h.row
  refine ⟨⟨v, ?_, own_same hr (fun g hg => ho.block g (hr.lt g hg).2 (ht g hg)), ht⟩, fun x hx => (h.ros x hx).same (fun g hg => ho.block g ((h.ros x hx).1.lt g hg).2 ((h.ros x hx).2.2 g hg)), fun r hr => ⟨(h.tin r hr).1, Nat.lt_of_lt_of_le (h.tin r hr).2 ho.size⟩, ?_, Nat.le_trans h.size ho.size⟩
  · exact (ho.block _ hk.lt (fun ht => by have := (h.tin _ ht).1; omega)).trans hk
  · exact ⟨ho.os.trans h.bel.os, ho.tape.trans h.bel.tape, ho.output.trans h.bel.output, Nat.le_trans h.bel.size ho.size, fun k hk => (ho.block k (Nat.lt_of_lt_of_le hk h.bel.size) (fun ht => by have := (h.tin _ ht).1; omega)).trans (h.bel.block k hk)⟩
theorem ColI.new {w wL : World} {b0 n : Nat} {T : Nat → Prop} {pre : List Ro} {A : World} (h : ColI w wL b0 n T pre A) (hb : w.heap.size < A.heap.size) (o : Obj) : ColI w wL b0 n (fun r => T r ∨ r = A.heap.size) pre (A.alloc o) := by
  have h2 := h.out (Out.of_below ((Below.refl A.heap.size A).alloc (Nat.le_refl _) o))
  obtain ⟨v, hk, hr, ht⟩ := h.row
  obtain ⟨v2, hk2, hr2, ht2⟩ := h2.row
  have hv : v2 = v := by
    have e1 := hk2.cell 0
    have e2 := (hk.alloc o).cell 0
    rw [e1] at e2
    simpa using e2
  subst hv
  refine ⟨⟨v2, hk2, hr2, fun g hg => ?_⟩, fun x hx => ⟨(h2.ros x hx).1, (h2.ros x hx).2.1, fun g hg => ?_⟩, ?_, h2.bel, h2.size⟩
  · rintro (h3 | h3)
    · exact ht g hg h3
    · have := (hr.lt g hg).2; omega
  · rintro (h3 | h3)
    · exact (h.ros x hx).2.2 g hg h3
    · have := ((h.ros x hx).1.lt g hg).2; omega
  · rintro r (h3 | h3)
    · have := h.tin r h3; simp; omega
    · subst h3; simp; omega
theorem ColI.obj {w wL : World} {b0 n : Nat} {T : Nat → Prop} {pre : List Ro} {A : World} {l : Nat} {o o' : Obj} (h : ColI w wL b0 n T pre A) (hw : w.heap.size ≤ l) (hl : A.heap[l]? = some o) (ho : o.isCells = false) : ColI w wL b0 n T pre (A.putObj l o') := by
  obtain ⟨v, hk, hr, ht⟩ := h.row
  exact ⟨⟨v, hk.obj hl ho, ownsRow_putObj hr o' hl ho, ht⟩, fun x hx => (h.ros x hx).obj hl ho, fun r hr => ⟨(h.tin r hr).1, by simpa using (h.tin r hr).2⟩, h.bel.trans (below_obj hw), by simpa using h.size⟩

end Go.Proofs.Ytccoflhoggpgoaa

namespace Go.Proofs.Ytccoflhoggpgoaa
open Go.RowKit

open Go.Shelf
attribute [local go_sem] Oper.semAt_some

/-- Rows of n numbers each, and what lies behind them. -/
def RdRows (w : World) (A : Option Addr) (N : Nat) (L : List (List Int)) (n : Nat) : Prop :=
  L.length = N ∧ (0 < N → ∃ ad, A = some ad ∧ ad.block < w.heap.size ∧ ∀ j, j < N → ∃ B c, w.cell? (ad.add j) = some (.slice B n c) ∧ n ≤ c ∧ RdI w B n (L.getD j []) ∧ (B = none → n = 0 ∧ c = 0))
theorem RdRows.below {w w' : World} {A : Option Addr} {N n : Nat} {L : List (List Int)} (h : RdRows w A N L n) (hb : Below w.heap.size w w') : RdRows w' A N L n := by
  refine ⟨h.1, fun hn => ?_⟩
  obtain ⟨ad, e, hlt, hc⟩ := h.2 hn
  refine ⟨ad, e, Nat.lt_of_lt_of_le hlt hb.size, fun j hj => ?_⟩
  obtain ⟨B, c, h1, h2, h3, h4⟩ := hc j hj
  exact ⟨B, c, (hb.cell (by rw [addBlock]; exact hlt)).trans h1, h2, h3.below hb, h4⟩
theorem RdI.obj {A : World} {B : Option Addr} {n l : Nat} {xs : List Int} {o o' : Obj} (h : RdI A B n xs) (hl : A.heap[l]? = some o) (ho : o.isCells = false) : RdI (A.putObj l o') B n xs := by
  refine ⟨h.1, fun hn => ?_⟩
  obtain ⟨ad, e, hlt, hc⟩ := h.2 hn
  refine ⟨ad, e, by simpa using hlt, fun j hj => ?_⟩
  exact cell_kept (hc j hj) (grownBy_putObj' A l o') (fun r e => by cases e; exact ⟨_, hl, ho⟩)
theorem RdRows.obj {A : World} {B : Option Addr} {N n l : Nat} {L : List (List Int)} {o o' : Obj} (h : RdRows A B N L n) (hl : A.heap[l]? = some o) (ho : o.isCells = false) : RdRows (A.putObj l o') B N L n := by
  refine ⟨h.1, fun hn => ?_⟩
  obtain ⟨ad, e, hlt, hc⟩ := h.2 hn
  refine ⟨ad, e, by simpa using hlt, fun j hj => ?_⟩
  obtain ⟨B', c, h1, h2, h3, h4⟩ := hc j hj
  exact ⟨B', c, cell_kept h1 (grownBy_putObj' A l o') (fun r e => by cases e; exact ⟨_, hl, ho⟩), h2, h3.obj hl ho, h4⟩
theorem rows_of {w : World} {base b0 n : Nat} {v : Value} {pre : List Ro} {T : Nat → Prop} {L : List (List Int)} (h : w.ownsRow base 43 1 v pre.length (pre.map (·.1))) (hr : ∀ x ∈ pre, RoM b0 n T x w) (hL : pre.map (·.2) = L) : ∃ A c, v = .slice A L.length c ∧ RdRows w A L.length L n := by
  have hlen : pre.length = L.length := by rw [← hL, List.length_map]
  rw [hlen] at h
  rcases h.2 with ⟨rfl, h0⟩ | ⟨g, cap, cur, rfl, _, hh, hnc, _, _, htk⟩
  · exact ⟨none, 0, by rw [h0], rfl, fun h1 => absurd h1 (by omega)⟩
  · refine ⟨_, cap, rfl, rfl, fun _ => ⟨_, rfl, ?_, fun j hj => ?_⟩⟩
    · have : Bk w g 43 cur := hh
      exact this.lt
    · have hj2 : j < pre.length := by omega
      have hx := hr pre[j] (List.getElem_mem _)
      obtain ⟨B, c, hv, hc, hrd, hB⟩ := rd_ownN hx.1
      refine ⟨B, c, ?_, hc, ?_, hB⟩
      · rw [addOff, cell_of_row w g j cur 43 (0, 0) hh, ← Array.getElem?_toList]
        have e1 : (cur.toList.take (L.length * 1))[j]? = (pre.map (·.1))[j]? := by rw [htk]
        rw [List.getElem?_take, if_pos (by omega)] at e1
        rw [e1, List.getElem?_map, List.getElem?_eq_getElem hj2, ← hv]
        rfl
      · have e2 : L.getD j [] = (pre[j]).2 := by
          rw [← hL, List.getD_eq_getElem?_getD, List.getElem?_map, List.getElem?_eq_getElem hj2]
          rfl
        rw [e2]
        exact hrd

theorem wpListIn_append_own_at {F : Fence} {n : Nat} {P : Program} (w : World) {ops : Array Oper} {rest : List Oper} {o : Oper} {a : Act} {Q : Exit → Act → World → Prop}
    (hg : o.guard = none) (s x : Operand) (t : TypeId) (hop : o.op = Op.call { callee := Callee.builtin Builtin.append, args := #[s, x], argTypes := #[t, t] })
    (base : Nat) (e : TypeId) (i : TypeInfo) (z : Value) (size bytes : Nat) (h1 : P.underlying t = some (.slice e)) (h2 : P.info? e = some i) (h3 : i.zero = some z) (h4 : i.size = size) (h5 : i.bytes = bytes) (h6 : z.cells.size = size) (h7 : 0 < size)
    (v : Value) (k : Nat) (xs : List Value) (hs : a.eval s = v) (hown : w.ownsRow base e size v k xs) (ad : Addr) (m c : Nat) (news : List Value) (hx : a.eval x = .slice (some ad) m c) (hn : news.length = m * size)
    (hc : ∀ j u, news[j]? = some u → w.cell? (ad.add j) = some u) (h1c : ∀ u ∈ news, u.oneCell' = true) (b1 : k + m ≤ maxLen) (b2 : (k + m) * bytes ≤ 140737488355328) (b3 : base ≤ w.heap.size)
    (hK : ∀ v' w', w'.ownsRow base e size v' (k + m) (xs ++ news) → w.grownBy w' v.ownBlock → (v'.ownBlock = v.ownBlock ∨ v'.ownBlock = some w.heap.size) → wpListIn F n P ops Q rest (a.put o.dst v') w') :
    wpListIn F n P ops Q (o :: rest) a w := by
  refine wpListIn_plain hg fun K hK' => ?_
  obtain ⟨v', w', hrun, r1, r2, r3, r4⟩ := run_append_own_at (P := P) w base t o.type e i z size bytes h1 h2 h3 h4 h5 h6 h7 v k xs hown ad m c news hn hc h1c b1 b2 b3
  unfold Oper.wpIn
  refine ⟨?_, ?_⟩
  · simp [Oper.about, hop, resolve, Target.leads, Sem.run_pure]
  · rw [Oper.semAt_plain F _ _ (by rw [hop]; intro c hc'; cases hc')]
    simp [execOp, hop, resolve, invoke, builtin, hs, hx, hrun, Result.andThen]
    exact hK' _ _ (hK v' w' r1 r2 r4)

set_option maxRecDepth 100000 in
set_option maxHeartbeats 4000000 in
theorem appendSeq_any (gx n : Nat) (hn : n < 7) (w : World) (hgx : w.cell? ⟨gx, 0, none⟩ = some (.int .i64 n)) (hgl : gx < w.heap.size) :
    Calls Try.prog 141 #[.slice none 0 0, .func (.func 142) #[] #[.pointer (some ⟨gx, 0, none⟩)]] w fun e w' => (∃ A c, e = .returned (.slice A (ords n).length c) ∧ RdRows w' A (ords n).length (ords n) n) ∧ Below w.heap.size w w' := by
  obtain ⟨i0, hi0, hz0, hz1, hz2⟩ := info_parts slInfo
  have HGX := Lib.hid hgx
  have HL7 := (ords_len n hn).1
  clear hgx
  refine (callsIn_wide (n := 6)).1 ?_
  refine callsIn_of_wp_marks Try.func141 rfl trivial ?_ rfl
  simp only [Try.ntmps141, List.size_toArray, List.length_cons, List.length_nil, Nat.reduceAdd, Nat.reduceSub, Array.replicate_succ, Array.replicate_zero, List.push_toArray, List.append_toArray, List.nil_append, List.cons_append]
  gi_wp2_with fail
  obtain ⟨wL, hwL⟩ : ∃ wL, w.alloc (.cells #[.slice none 0 0] 95) = wL := ⟨_, rfl⟩
  have hKL : Bk wL w.heap.size 95 #[.slice none 0 0] := by rw [← hwL]; exact Bk.new _ _ _
  have hBL : Below w.heap.size w wL := by rw [← hwL]; exact (Below.refl _ _).alloc (Nat.le_refl _) _
  have hsL : wL.heap.size = w.heap.size + 1 := by rw [← hwL]; simp
  have hgL : wL.cell? ⟨gx, 0, none⟩ = some (.int .i64 n) := (hBL.cell (p := ⟨gx, 0, none⟩) hgl).trans HGX.out
  rw [hwL]
  clear hwL
  refine wpIn_rangeFunc_runsM (α := Ro) rfl (by omega) (gf := 142) rfl trivial (enters_of Try.func142 (by kernel_rfl) rfl)
    (orders1_runs _ (by omega) gx w.heap.size n hn wL hgL (by omega) (by omega)) (Below.refl _ _) (fun _ => rfl)
    (fun T x A l o o' h hl ho => h.obj hl ho)
    (fun T pre W => ColI w wL w.heap.size n T pre W ∧ w.heap.size < W.heap.size)
    (fun T s A h r hr => (h.1.tin r hr).2)
    (fun T s A o h => ⟨h.1.new h.2 o, by have := h.2; simp; omega⟩)
    (fun T s A B h ho => ⟨h.1.out ho, Nat.lt_of_lt_of_le h.2 ho.size⟩)
    (fun T s A l o o' h hl hh hc => ⟨h.1.obj (by omega) hh hc, by simpa using h.2⟩)
    ⟨⟨⟨_, hKL, World.ownsRow_nil _ _ _ _, fun g hg => by simp [Value.ownBlock] at hg⟩, fun x hx => absurd hx (by simp), fun r hr => hr.elim, hBL, Nat.le_refl _⟩, by omega⟩
    (fun x => { tmps := #[.slice none 0 0, .func (.func 142) #[] #[.pointer (some ⟨gx, 0, none⟩)], .pointer (some ⟨w.heap.size, 0, none⟩), undef, .slice none 0 0, x.1, .func (.func 142) #[] #[.pointer (some ⟨gx, 0, none⟩)], x.1, undef, undef, undef, undef, undef], defers := [] }) ?assign ?body ?done
  case assign =>
    intro l x W K hK
    simp only [List.setIfInBounds_toArray, List.set_cons_zero, List.set_cons_succ]
    gi_wp2
    exact hK
  case done =>
    rintro D T ys W hD hys hI hK
    obtain ⟨v, hk, hr, ht⟩ := hI.1.row
    obtain ⟨A, c, hv, hrr⟩ := rows_of hr hI.1.ros hys
    subst hv
    have hc := (bk1 hk).1
    have HRR := Lib.hid hrr
    have HI := Lib.hid hI
    clear hk hr ht hrr hI
    gi_wp2
    refine ⟨by simp, .inl ⟨_, _, rfl, run_takeDeferred hK, ?_⟩⟩
    exact ⟨_, results_tmp rfl _ _ _, ⟨A, c, rfl, HRR.out.obj hK rfl⟩, HI.out.1.bel.trans (below_obj (by omega))⟩
  case body =>
    rintro l T pre x W hI hM hlen
    obtain ⟨v, hk, hr, ht⟩ := hI.1.row
    have HV : Hid (Boxed W w.heap.size 95 v) := hk
    have HR := Lib.hid hr
    have HT := Lib.hid ht
    have HI := Lib.hid hI.1
    have HM := Lib.hid hM
    have hlW := hI.2
    obtain ⟨xv, xl⟩ := x
    dsimp only
    have hvf : (∃ g c, v = .slice (some ⟨g, 0, none⟩) pre.length c) ∨ (v = .slice none 0 0 ∧ pre.length = 0) := by
      rcases hr.2 with ⟨h1, h2⟩ | ⟨g, c, cur, h1, _⟩
      · exact .inr ⟨h1, h2⟩
      · exact .inl ⟨g, c, h1⟩
    have hvc := HV.out.cell
    obtain ⟨xB, xc, hxv, _, _, _⟩ := rd_ownN hM.1
    dsimp only at hxv
    subst hxv
    clear hk hr ht hI hM hvf
    gi_wp2_with (gi_at_builtin; refine wpListIn_append_own_at _ rfl (.tmp 8) (.tmp 10) 95 rfl w.heap.size 43 i0 _ 1 24 Try.underlying95 hi0 hz0 hz1 hz2 rfl (by decide) _ _ _ rfl (HR.out.alloc _) ⟨W.heap.size, 0, none⟩ 1 1 [_] rfl rfl (cell_one_new _ _ _) (by intro z hz; simp only [List.mem_singleton] at hz; subst hz; rfl) (by unfold maxLen; omega) (by omega) (by simp; omega) ?_)
    intro v' w1 hown' hgrow hat
    obtain ⟨g', cap', rfl⟩ := ownsRow_succ hown'
    obtain ⟨e1, e2, e3, e4, e5⟩ := Boxed.appended HV.out (by decide) HR.out (by omega) (Nat.le_refl _) hown' hgrow
    have hlt1 := e1.lt
    have hc1 := e1.cell
    have hf1 := e1.frozen
    have hsz1 : W.heap.size < w1.heap.size := by have := hgrow.size; simp at this; omega
    have hgT : ¬ T g' := by
      intro hTg
      have hlt := (HI.out.tin g' hTg)
      rcases hat with h | h
      · exact HT.out g' (h.symm.trans rfl) hTg
      · have h2 : (some g' : Option Nat) = some (W.heap.size + 1) := by simpa [Value.ownBlock] using h
        injection h2 with h2
        omega
    have HGT := Lib.hid hgT
    clear hat hgT
    have HE2 : Hid (Boxed (w1.setCell ⟨w.heap.size, 0, none⟩ (.slice (some ⟨g', 0, none⟩) (pre.length + 1) cap')) w.heap.size 95 (.slice (some ⟨g', 0, none⟩) (pre.length + 1) cap')) := e2
    have HE3 := Lib.hid e3
    have HE4 := Lib.hid e4
    have HE5 := Lib.hid e5
    have HG := Lib.hid hgrow
    have HOW := Lib.hid hown'
    clear e1 e2 e3 e4 e5 hgrow hown'
    gi_wp2
    have hst : ∀ r, r < W.heap.size → r ≠ w.heap.size → v.ownBlock ≠ some r → (w1.setCell ⟨w.heap.size, 0, none⟩ (.slice (some ⟨g', 0, none⟩) (pre.length + 1) cap')).heap[r]? = W.heap[r]? := by
      intro r h1 h2 h3
      refine (Below.heap_setCell _ _ _ _ (by simpa using h2)).trans ((HG.out.block r (by simp; omega) (fun e => h3 e.symm)).trans ?_)
      exact Below.heap_alloc _ _ _ h1
    have hapart : ∀ x : Ro, RoM w.heap.size n T x W → ∀ g, x.1.ownBlock = some g → g < W.heap.size ∧ g ≠ w.heap.size ∧ v.ownBlock ≠ some g := by
      intro x hx g hg
      refine ⟨(hx.1.lt g hg).2, ?_, ?_⟩
      · rintro rfl
        exact bk_apart hx.1 HV.out (by decide) hg
      · intro e
        rcases HR.out.2 with ⟨h1, _⟩ | ⟨g2, c2, cur2, h1, _, h3, _⟩
        · rw [h1] at e; simp [Value.ownBlock] at e
        · rw [h1] at e
          have e2 : g2 = g := by simpa [Value.ownBlock] using e
          subst e2
          exact bk_apart hx.1 h3 (by decide) hg
    refine ⟨HE4.out, fun r hr => hst r (HI.out.tin r hr).2 (by have := (HI.out.tin r hr).1; omega) (fun e => HT.out r e hr), ⟨⟨_, HE2.out, ?_, ?_⟩, ?_, ?_, HI.out.bel.trans HE5.out, ?_⟩, ?_⟩
    · rw [List.length_append, List.map_append]; exact HE3.out
    · intro g hg
      have : g' = g := by simpa [Value.ownBlock] using hg
      exact this ▸ HGT.out
    · intro y hy
      rcases List.mem_append.1 hy with h | h
      · exact (HI.out.ros y h).same fun g hg => (fun h3 => hst g h3.1 h3.2.1 h3.2.2) (hapart y (HI.out.ros y h) g hg)
      · rw [List.mem_singleton] at h
        subst h
        exact HM.out.same fun g hg => (fun h3 => hst g h3.1 h3.2.1 h3.2.2) (hapart _ HM.out g hg)
    · intro r hr
      have := HI.out.tin r hr
      refine ⟨this.1, ?_⟩
      simp
      omega
    · have := HI.out.size
      simp
      omega
    · simp
      omega

end Go.Proofs.Ytccoflhoggpgoaa

