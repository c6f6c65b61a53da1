import Derived.Test.YtkemoffagdilgaaGreatDoorW50
import Derived.Test.YtkemoffagdilgaaGreatDoorUA
import Derived.StillTailTactics
namespace Go.Proofs.YtkemoffagdilgaaGreatDoor
open Go.RowKit

theorem results_cell_tmp {P : Program} {fn : Func} {p q : Tmp} {ty : TypeId} (h : fn.results = #[.cell p ty, .tmp q]) (tmps : Array Value) (w : World) (g : Nat) (t : TypeId) (cs : Array Value) (fr : Nat × Nat) (d : TypeDesc)
    (hp : tmps.getD p undef = .pointer (some ⟨g, 0, none⟩)) (hg : w.heap[g]? = some (.cells cs t fr))
    (hu : P.underlying ty = some d) (hd : (match d with | .struct _ | .array _ _ => true | _ => false) = true) (hi : (P.info? ty).map (·.size) = some cs.size) :
    (results fn tmps).run P w = .ok (.tuple #[.agg cs, tmps.getD q undef]) w := by
  have hp' : tmps[p]?.getD undef = .pointer (some ⟨g, 0, none⟩) := by simpa using hp
  simp [results, h, hp', asAddr, run_loadVar_row w g t ty cs fr d hg hu hd hi]

theorem is8_iArr (xs : List Int) (h : xs.length = 8) : Is8 (iArr xs) xs := ⟨by rw [iArr_size, h], h, fun j hj => iArr_at xs j (by omega)⟩
theorem zero8_iArr : zero8 = iArr [0, 0, 0, 0, 0, 0, 0, 0] := rfl

theorem add_add' (a : Addr) (m n : Nat) : (a.add m).add n = a.add (m + n) := by
  unfold Addr.add
  by_cases hm : m = 0
  · subst hm; simp
  · by_cases hn : n = 0
    · subst hn; simp
    · rw [if_neg hm, if_neg hn, if_neg (by omega)]
      simp [Nat.add_assoc]

/-- The address of a part of a slice. -/
def cutA (a : Option Addr) (lo c : Nat) : Option Addr := if c = lo then a else a.map (·.add (lo * 1))
theorem intElem : Tryz.prog.elem 40 = 3 := by kernel_rfl
theorem intsUnder' : Tryz.prog.underlying 40 = some (.slice (Tryz.prog.elem 40)) := by kernel_rfl
theorem sizeOfInt (W : World) : (sizeOf 3).run Tryz.prog W = .ok 1 W := by kernel_rfl
theorem cut_run (a : Option Addr) (n c lo hi m d : Nat) (l h : Int) (hl : l = lo) (hh : h = hi) (h1 : lo ≤ hi) (h2 : hi ≤ c) (hm : hi - lo = m) (hd : c - lo = d) (W : World) :
    (Instr.slice 40 (.slice a n c) (some (.int .i64 l)) (some (.int .i64 h)) none).run Tryz.prog W = .ok (.slice (cutA a lo c) m d) W := by
  have := run_slice_lh (P := Tryz.prog) (w := W) 40 a n c intsUnder' .i64 .i64 l h (by omega) (by omega) (by omega)
  rw [this, intElem, sizeOfInt, ← hm, ← hd, hl, hh]
  rfl
theorem cutTo_run (a : Option Addr) (n c hi : Nat) (h : Int) (hh : h = hi) (h2 : hi ≤ c) (W : World) :
    (Instr.slice 40 (.slice a n c) none (some (.int .i64 h)) none).run Tryz.prog W = .ok (.slice (cutA a 0 c) hi c) W := by
  have := run_slice_h (P := Tryz.prog) (w := W) 40 a n c intsUnder' .i64 h (by omega) (by omega)
  rw [this, intElem, sizeOfInt, hh]
  rfl
theorem cutFrom_run (a : Option Addr) (n c lo m d : Nat) (l : Int) (hl : l = lo) (h1 : lo ≤ n) (hm : n - lo = m) (hd : c - lo = d) (W : World) :
    (Instr.slice 40 (.slice a n c) (some (.int .i64 l)) none none).run Tryz.prog W = .ok (.slice (cutA a lo c) m d) W := by
  have := run_slice_l (P := Tryz.prog) (w := W) 40 a n c intsUnder' .i64 l (by omega) (by omega)
  rw [this, intElem, sizeOfInt, ← hm, ← hd, hl]
  rfl
theorem RdI.cut {w : World} {a : Option Addr} {n : Nat} {xs : List Int} (h : RdI w a n xs) (lo c m : Nat) (h1 : lo + m ≤ n) (h2 : n ≤ c) : RdI w (cutA a lo c) m ((xs.drop lo).take m) := by
  have hl := h.1
  refine ⟨by rw [List.length_take, List.length_drop]; omega, fun hm => ?_⟩
  obtain ⟨ad, rfl, hb, hc⟩ := h.2 (by omega)
  refine ⟨ad.add (lo * 1), ?_, by rw [addBlock]; exact hb, fun j hj => ?_⟩
  · unfold cutA; rw [if_neg (by omega)]; rfl
  · rw [add_add', hc (lo * 1 + j) (by omega)]
    congr 2
    simp only [List.getD_eq_getElem?_getD, List.getElem?_take, List.getElem?_drop]
    rw [if_pos hj, Nat.mul_one]

end Go.Proofs.YtkemoffagdilgaaGreatDoor
