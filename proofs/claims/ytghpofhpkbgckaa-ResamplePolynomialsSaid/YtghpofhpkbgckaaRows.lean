/-
  No cell of these rows narrows 'for every input' (looked for: loops, veiled, ifaces, maps, wideKeys, modest, calm, conditions, laid).
  DERIVED. THE GIVEN ROWS OF THIS SEAT. 10 by the template 'for every input the law returns true; each argument reads behind the call as it read before'; 0 by the template 'total and deterministic' (their statements: YtghpofhpkbgckaaTotals.lean).
  GIVEN WITH THE SEED: the statements are not yours to turn. If you find one false, say at which input.
  Laid BY PROGRAM, IN A SANDBOX (cutbox-rows.mjs): the forced cells as the released guide's own fill.sh prints them over the translation 2ec461aba5fb48ae… (all of the seat's roots in one cut). By AI agents, Wed Nov 11 2026. No macro, syntax, notation, axiom, sorry.
-/
import Derived.Test.YtghpofhpkbgckaaChecked
import GoSem.Claim
import GoSem.ClaimJoined
import GoSem.ClaimMapViews
import Derived.JoinedTies
import Derived.KernelRfl
namespace Go.Proofs.Ytghpofhpkbgckaa
/- THE CELL 'sum', in the pinned program and in every row, IS THE sha256 OF THE DUMP (.gsa) THAT YtghpofhpkbgckaaProg.lean LOADS. Nothing in Lean hashes anything: it is a label: what it is worth is what the hold of that sum in a sandbox is worth. -/
noncomputable def Try.pinned : Pinned := { name := "ytghpofhpkbgckaa", sum := "2ec461aba5fb48ae655ad97381b3177559292012b84203c6988d1193d9699603", checked := Try.checked }
namespace Rows
def none {H : Type} : Left H := { results := [], args := [] }

/-- 'lacquerlaw04.ResampleRemainders': WHATEVER THE INPUT: true; the input reads as it did. -/
def resampleRemaindersSpec : ChangeSpec := { name := "resampleRemainders", fn := fun _ => fun
  | [d1, d2, d3] => { results := [.lit (.bool true)], args := [d1, d2, d3] }
  | _ => none }
def resampleRemaindersRow : OpenClaim := { program := "ytghpofhpkbgckaa", sum := "2ec461aba5fb48ae655ad97381b3177559292012b84203c6988d1193d9699603", func := "lacquer/lacquerlaw04.ResampleRemainders", spec := "resampleRemainders", unfollowed := true, recurses := true, apart := false }
def ResampleRemaindersSaid : Prop := resampleRemaindersRow.holds Try.pinned (OpenSpec.ofChange resampleRemaindersSpec)

/-- ITS FALSE NEIGHBOUR: 'it returns false'. Refute it at one input. -/
def resampleRemaindersWrong : ChangeSpec := { name := "resampleRemainders", fn := fun _ => fun
  | [d1, d2, d3] => { results := [.lit (.bool false)], args := [d1, d2, d3] }
  | _ => none }
def ResampleRemaindersWrongFalsely : Prop := resampleRemaindersRow.holds Try.pinned (OpenSpec.ofChange resampleRemaindersWrong)

/-- 'lacquerlaw04.ResampleFilters': WHATEVER THE INPUT: true; the input reads as it did. -/
def resampleFiltersSpec : ChangeSpec := { name := "resampleFilters", fn := fun _ => fun
  | [d1, d2] => { results := [.lit (.bool true)], args := [d1, d2] }
  | _ => none }
def resampleFiltersRow : OpenClaim := { program := "ytghpofhpkbgckaa", sum := "2ec461aba5fb48ae655ad97381b3177559292012b84203c6988d1193d9699603", func := "lacquer/lacquerlaw04.ResampleFilters", spec := "resampleFilters", unfollowed := true, recurses := true, apart := false }
def ResampleFiltersSaid : Prop := resampleFiltersRow.holds Try.pinned (OpenSpec.ofChange resampleFiltersSpec)

/-- ITS FALSE NEIGHBOUR: 'it returns false'. Refute it at one input. -/
def resampleFiltersWrong : ChangeSpec := { name := "resampleFilters", fn := fun _ => fun
  | [d1, d2] => { results := [.lit (.bool false)], args := [d1, d2] }
  | _ => none }
def ResampleFiltersWrongFalsely : Prop := resampleFiltersRow.holds Try.pinned (OpenSpec.ofChange resampleFiltersWrong)

/-- 'lacquerlaw04.ResampleMaxima': WHATEVER THE INPUT: true; the input reads as it did. -/
def resampleMaximaSpec : ChangeSpec := { name := "resampleMaxima", fn := fun _ => fun
  | [d1, d2] => { results := [.lit (.bool true)], args := [d1, d2] }
  | _ => none }
def resampleMaximaRow : OpenClaim := { program := "ytghpofhpkbgckaa", sum := "2ec461aba5fb48ae655ad97381b3177559292012b84203c6988d1193d9699603", func := "lacquer/lacquerlaw04.ResampleMaxima", spec := "resampleMaxima", unfollowed := true, recurses := true, apart := false }
def ResampleMaximaSaid : Prop := resampleMaximaRow.holds Try.pinned (OpenSpec.ofChange resampleMaximaSpec)

/-- ITS FALSE NEIGHBOUR: 'it returns false'. Refute it at one input. -/
def resampleMaximaWrong : ChangeSpec := { name := "resampleMaxima", fn := fun _ => fun
  | [d1, d2] => { results := [.lit (.bool false)], args := [d1, d2] }
  | _ => none }
def ResampleMaximaWrongFalsely : Prop := resampleMaximaRow.holds Try.pinned (OpenSpec.ofChange resampleMaximaWrong)

/-- 'lacquerlaw04.ResampleAttained': WHATEVER THE INPUT: true; the input reads as it did. -/
def resampleAttainedSpec : ChangeSpec := { name := "resampleAttained", fn := fun _ => fun
  | [d1, d2] => { results := [.lit (.bool true)], args := [d1, d2] }
  | _ => none }
def resampleAttainedRow : OpenClaim := { program := "ytghpofhpkbgckaa", sum := "2ec461aba5fb48ae655ad97381b3177559292012b84203c6988d1193d9699603", func := "lacquer/lacquerlaw04.ResampleAttained", spec := "resampleAttained", unfollowed := true, recurses := true, apart := false }
def ResampleAttainedSaid : Prop := resampleAttainedRow.holds Try.pinned (OpenSpec.ofChange resampleAttainedSpec)

/-- ITS FALSE NEIGHBOUR: 'it returns false'. Refute it at one input. -/
def resampleAttainedWrong : ChangeSpec := { name := "resampleAttained", fn := fun _ => fun
  | [d1, d2] => { results := [.lit (.bool false)], args := [d1, d2] }
  | _ => none }
def ResampleAttainedWrongFalsely : Prop := resampleAttainedRow.holds Try.pinned (OpenSpec.ofChange resampleAttainedWrong)

/-- 'lacquerlaw04.ResampleComposed': WHATEVER THE INPUT: true; the input reads as it did. -/
def resampleComposedSpec : ChangeSpec := { name := "resampleComposed", fn := fun _ => fun
  | [d1, d2, d3] => { results := [.lit (.bool true)], args := [d1, d2, d3] }
  | _ => none }
def resampleComposedRow : OpenClaim := { program := "ytghpofhpkbgckaa", sum := "2ec461aba5fb48ae655ad97381b3177559292012b84203c6988d1193d9699603", func := "lacquer/lacquerlaw04.ResampleComposed", spec := "resampleComposed", unfollowed := true, recurses := true, apart := false }
def ResampleComposedSaid : Prop := resampleComposedRow.holds Try.pinned (OpenSpec.ofChange resampleComposedSpec)

/-- ITS FALSE NEIGHBOUR: 'it returns false'. Refute it at one input. -/
def resampleComposedWrong : ChangeSpec := { name := "resampleComposed", fn := fun _ => fun
  | [d1, d2, d3] => { results := [.lit (.bool false)], args := [d1, d2, d3] }
  | _ => none }
def ResampleComposedWrongFalsely : Prop := resampleComposedRow.holds Try.pinned (OpenSpec.ofChange resampleComposedWrong)

/-- 'lacquerlaw04.ResampleEqualizes': WHATEVER THE INPUT: true; the input reads as it did. -/
def resampleEqualizesSpec : ChangeSpec := { name := "resampleEqualizes", fn := fun _ => fun
  | [d1, d2, d3] => { results := [.lit (.bool true)], args := [d1, d2, d3] }
  | _ => none }
def resampleEqualizesRow : OpenClaim := { program := "ytghpofhpkbgckaa", sum := "2ec461aba5fb48ae655ad97381b3177559292012b84203c6988d1193d9699603", func := "lacquer/lacquerlaw04.ResampleEqualizes", spec := "resampleEqualizes", unfollowed := true, recurses := true, apart := false }
def ResampleEqualizesSaid : Prop := resampleEqualizesRow.holds Try.pinned (OpenSpec.ofChange resampleEqualizesSpec)

/-- ITS FALSE NEIGHBOUR: 'it returns false'. Refute it at one input. -/
def resampleEqualizesWrong : ChangeSpec := { name := "resampleEqualizes", fn := fun _ => fun
  | [d1, d2, d3] => { results := [.lit (.bool false)], args := [d1, d2, d3] }
  | _ => none }
def ResampleEqualizesWrongFalsely : Prop := resampleEqualizesRow.holds Try.pinned (OpenSpec.ofChange resampleEqualizesWrong)

/-- 'lacquerlaw04.ResampleTakenBack': WHATEVER THE INPUT: true; the input reads as it did. -/
def resampleTakenBackSpec : ChangeSpec := { name := "resampleTakenBack", fn := fun _ => fun
  | [d1, d2, d3] => { results := [.lit (.bool true)], args := [d1, d2, d3] }
  | _ => none }
def resampleTakenBackRow : OpenClaim := { program := "ytghpofhpkbgckaa", sum := "2ec461aba5fb48ae655ad97381b3177559292012b84203c6988d1193d9699603", func := "lacquer/lacquerlaw04.ResampleTakenBack", spec := "resampleTakenBack", unfollowed := true, recurses := true, apart := false }
def ResampleTakenBackSaid : Prop := resampleTakenBackRow.holds Try.pinned (OpenSpec.ofChange resampleTakenBackSpec)

/-- ITS FALSE NEIGHBOUR: 'it returns false'. Refute it at one input. -/
def resampleTakenBackWrong : ChangeSpec := { name := "resampleTakenBack", fn := fun _ => fun
  | [d1, d2, d3] => { results := [.lit (.bool false)], args := [d1, d2, d3] }
  | _ => none }
def ResampleTakenBackWrongFalsely : Prop := resampleTakenBackRow.holds Try.pinned (OpenSpec.ofChange resampleTakenBackWrong)

/-- 'lacquerlaw04.ResampleBounded': WHATEVER THE INPUT: true; the input reads as it did. -/
def resampleBoundedSpec : ChangeSpec := { name := "resampleBounded", fn := fun _ => fun
  | [d1, d2] => { results := [.lit (.bool true)], args := [d1, d2] }
  | _ => none }
def resampleBoundedRow : OpenClaim := { program := "ytghpofhpkbgckaa", sum := "2ec461aba5fb48ae655ad97381b3177559292012b84203c6988d1193d9699603", func := "lacquer/lacquerlaw04.ResampleBounded", spec := "resampleBounded", unfollowed := true, recurses := true, apart := false }
def ResampleBoundedSaid : Prop := resampleBoundedRow.holds Try.pinned (OpenSpec.ofChange resampleBoundedSpec)

/-- ITS FALSE NEIGHBOUR: 'it returns false'. Refute it at one input. -/
def resampleBoundedWrong : ChangeSpec := { name := "resampleBounded", fn := fun _ => fun
  | [d1, d2] => { results := [.lit (.bool false)], args := [d1, d2] }
  | _ => none }
def ResampleBoundedWrongFalsely : Prop := resampleBoundedRow.holds Try.pinned (OpenSpec.ofChange resampleBoundedWrong)

/-- 'lacquerlaw04.ResamplePolynomials': WHATEVER THE INPUT: true; the input reads as it did. -/
def resamplePolynomialsSpec : ChangeSpec := { name := "resamplePolynomials", fn := fun _ => fun
  | [d] => { results := [.lit (.bool true)], args := [d] }
  | _ => none }
def resamplePolynomialsRow : OpenClaim := { program := "ytghpofhpkbgckaa", sum := "2ec461aba5fb48ae655ad97381b3177559292012b84203c6988d1193d9699603", func := "lacquer/lacquerlaw04.ResamplePolynomials", spec := "resamplePolynomials", unfollowed := true, recurses := true, apart := false }
def ResamplePolynomialsSaid : Prop := resamplePolynomialsRow.holds Try.pinned (OpenSpec.ofChange resamplePolynomialsSpec)

/-- ITS FALSE NEIGHBOUR: 'it returns false'. Refute it at one input. -/
def resamplePolynomialsWrong : ChangeSpec := { name := "resamplePolynomials", fn := fun _ => fun
  | [d] => { results := [.lit (.bool false)], args := [d] }
  | _ => none }
def ResamplePolynomialsWrongFalsely : Prop := resamplePolynomialsRow.holds Try.pinned (OpenSpec.ofChange resamplePolynomialsWrong)

/-- 'lacquerlaw04.ResampleBack': WHATEVER THE INPUT: true; the input reads as it did. -/
def resampleBackSpec : ChangeSpec := { name := "resampleBack", fn := fun _ => fun
  | [d1, d2, d3] => { results := [.lit (.bool true)], args := [d1, d2, d3] }
  | _ => none }
def resampleBackRow : OpenClaim := { program := "ytghpofhpkbgckaa", sum := "2ec461aba5fb48ae655ad97381b3177559292012b84203c6988d1193d9699603", func := "lacquer/lacquerlaw04.ResampleBack", spec := "resampleBack", unfollowed := true, recurses := true, apart := false }
def ResampleBackSaid : Prop := resampleBackRow.holds Try.pinned (OpenSpec.ofChange resampleBackSpec)

/-- ITS FALSE NEIGHBOUR: 'it returns false'. Refute it at one input. -/
def resampleBackWrong : ChangeSpec := { name := "resampleBack", fn := fun _ => fun
  | [d1, d2, d3] => { results := [.lit (.bool false)], args := [d1, d2, d3] }
  | _ => none }
def ResampleBackWrongFalsely : Prop := resampleBackRow.holds Try.pinned (OpenSpec.ofChange resampleBackWrong)

/- THE SECOND FORM. 'bulk': how many values and letters a reading holds, each counted each time it is reached (what is shared counts as often as it is met; a slice's spare places count too). A statement '..UptoSaid' is the law's where the arguments, and the package variables that the reading takes, are together of bulk at most 1048576: NARROWER than '..Said'. Prove '..Said' where nothing that the law and all that it calls make is longer than what came in: it says more and counts as full. Else prove '..UptoSaid'. A law counts once. -/
mutual
def uptoBulk {H : Type} : DataW H → Nat
  | .lit (.string bytes) => bytes.length + 1
  | .lit _ => 1
  | .nil => 1
  | .ptr d => uptoBulk d + 1
  | .slice elems spare => uptoBulkAll elems + uptoBulkAll spare + 1
  | .agg parts => uptoBulkAll parts + 1
  | .iface _ d => uptoBulk d + 1
  | .map entries => uptoBulkEntries entries + 1
  | .held _ => 1
def uptoBulkAll {H : Type} : List (DataW H) → Nat
  | [] => 0
  | d :: r => uptoBulk d + uptoBulkAll r
def uptoBulkEntries {H : Type} : List (Lit × DataW H) → Nat
  | [] => 0
  | x :: r => uptoBulkEntry x + uptoBulkEntries r
def uptoBulkEntry {H : Type} : Lit × DataW H → Nat
  | (.string bytes, d) => bytes.length + uptoBulk d + 1
  | (_, d) => uptoBulk d + 1
 end
def uptoSmall : (H : Type) → List (DataW H) → Bool := fun _ ds => decide (uptoBulkAll ds ≤ 1048576)
def OpenSpec.upto (s : _root_.Go.ChangeSpec) : _root_.Go.OpenSpec := { _root_.Go.OpenSpec.ofChange s with cond := some uptoSmall }

/-- 'lacquerlaw04.ResampleRemainders', WHERE WHAT IT READS IS OF BULK AT MOST 1048576: true; the input reads as it did. -/
def resampleRemaindersUptoRow : OpenClaim := { program := "ytghpofhpkbgckaa", sum := "2ec461aba5fb48ae655ad97381b3177559292012b84203c6988d1193d9699603", func := "lacquer/lacquerlaw04.ResampleRemainders", spec := "resampleRemainders", unfollowed := true, recurses := true, apart := false, narrowed := true }
def ResampleRemaindersUptoSaid : Prop := resampleRemaindersUptoRow.holds Try.pinned (OpenSpec.upto resampleRemaindersSpec)

/-- 'lacquerlaw04.ResampleFilters', WHERE WHAT IT READS IS OF BULK AT MOST 1048576: true; the input reads as it did. -/
def resampleFiltersUptoRow : OpenClaim := { program := "ytghpofhpkbgckaa", sum := "2ec461aba5fb48ae655ad97381b3177559292012b84203c6988d1193d9699603", func := "lacquer/lacquerlaw04.ResampleFilters", spec := "resampleFilters", unfollowed := true, recurses := true, apart := false, narrowed := true }
def ResampleFiltersUptoSaid : Prop := resampleFiltersUptoRow.holds Try.pinned (OpenSpec.upto resampleFiltersSpec)

/-- 'lacquerlaw04.ResampleMaxima', WHERE WHAT IT READS IS OF BULK AT MOST 1048576: true; the input reads as it did. -/
def resampleMaximaUptoRow : OpenClaim := { program := "ytghpofhpkbgckaa", sum := "2ec461aba5fb48ae655ad97381b3177559292012b84203c6988d1193d9699603", func := "lacquer/lacquerlaw04.ResampleMaxima", spec := "resampleMaxima", unfollowed := true, recurses := true, apart := false, narrowed := true }
def ResampleMaximaUptoSaid : Prop := resampleMaximaUptoRow.holds Try.pinned (OpenSpec.upto resampleMaximaSpec)

/-- 'lacquerlaw04.ResampleAttained', WHERE WHAT IT READS IS OF BULK AT MOST 1048576: true; the input reads as it did. -/
def resampleAttainedUptoRow : OpenClaim := { program := "ytghpofhpkbgckaa", sum := "2ec461aba5fb48ae655ad97381b3177559292012b84203c6988d1193d9699603", func := "lacquer/lacquerlaw04.ResampleAttained", spec := "resampleAttained", unfollowed := true, recurses := true, apart := false, narrowed := true }
def ResampleAttainedUptoSaid : Prop := resampleAttainedUptoRow.holds Try.pinned (OpenSpec.upto resampleAttainedSpec)

/-- 'lacquerlaw04.ResampleComposed', WHERE WHAT IT READS IS OF BULK AT MOST 1048576: true; the input reads as it did. -/
def resampleComposedUptoRow : OpenClaim := { program := "ytghpofhpkbgckaa", sum := "2ec461aba5fb48ae655ad97381b3177559292012b84203c6988d1193d9699603", func := "lacquer/lacquerlaw04.ResampleComposed", spec := "resampleComposed", unfollowed := true, recurses := true, apart := false, narrowed := true }
def ResampleComposedUptoSaid : Prop := resampleComposedUptoRow.holds Try.pinned (OpenSpec.upto resampleComposedSpec)

/-- 'lacquerlaw04.ResampleEqualizes', WHERE WHAT IT READS IS OF BULK AT MOST 1048576: true; the input reads as it did. -/
def resampleEqualizesUptoRow : OpenClaim := { program := "ytghpofhpkbgckaa", sum := "2ec461aba5fb48ae655ad97381b3177559292012b84203c6988d1193d9699603", func := "lacquer/lacquerlaw04.ResampleEqualizes", spec := "resampleEqualizes", unfollowed := true, recurses := true, apart := false, narrowed := true }
def ResampleEqualizesUptoSaid : Prop := resampleEqualizesUptoRow.holds Try.pinned (OpenSpec.upto resampleEqualizesSpec)

/-- 'lacquerlaw04.ResampleTakenBack', WHERE WHAT IT READS IS OF BULK AT MOST 1048576: true; the input reads as it did. -/
def resampleTakenBackUptoRow : OpenClaim := { program := "ytghpofhpkbgckaa", sum := "2ec461aba5fb48ae655ad97381b3177559292012b84203c6988d1193d9699603", func := "lacquer/lacquerlaw04.ResampleTakenBack", spec := "resampleTakenBack", unfollowed := true, recurses := true, apart := false, narrowed := true }
def ResampleTakenBackUptoSaid : Prop := resampleTakenBackUptoRow.holds Try.pinned (OpenSpec.upto resampleTakenBackSpec)

/-- 'lacquerlaw04.ResampleBounded', WHERE WHAT IT READS IS OF BULK AT MOST 1048576: true; the input reads as it did. -/
def resampleBoundedUptoRow : OpenClaim := { program := "ytghpofhpkbgckaa", sum := "2ec461aba5fb48ae655ad97381b3177559292012b84203c6988d1193d9699603", func := "lacquer/lacquerlaw04.ResampleBounded", spec := "resampleBounded", unfollowed := true, recurses := true, apart := false, narrowed := true }
def ResampleBoundedUptoSaid : Prop := resampleBoundedUptoRow.holds Try.pinned (OpenSpec.upto resampleBoundedSpec)

/-- 'lacquerlaw04.ResamplePolynomials', WHERE WHAT IT READS IS OF BULK AT MOST 1048576: true; the input reads as it did. -/
def resamplePolynomialsUptoRow : OpenClaim := { program := "ytghpofhpkbgckaa", sum := "2ec461aba5fb48ae655ad97381b3177559292012b84203c6988d1193d9699603", func := "lacquer/lacquerlaw04.ResamplePolynomials", spec := "resamplePolynomials", unfollowed := true, recurses := true, apart := false, narrowed := true }
def ResamplePolynomialsUptoSaid : Prop := resamplePolynomialsUptoRow.holds Try.pinned (OpenSpec.upto resamplePolynomialsSpec)

/-- 'lacquerlaw04.ResampleBack', WHERE WHAT IT READS IS OF BULK AT MOST 1048576: true; the input reads as it did. -/
def resampleBackUptoRow : OpenClaim := { program := "ytghpofhpkbgckaa", sum := "2ec461aba5fb48ae655ad97381b3177559292012b84203c6988d1193d9699603", func := "lacquer/lacquerlaw04.ResampleBack", spec := "resampleBack", unfollowed := true, recurses := true, apart := false, narrowed := true }
def ResampleBackUptoSaid : Prop := resampleBackUptoRow.holds Try.pinned (OpenSpec.upto resampleBackSpec)

end Rows
end Go.Proofs.Ytghpofhpkbgckaa
