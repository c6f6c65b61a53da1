/-
  No cell of these rows narrows 'for every input' (looked for: loops, veiled, ifaces, maps, wideKeys, modest, calm, conditions, laid).
  DERIVED. THE GIVEN ROWS OF THIS SEAT. 9 by the template 'for every input the law returns true; each argument reads behind the call as it read before'; 0 by the template 'total and deterministic' (their statements: YtepcciodhppbnaaTotals.lean).
  GIVEN WITH THE SEED: the statements are not yours to turn. If you find one false, say at which input.
  Laid BY PROGRAM, IN A SANDBOX (cutbox-rows.mjs): the forced cells as the released guide's own fill.sh prints them over the translation eb09d9e8b6b94b18… (all of the seat's roots in one cut). By AI agents, Wed Nov 11 2026. No macro, syntax, notation, axiom, sorry.
-/
import Derived.Test.YtepcciodhppbnaaChecked
import GoSem.Claim
import GoSem.ClaimJoined
import GoSem.ClaimMapViews
import Derived.JoinedTies
import Derived.KernelRfl
namespace Go.Proofs.Ytepcciodhppbnaa
/- THE CELL 'sum', in the pinned program and in every row, IS THE sha256 OF THE DUMP (.gsa) THAT YtepcciodhppbnaaProg.lean LOADS. Nothing in Lean hashes anything: it is a label: what it is worth is what the hold of that sum in a sandbox is worth. -/
noncomputable def Try.pinned : Pinned := { name := "ytepcciodhppbnaa", sum := "eb09d9e8b6b94b183594f3e0d6f398e2637eb5ea830001efa1d3c21712ac61a1", checked := Try.checked }
namespace Rows
def none {H : Type} : Left H := { results := [], args := [] }

/-- 'lacquerlaw04.ResampleChecks': WHATEVER THE INPUT: true; the input reads as it did. -/
def resampleChecksSpec : ChangeSpec := { name := "resampleChecks", fn := fun _ => fun
  | [d1, d2] => { results := [.lit (.bool true)], args := [d1, d2] }
  | _ => none }
def resampleChecksRow : OpenClaim := { program := "ytepcciodhppbnaa", sum := "eb09d9e8b6b94b183594f3e0d6f398e2637eb5ea830001efa1d3c21712ac61a1", func := "lacquer/lacquerlaw04.ResampleChecks", spec := "resampleChecks", unfollowed := true, recurses := true, plainKeys := false, apart := false }
def ResampleChecksSaid : Prop := resampleChecksRow.holds Try.pinned (OpenSpec.ofChange resampleChecksSpec)

/-- ITS FALSE NEIGHBOUR: 'it returns false'. Refute it at one input. -/
def resampleChecksWrong : ChangeSpec := { name := "resampleChecks", fn := fun _ => fun
  | [d1, d2] => { results := [.lit (.bool false)], args := [d1, d2] }
  | _ => none }
def ResampleChecksWrongFalsely : Prop := resampleChecksRow.holds Try.pinned (OpenSpec.ofChange resampleChecksWrong)

/-- 'lacquerlaw04.ResampleOutputs': WHATEVER THE INPUT: true; the input reads as it did. -/
def resampleOutputsSpec : ChangeSpec := { name := "resampleOutputs", fn := fun _ => fun
  | [d1, d2] => { results := [.lit (.bool true)], args := [d1, d2] }
  | _ => none }
def resampleOutputsRow : OpenClaim := { program := "ytepcciodhppbnaa", sum := "eb09d9e8b6b94b183594f3e0d6f398e2637eb5ea830001efa1d3c21712ac61a1", func := "lacquer/lacquerlaw04.ResampleOutputs", spec := "resampleOutputs", unfollowed := true, recurses := true, plainKeys := false, apart := false }
def ResampleOutputsSaid : Prop := resampleOutputsRow.holds Try.pinned (OpenSpec.ofChange resampleOutputsSpec)

/-- ITS FALSE NEIGHBOUR: 'it returns false'. Refute it at one input. -/
def resampleOutputsWrong : ChangeSpec := { name := "resampleOutputs", fn := fun _ => fun
  | [d1, d2] => { results := [.lit (.bool false)], args := [d1, d2] }
  | _ => none }
def ResampleOutputsWrongFalsely : Prop := resampleOutputsRow.holds Try.pinned (OpenSpec.ofChange resampleOutputsWrong)

/-- 'lacquerlaw04.ResampleBetween': WHATEVER THE INPUT: true; the input reads as it did. -/
def resampleBetweenSpec : ChangeSpec := { name := "resampleBetween", fn := fun _ => fun
  | [d1, d2] => { results := [.lit (.bool true)], args := [d1, d2] }
  | _ => none }
def resampleBetweenRow : OpenClaim := { program := "ytepcciodhppbnaa", sum := "eb09d9e8b6b94b183594f3e0d6f398e2637eb5ea830001efa1d3c21712ac61a1", func := "lacquer/lacquerlaw04.ResampleBetween", spec := "resampleBetween", unfollowed := true, recurses := true, plainKeys := false, apart := false }
def ResampleBetweenSaid : Prop := resampleBetweenRow.holds Try.pinned (OpenSpec.ofChange resampleBetweenSpec)

/-- ITS FALSE NEIGHBOUR: 'it returns false'. Refute it at one input. -/
def resampleBetweenWrong : ChangeSpec := { name := "resampleBetween", fn := fun _ => fun
  | [d1, d2] => { results := [.lit (.bool false)], args := [d1, d2] }
  | _ => none }
def ResampleBetweenWrongFalsely : Prop := resampleBetweenRow.holds Try.pinned (OpenSpec.ofChange resampleBetweenWrong)

/-- 'lacquertop.TopResampleChain': WHATEVER THE INPUT: true; the input reads as it did. -/
def topResampleChainSpec : ChangeSpec := { name := "topResampleChain", fn := fun _ => fun
  | [d1, d2, d3] => { results := [.lit (.bool true)], args := [d1, d2, d3] }
  | _ => none }
def topResampleChainRow : OpenClaim := { program := "ytepcciodhppbnaa", sum := "eb09d9e8b6b94b183594f3e0d6f398e2637eb5ea830001efa1d3c21712ac61a1", func := "lacquer/lacquertop.TopResampleChain", spec := "topResampleChain", unfollowed := true, recurses := true, plainKeys := false, apart := false }
def TopResampleChainSaid : Prop := topResampleChainRow.holds Try.pinned (OpenSpec.ofChange topResampleChainSpec)

/-- ITS FALSE NEIGHBOUR: 'it returns false'. Refute it at one input. -/
def topResampleChainWrong : ChangeSpec := { name := "topResampleChain", fn := fun _ => fun
  | [d1, d2, d3] => { results := [.lit (.bool false)], args := [d1, d2, d3] }
  | _ => none }
def TopResampleChainWrongFalsely : Prop := topResampleChainRow.holds Try.pinned (OpenSpec.ofChange topResampleChainWrong)

/-- 'lacquertop.TopResampleBack': WHATEVER THE INPUT: true; the input reads as it did. -/
def topResampleBackSpec : ChangeSpec := { name := "topResampleBack", fn := fun _ => fun
  | [d] => { results := [.lit (.bool true)], args := [d] }
  | _ => none }
def topResampleBackRow : OpenClaim := { program := "ytepcciodhppbnaa", sum := "eb09d9e8b6b94b183594f3e0d6f398e2637eb5ea830001efa1d3c21712ac61a1", func := "lacquer/lacquertop.TopResampleBack", spec := "topResampleBack", unfollowed := true, recurses := true, plainKeys := false, apart := false }
def TopResampleBackSaid : Prop := topResampleBackRow.holds Try.pinned (OpenSpec.ofChange topResampleBackSpec)

/-- ITS FALSE NEIGHBOUR: 'it returns false'. Refute it at one input. -/
def topResampleBackWrong : ChangeSpec := { name := "topResampleBack", fn := fun _ => fun
  | [d] => { results := [.lit (.bool false)], args := [d] }
  | _ => none }
def TopResampleBackWrongFalsely : Prop := topResampleBackRow.holds Try.pinned (OpenSpec.ofChange topResampleBackWrong)

/-- 'lacquerlaw03.SpeedMaps': WHATEVER THE INPUT: true; the input reads as it did. -/
def speedMapsSpec : ChangeSpec := { name := "speedMaps", fn := fun _ => fun
  | [d1, d2, d3] => { results := [.lit (.bool true)], args := [d1, d2, d3] }
  | _ => none }
def speedMapsRow : OpenClaim := { program := "ytepcciodhppbnaa", sum := "eb09d9e8b6b94b183594f3e0d6f398e2637eb5ea830001efa1d3c21712ac61a1", func := "lacquer/lacquerlaw03.SpeedMaps", spec := "speedMaps", unfollowed := true, recurses := true, plainKeys := false, apart := false }
def SpeedMapsSaid : Prop := speedMapsRow.holds Try.pinned (OpenSpec.ofChange speedMapsSpec)

/-- ITS FALSE NEIGHBOUR: 'it returns false'. Refute it at one input. -/
def speedMapsWrong : ChangeSpec := { name := "speedMaps", fn := fun _ => fun
  | [d1, d2, d3] => { results := [.lit (.bool false)], args := [d1, d2, d3] }
  | _ => none }
def SpeedMapsWrongFalsely : Prop := speedMapsRow.holds Try.pinned (OpenSpec.ofChange speedMapsWrong)

/-- 'lacquerlaw03.SpeedRates': WHATEVER THE INPUT: true; the input reads as it did. -/
def speedRatesSpec : ChangeSpec := { name := "speedRates", fn := fun _ => fun
  | [d1, d2] => { results := [.lit (.bool true)], args := [d1, d2] }
  | _ => none }
def speedRatesRow : OpenClaim := { program := "ytepcciodhppbnaa", sum := "eb09d9e8b6b94b183594f3e0d6f398e2637eb5ea830001efa1d3c21712ac61a1", func := "lacquer/lacquerlaw03.SpeedRates", spec := "speedRates", unfollowed := true, recurses := true, plainKeys := false, apart := false }
def SpeedRatesSaid : Prop := speedRatesRow.holds Try.pinned (OpenSpec.ofChange speedRatesSpec)

/-- ITS FALSE NEIGHBOUR: 'it returns false'. Refute it at one input. -/
def speedRatesWrong : ChangeSpec := { name := "speedRates", fn := fun _ => fun
  | [d1, d2] => { results := [.lit (.bool false)], args := [d1, d2] }
  | _ => none }
def SpeedRatesWrongFalsely : Prop := speedRatesRow.holds Try.pinned (OpenSpec.ofChange speedRatesWrong)

/-- 'lacquerlaw03.SpeedParts': WHATEVER THE INPUT: true; the input reads as it did. -/
def speedPartsSpec : ChangeSpec := { name := "speedParts", fn := fun _ => fun
  | [d1, d2, d3] => { results := [.lit (.bool true)], args := [d1, d2, d3] }
  | _ => none }
def speedPartsRow : OpenClaim := { program := "ytepcciodhppbnaa", sum := "eb09d9e8b6b94b183594f3e0d6f398e2637eb5ea830001efa1d3c21712ac61a1", func := "lacquer/lacquerlaw03.SpeedParts", spec := "speedParts", unfollowed := true, recurses := true, plainKeys := false, apart := false }
def SpeedPartsSaid : Prop := speedPartsRow.holds Try.pinned (OpenSpec.ofChange speedPartsSpec)

/-- ITS FALSE NEIGHBOUR: 'it returns false'. Refute it at one input. -/
def speedPartsWrong : ChangeSpec := { name := "speedParts", fn := fun _ => fun
  | [d1, d2, d3] => { results := [.lit (.bool false)], args := [d1, d2, d3] }
  | _ => none }
def SpeedPartsWrongFalsely : Prop := speedPartsRow.holds Try.pinned (OpenSpec.ofChange speedPartsWrong)

/-- 'lacquerlaw03.SpeedThereAndBack': WHATEVER THE INPUT: true; the input reads as it did. -/
def speedThereAndBackSpec : ChangeSpec := { name := "speedThereAndBack", fn := fun _ => fun
  | [d1, d2] => { results := [.lit (.bool true)], args := [d1, d2] }
  | _ => none }
def speedThereAndBackRow : OpenClaim := { program := "ytepcciodhppbnaa", sum := "eb09d9e8b6b94b183594f3e0d6f398e2637eb5ea830001efa1d3c21712ac61a1", func := "lacquer/lacquerlaw03.SpeedThereAndBack", spec := "speedThereAndBack", unfollowed := true, recurses := true, plainKeys := false, apart := false }
def SpeedThereAndBackSaid : Prop := speedThereAndBackRow.holds Try.pinned (OpenSpec.ofChange speedThereAndBackSpec)

/-- ITS FALSE NEIGHBOUR: 'it returns false'. Refute it at one input. -/
def speedThereAndBackWrong : ChangeSpec := { name := "speedThereAndBack", fn := fun _ => fun
  | [d1, d2] => { results := [.lit (.bool false)], args := [d1, d2] }
  | _ => none }
def SpeedThereAndBackWrongFalsely : Prop := speedThereAndBackRow.holds Try.pinned (OpenSpec.ofChange speedThereAndBackWrong)

/- THE SECOND FORM. 'bulk': how many values and letters a reading holds, each counted each time it is reached (what is shared counts as often as it is met; a slice's spare places count too). A statement '..UptoSaid' is the law's where the arguments, and the package variables that the reading takes, are together of bulk at most 1048576: NARROWER than '..Said'. Prove '..Said' where nothing that the law and all that it calls make is longer than what came in: it says more and counts as full. Else prove '..UptoSaid'. A law counts once. -/
mutual
def uptoBulk {H : Type} : DataW H → Nat
  | .lit (.string bytes) => bytes.length + 1
  | .lit _ => 1
  | .nil => 1
  | .ptr d => uptoBulk d + 1
  | .slice elems spare => uptoBulkAll elems + uptoBulkAll spare + 1
  | .agg parts => uptoBulkAll parts + 1
  | .iface _ d => uptoBulk d + 1
  | .map entries => uptoBulkEntries entries + 1
  | .held _ => 1
def uptoBulkAll {H : Type} : List (DataW H) → Nat
  | [] => 0
  | d :: r => uptoBulk d + uptoBulkAll r
def uptoBulkEntries {H : Type} : List (Lit × DataW H) → Nat
  | [] => 0
  | x :: r => uptoBulkEntry x + uptoBulkEntries r
def uptoBulkEntry {H : Type} : Lit × DataW H → Nat
  | (.string bytes, d) => bytes.length + uptoBulk d + 1
  | (_, d) => uptoBulk d + 1
 end
def uptoSmall : (H : Type) → List (DataW H) → Bool := fun _ ds => decide (uptoBulkAll ds ≤ 1048576)
def OpenSpec.upto (s : _root_.Go.ChangeSpec) : _root_.Go.OpenSpec := { _root_.Go.OpenSpec.ofChange s with cond := some uptoSmall }

/-- 'lacquerlaw04.ResampleChecks', WHERE WHAT IT READS IS OF BULK AT MOST 1048576: true; the input reads as it did. -/
def resampleChecksUptoRow : OpenClaim := { program := "ytepcciodhppbnaa", sum := "eb09d9e8b6b94b183594f3e0d6f398e2637eb5ea830001efa1d3c21712ac61a1", func := "lacquer/lacquerlaw04.ResampleChecks", spec := "resampleChecks", unfollowed := true, recurses := true, plainKeys := false, apart := false, narrowed := true }
def ResampleChecksUptoSaid : Prop := resampleChecksUptoRow.holds Try.pinned (OpenSpec.upto resampleChecksSpec)

/-- 'lacquerlaw04.ResampleOutputs', WHERE WHAT IT READS IS OF BULK AT MOST 1048576: true; the input reads as it did. -/
def resampleOutputsUptoRow : OpenClaim := { program := "ytepcciodhppbnaa", sum := "eb09d9e8b6b94b183594f3e0d6f398e2637eb5ea830001efa1d3c21712ac61a1", func := "lacquer/lacquerlaw04.ResampleOutputs", spec := "resampleOutputs", unfollowed := true, recurses := true, plainKeys := false, apart := false, narrowed := true }
def ResampleOutputsUptoSaid : Prop := resampleOutputsUptoRow.holds Try.pinned (OpenSpec.upto resampleOutputsSpec)

/-- 'lacquerlaw04.ResampleBetween', WHERE WHAT IT READS IS OF BULK AT MOST 1048576: true; the input reads as it did. -/
def resampleBetweenUptoRow : OpenClaim := { program := "ytepcciodhppbnaa", sum := "eb09d9e8b6b94b183594f3e0d6f398e2637eb5ea830001efa1d3c21712ac61a1", func := "lacquer/lacquerlaw04.ResampleBetween", spec := "resampleBetween", unfollowed := true, recurses := true, plainKeys := false, apart := false, narrowed := true }
def ResampleBetweenUptoSaid : Prop := resampleBetweenUptoRow.holds Try.pinned (OpenSpec.upto resampleBetweenSpec)

/-- 'lacquertop.TopResampleChain', WHERE WHAT IT READS IS OF BULK AT MOST 1048576: true; the input reads as it did. -/
def topResampleChainUptoRow : OpenClaim := { program := "ytepcciodhppbnaa", sum := "eb09d9e8b6b94b183594f3e0d6f398e2637eb5ea830001efa1d3c21712ac61a1", func := "lacquer/lacquertop.TopResampleChain", spec := "topResampleChain", unfollowed := true, recurses := true, plainKeys := false, apart := false, narrowed := true }
def TopResampleChainUptoSaid : Prop := topResampleChainUptoRow.holds Try.pinned (OpenSpec.upto topResampleChainSpec)

/-- 'lacquertop.TopResampleBack', WHERE WHAT IT READS IS OF BULK AT MOST 1048576: true; the input reads as it did. -/
def topResampleBackUptoRow : OpenClaim := { program := "ytepcciodhppbnaa", sum := "eb09d9e8b6b94b183594f3e0d6f398e2637eb5ea830001efa1d3c21712ac61a1", func := "lacquer/lacquertop.TopResampleBack", spec := "topResampleBack", unfollowed := true, recurses := true, plainKeys := false, apart := false, narrowed := true }
def TopResampleBackUptoSaid : Prop := topResampleBackUptoRow.holds Try.pinned (OpenSpec.upto topResampleBackSpec)

/-- 'lacquerlaw03.SpeedMaps', WHERE WHAT IT READS IS OF BULK AT MOST 1048576: true; the input reads as it did. -/
def speedMapsUptoRow : OpenClaim := { program := "ytepcciodhppbnaa", sum := "eb09d9e8b6b94b183594f3e0d6f398e2637eb5ea830001efa1d3c21712ac61a1", func := "lacquer/lacquerlaw03.SpeedMaps", spec := "speedMaps", unfollowed := true, recurses := true, plainKeys := false, apart := false, narrowed := true }
def SpeedMapsUptoSaid : Prop := speedMapsUptoRow.holds Try.pinned (OpenSpec.upto speedMapsSpec)

/-- 'lacquerlaw03.SpeedRates', WHERE WHAT IT READS IS OF BULK AT MOST 1048576: true; the input reads as it did. -/
def speedRatesUptoRow : OpenClaim := { program := "ytepcciodhppbnaa", sum := "eb09d9e8b6b94b183594f3e0d6f398e2637eb5ea830001efa1d3c21712ac61a1", func := "lacquer/lacquerlaw03.SpeedRates", spec := "speedRates", unfollowed := true, recurses := true, plainKeys := false, apart := false, narrowed := true }
def SpeedRatesUptoSaid : Prop := speedRatesUptoRow.holds Try.pinned (OpenSpec.upto speedRatesSpec)

/-- 'lacquerlaw03.SpeedParts', WHERE WHAT IT READS IS OF BULK AT MOST 1048576: true; the input reads as it did. -/
def speedPartsUptoRow : OpenClaim := { program := "ytepcciodhppbnaa", sum := "eb09d9e8b6b94b183594f3e0d6f398e2637eb5ea830001efa1d3c21712ac61a1", func := "lacquer/lacquerlaw03.SpeedParts", spec := "speedParts", unfollowed := true, recurses := true, plainKeys := false, apart := false, narrowed := true }
def SpeedPartsUptoSaid : Prop := speedPartsUptoRow.holds Try.pinned (OpenSpec.upto speedPartsSpec)

/-- 'lacquerlaw03.SpeedThereAndBack', WHERE WHAT IT READS IS OF BULK AT MOST 1048576: true; the input reads as it did. -/
def speedThereAndBackUptoRow : OpenClaim := { program := "ytepcciodhppbnaa", sum := "eb09d9e8b6b94b183594f3e0d6f398e2637eb5ea830001efa1d3c21712ac61a1", func := "lacquer/lacquerlaw03.SpeedThereAndBack", spec := "speedThereAndBack", unfollowed := true, recurses := true, plainKeys := false, apart := false, narrowed := true }
def SpeedThereAndBackUptoSaid : Prop := speedThereAndBackUptoRow.holds Try.pinned (OpenSpec.upto speedThereAndBackSpec)

end Rows
end Go.Proofs.Ytepcciodhppbnaa
