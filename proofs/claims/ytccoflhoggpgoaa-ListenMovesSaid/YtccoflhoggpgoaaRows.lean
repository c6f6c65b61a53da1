/-
  No cell of these rows narrows 'for every input' (looked for: loops, veiled, ifaces, maps, wideKeys, modest, calm, conditions, laid).
  DERIVED. THE GIVEN ROWS OF THIS SEAT. 12 by the template 'for every input the law returns true; each argument reads behind the call as it read before'; 0 by the template 'total and deterministic' (their statements: YtccoflhoggpgoaaTotals.lean).
  GIVEN WITH THE SEED: the statements are not yours to turn. If you find one false, say at which input.
  Laid BY PROGRAM, IN A SANDBOX (cutbox-rows.mjs): the forced cells as the released guide's own fill.sh prints them over the translation 35a95d7e98d6b16c… (all of the seat's roots in one cut). By AI agents, Wed Nov 11 2026. No macro, syntax, notation, axiom, sorry.
-/
import Derived.Test.YtccoflhoggpgoaaChecked
import GoSem.Claim
import GoSem.ClaimJoined
import GoSem.ClaimMapViews
import Derived.JoinedTies
import Derived.KernelRfl
namespace Go.Proofs.Ytccoflhoggpgoaa
/- THE CELL 'sum', in the pinned program and in every row, IS THE sha256 OF THE DUMP (.gsa) THAT YtccoflhoggpgoaaProg.lean LOADS. Nothing in Lean hashes anything: it is a label: what it is worth is what the hold of that sum in a sandbox is worth. -/
noncomputable def Try.pinned : Pinned := { name := "ytccoflhoggpgoaa", sum := "35a95d7e98d6b16cfec9010dd31332f6bebfbf970fee635d14120b9595afdb39", checked := Try.checked }
namespace Rows
def none {H : Type} : Left H := { results := [], args := [] }

/-- 'lacquerlaw09.ListenTails': WHATEVER THE INPUT: true; the input reads as it did. -/
def listenTailsSpec : ChangeSpec := { name := "listenTails", fn := fun _ => fun
  | [d1, d2, d3] => { results := [.lit (.bool true)], args := [d1, d2, d3] }
  | _ => none }
def listenTailsRow : OpenClaim := { program := "ytccoflhoggpgoaa", sum := "35a95d7e98d6b16cfec9010dd31332f6bebfbf970fee635d14120b9595afdb39", func := "lacquer/lacquerlaw09.ListenTails", spec := "listenTails", unfollowed := true, recurses := true, apart := false }
def ListenTailsSaid : Prop := listenTailsRow.holds Try.pinned (OpenSpec.ofChange listenTailsSpec)

/-- ITS FALSE NEIGHBOUR: 'it returns false'. Refute it at one input. -/
def listenTailsWrong : ChangeSpec := { name := "listenTails", fn := fun _ => fun
  | [d1, d2, d3] => { results := [.lit (.bool false)], args := [d1, d2, d3] }
  | _ => none }
def ListenTailsWrongFalsely : Prop := listenTailsRow.holds Try.pinned (OpenSpec.ofChange listenTailsWrong)

/-- 'lacquerlaw09.ListenChances': WHATEVER THE INPUT: true; the input reads as it did. -/
def listenChancesSpec : ChangeSpec := { name := "listenChances", fn := fun _ => fun
  | [d1, d2, d3] => { results := [.lit (.bool true)], args := [d1, d2, d3] }
  | _ => none }
def listenChancesRow : OpenClaim := { program := "ytccoflhoggpgoaa", sum := "35a95d7e98d6b16cfec9010dd31332f6bebfbf970fee635d14120b9595afdb39", func := "lacquer/lacquerlaw09.ListenChances", spec := "listenChances", unfollowed := true, recurses := true, apart := false }
def ListenChancesSaid : Prop := listenChancesRow.holds Try.pinned (OpenSpec.ofChange listenChancesSpec)

/-- ITS FALSE NEIGHBOUR: 'it returns false'. Refute it at one input. -/
def listenChancesWrong : ChangeSpec := { name := "listenChances", fn := fun _ => fun
  | [d1, d2, d3] => { results := [.lit (.bool false)], args := [d1, d2, d3] }
  | _ => none }
def ListenChancesWrongFalsely : Prop := listenChancesRow.holds Try.pinned (OpenSpec.ofChange listenChancesWrong)

/-- 'lacquerlaw09.ListenLoudness': WHATEVER THE INPUT: true; the input reads as it did. -/
def listenLoudnessSpec : ChangeSpec := { name := "listenLoudness", fn := fun _ => fun
  | [d1, d2] => { results := [.lit (.bool true)], args := [d1, d2] }
  | _ => none }
def listenLoudnessRow : OpenClaim := { program := "ytccoflhoggpgoaa", sum := "35a95d7e98d6b16cfec9010dd31332f6bebfbf970fee635d14120b9595afdb39", func := "lacquer/lacquerlaw09.ListenLoudness", spec := "listenLoudness", unfollowed := true, recurses := true, apart := false }
def ListenLoudnessSaid : Prop := listenLoudnessRow.holds Try.pinned (OpenSpec.ofChange listenLoudnessSpec)

/-- ITS FALSE NEIGHBOUR: 'it returns false'. Refute it at one input. -/
def listenLoudnessWrong : ChangeSpec := { name := "listenLoudness", fn := fun _ => fun
  | [d1, d2] => { results := [.lit (.bool false)], args := [d1, d2] }
  | _ => none }
def ListenLoudnessWrongFalsely : Prop := listenLoudnessRow.holds Try.pinned (OpenSpec.ofChange listenLoudnessWrong)

/-- 'lacquerlaw09.ListenGates': WHATEVER THE INPUT: true; the input reads as it did. -/
def listenGatesSpec : ChangeSpec := { name := "listenGates", fn := fun _ => fun
  | [d1, d2, d3] => { results := [.lit (.bool true)], args := [d1, d2, d3] }
  | _ => none }
def listenGatesRow : OpenClaim := { program := "ytccoflhoggpgoaa", sum := "35a95d7e98d6b16cfec9010dd31332f6bebfbf970fee635d14120b9595afdb39", func := "lacquer/lacquerlaw09.ListenGates", spec := "listenGates", unfollowed := true, recurses := true, apart := false }
def ListenGatesSaid : Prop := listenGatesRow.holds Try.pinned (OpenSpec.ofChange listenGatesSpec)

/-- ITS FALSE NEIGHBOUR: 'it returns false'. Refute it at one input. -/
def listenGatesWrong : ChangeSpec := { name := "listenGates", fn := fun _ => fun
  | [d1, d2, d3] => { results := [.lit (.bool false)], args := [d1, d2, d3] }
  | _ => none }
def ListenGatesWrongFalsely : Prop := listenGatesRow.holds Try.pinned (OpenSpec.ofChange listenGatesWrong)

/-- 'lacquerlaw09.ListenMoves': WHATEVER THE INPUT: true; the input reads as it did. -/
def listenMovesSpec : ChangeSpec := { name := "listenMoves", fn := fun _ => fun
  | [d1, d2] => { results := [.lit (.bool true)], args := [d1, d2] }
  | _ => none }
def listenMovesRow : OpenClaim := { program := "ytccoflhoggpgoaa", sum := "35a95d7e98d6b16cfec9010dd31332f6bebfbf970fee635d14120b9595afdb39", func := "lacquer/lacquerlaw09.ListenMoves", spec := "listenMoves", unfollowed := true, recurses := true, apart := false }
def ListenMovesSaid : Prop := listenMovesRow.holds Try.pinned (OpenSpec.ofChange listenMovesSpec)

/-- ITS FALSE NEIGHBOUR: 'it returns false'. Refute it at one input. -/
def listenMovesWrong : ChangeSpec := { name := "listenMoves", fn := fun _ => fun
  | [d1, d2] => { results := [.lit (.bool false)], args := [d1, d2] }
  | _ => none }
def ListenMovesWrongFalsely : Prop := listenMovesRow.holds Try.pinned (OpenSpec.ofChange listenMovesWrong)

/-- 'lacquerlaw09.ListenFollow': WHATEVER THE INPUT: true; the input reads as it did. -/
def listenFollowSpec : ChangeSpec := { name := "listenFollow", fn := fun _ => fun
  | [d1, d2, d3] => { results := [.lit (.bool true)], args := [d1, d2, d3] }
  | _ => none }
def listenFollowRow : OpenClaim := { program := "ytccoflhoggpgoaa", sum := "35a95d7e98d6b16cfec9010dd31332f6bebfbf970fee635d14120b9595afdb39", func := "lacquer/lacquerlaw09.ListenFollow", spec := "listenFollow", unfollowed := true, recurses := true, apart := false }
def ListenFollowSaid : Prop := listenFollowRow.holds Try.pinned (OpenSpec.ofChange listenFollowSpec)

/-- ITS FALSE NEIGHBOUR: 'it returns false'. Refute it at one input. -/
def listenFollowWrong : ChangeSpec := { name := "listenFollow", fn := fun _ => fun
  | [d1, d2, d3] => { results := [.lit (.bool false)], args := [d1, d2, d3] }
  | _ => none }
def ListenFollowWrongFalsely : Prop := listenFollowRow.holds Try.pinned (OpenSpec.ofChange listenFollowWrong)

/-- 'lacquerlaw09.ListenStates': WHATEVER THE INPUT: true; the input reads as it did. -/
def listenStatesSpec : ChangeSpec := { name := "listenStates", fn := fun _ => fun
  | [d1, d2] => { results := [.lit (.bool true)], args := [d1, d2] }
  | _ => none }
def listenStatesRow : OpenClaim := { program := "ytccoflhoggpgoaa", sum := "35a95d7e98d6b16cfec9010dd31332f6bebfbf970fee635d14120b9595afdb39", func := "lacquer/lacquerlaw09.ListenStates", spec := "listenStates", unfollowed := true, recurses := true, apart := false }
def ListenStatesSaid : Prop := listenStatesRow.holds Try.pinned (OpenSpec.ofChange listenStatesSpec)

/-- ITS FALSE NEIGHBOUR: 'it returns false'. Refute it at one input. -/
def listenStatesWrong : ChangeSpec := { name := "listenStates", fn := fun _ => fun
  | [d1, d2] => { results := [.lit (.bool false)], args := [d1, d2] }
  | _ => none }
def ListenStatesWrongFalsely : Prop := listenStatesRow.holds Try.pinned (OpenSpec.ofChange listenStatesWrong)

/-- 'lacquerlaw09.ListenPeaks': WHATEVER THE INPUT: true; the input reads as it did. -/
def listenPeaksSpec : ChangeSpec := { name := "listenPeaks", fn := fun _ => fun
  | [d] => { results := [.lit (.bool true)], args := [d] }
  | _ => none }
def listenPeaksRow : OpenClaim := { program := "ytccoflhoggpgoaa", sum := "35a95d7e98d6b16cfec9010dd31332f6bebfbf970fee635d14120b9595afdb39", func := "lacquer/lacquerlaw09.ListenPeaks", spec := "listenPeaks", unfollowed := true, recurses := true, apart := false }
def ListenPeaksSaid : Prop := listenPeaksRow.holds Try.pinned (OpenSpec.ofChange listenPeaksSpec)

/-- ITS FALSE NEIGHBOUR: 'it returns false'. Refute it at one input. -/
def listenPeaksWrong : ChangeSpec := { name := "listenPeaks", fn := fun _ => fun
  | [d] => { results := [.lit (.bool false)], args := [d] }
  | _ => none }
def ListenPeaksWrongFalsely : Prop := listenPeaksRow.holds Try.pinned (OpenSpec.ofChange listenPeaksWrong)

/-- 'lacquerlaw09.ListenRankings': WHATEVER THE INPUT: true; the input reads as it did. -/
def listenRankingsSpec : ChangeSpec := { name := "listenRankings", fn := fun _ => fun
  | [d1, d2] => { results := [.lit (.bool true)], args := [d1, d2] }
  | _ => none }
def listenRankingsRow : OpenClaim := { program := "ytccoflhoggpgoaa", sum := "35a95d7e98d6b16cfec9010dd31332f6bebfbf970fee635d14120b9595afdb39", func := "lacquer/lacquerlaw09.ListenRankings", spec := "listenRankings", unfollowed := true, recurses := true, apart := false }
def ListenRankingsSaid : Prop := listenRankingsRow.holds Try.pinned (OpenSpec.ofChange listenRankingsSpec)

/-- ITS FALSE NEIGHBOUR: 'it returns false'. Refute it at one input. -/
def listenRankingsWrong : ChangeSpec := { name := "listenRankings", fn := fun _ => fun
  | [d1, d2] => { results := [.lit (.bool false)], args := [d1, d2] }
  | _ => none }
def ListenRankingsWrongFalsely : Prop := listenRankingsRow.holds Try.pinned (OpenSpec.ofChange listenRankingsWrong)

/-- 'lacquerlaw09.ListenNoBetter': WHATEVER THE INPUT: true; the input reads as it did. -/
def listenNoBetterSpec : ChangeSpec := { name := "listenNoBetter", fn := fun _ => fun
  | [d1, d2] => { results := [.lit (.bool true)], args := [d1, d2] }
  | _ => none }
def listenNoBetterRow : OpenClaim := { program := "ytccoflhoggpgoaa", sum := "35a95d7e98d6b16cfec9010dd31332f6bebfbf970fee635d14120b9595afdb39", func := "lacquer/lacquerlaw09.ListenNoBetter", spec := "listenNoBetter", unfollowed := true, recurses := true, apart := false }
def ListenNoBetterSaid : Prop := listenNoBetterRow.holds Try.pinned (OpenSpec.ofChange listenNoBetterSpec)

/-- ITS FALSE NEIGHBOUR: 'it returns false'. Refute it at one input. -/
def listenNoBetterWrong : ChangeSpec := { name := "listenNoBetter", fn := fun _ => fun
  | [d1, d2] => { results := [.lit (.bool false)], args := [d1, d2] }
  | _ => none }
def ListenNoBetterWrongFalsely : Prop := listenNoBetterRow.holds Try.pinned (OpenSpec.ofChange listenNoBetterWrong)

/-- 'lacquertop.TopListenRanked': WHATEVER THE INPUT: true; the input reads as it did. -/
def topListenRankedSpec : ChangeSpec := { name := "topListenRanked", fn := fun _ => fun
  | [d1, d2] => { results := [.lit (.bool true)], args := [d1, d2] }
  | _ => none }
def topListenRankedRow : OpenClaim := { program := "ytccoflhoggpgoaa", sum := "35a95d7e98d6b16cfec9010dd31332f6bebfbf970fee635d14120b9595afdb39", func := "lacquer/lacquertop.TopListenRanked", spec := "topListenRanked", unfollowed := true, recurses := true, apart := false }
def TopListenRankedSaid : Prop := topListenRankedRow.holds Try.pinned (OpenSpec.ofChange topListenRankedSpec)

/-- ITS FALSE NEIGHBOUR: 'it returns false'. Refute it at one input. -/
def topListenRankedWrong : ChangeSpec := { name := "topListenRanked", fn := fun _ => fun
  | [d1, d2] => { results := [.lit (.bool false)], args := [d1, d2] }
  | _ => none }
def TopListenRankedWrongFalsely : Prop := topListenRankedRow.holds Try.pinned (OpenSpec.ofChange topListenRankedWrong)

/-- 'lacquerlaw09.ListenTests': WHATEVER THE INPUT: true; the input reads as it did. -/
def listenTestsSpec : ChangeSpec := { name := "listenTests", fn := fun _ => fun
  | [d1, d2] => { results := [.lit (.bool true)], args := [d1, d2] }
  | _ => none }
def listenTestsRow : OpenClaim := { program := "ytccoflhoggpgoaa", sum := "35a95d7e98d6b16cfec9010dd31332f6bebfbf970fee635d14120b9595afdb39", func := "lacquer/lacquerlaw09.ListenTests", spec := "listenTests", unfollowed := true, recurses := true, apart := false }
def ListenTestsSaid : Prop := listenTestsRow.holds Try.pinned (OpenSpec.ofChange listenTestsSpec)

/-- ITS FALSE NEIGHBOUR: 'it returns false'. Refute it at one input. -/
def listenTestsWrong : ChangeSpec := { name := "listenTests", fn := fun _ => fun
  | [d1, d2] => { results := [.lit (.bool false)], args := [d1, d2] }
  | _ => none }
def ListenTestsWrongFalsely : Prop := listenTestsRow.holds Try.pinned (OpenSpec.ofChange listenTestsWrong)

/- THE SECOND FORM. 'bulk': how many values and letters a reading holds, each counted each time it is reached (what is shared counts as often as it is met; a slice's spare places count too). A statement '..UptoSaid' is the law's where the arguments, and the package variables that the reading takes, are together of bulk at most 1048576: NARROWER than '..Said'. Prove '..Said' where nothing that the law and all that it calls make is longer than what came in: it says more and counts as full. Else prove '..UptoSaid'. A law counts once. -/
mutual
def uptoBulk {H : Type} : DataW H → Nat
  | .lit (.string bytes) => bytes.length + 1
  | .lit _ => 1
  | .nil => 1
  | .ptr d => uptoBulk d + 1
  | .slice elems spare => uptoBulkAll elems + uptoBulkAll spare + 1
  | .agg parts => uptoBulkAll parts + 1
  | .iface _ d => uptoBulk d + 1
  | .map entries => uptoBulkEntries entries + 1
  | .held _ => 1
def uptoBulkAll {H : Type} : List (DataW H) → Nat
  | [] => 0
  | d :: r => uptoBulk d + uptoBulkAll r
def uptoBulkEntries {H : Type} : List (Lit × DataW H) → Nat
  | [] => 0
  | x :: r => uptoBulkEntry x + uptoBulkEntries r
def uptoBulkEntry {H : Type} : Lit × DataW H → Nat
  | (.string bytes, d) => bytes.length + uptoBulk d + 1
  | (_, d) => uptoBulk d + 1
 end
def uptoSmall : (H : Type) → List (DataW H) → Bool := fun _ ds => decide (uptoBulkAll ds ≤ 1048576)
def OpenSpec.upto (s : _root_.Go.ChangeSpec) : _root_.Go.OpenSpec := { _root_.Go.OpenSpec.ofChange s with cond := some uptoSmall }

/-- 'lacquerlaw09.ListenTails', WHERE WHAT IT READS IS OF BULK AT MOST 1048576: true; the input reads as it did. -/
def listenTailsUptoRow : OpenClaim := { program := "ytccoflhoggpgoaa", sum := "35a95d7e98d6b16cfec9010dd31332f6bebfbf970fee635d14120b9595afdb39", func := "lacquer/lacquerlaw09.ListenTails", spec := "listenTails", unfollowed := true, recurses := true, apart := false, narrowed := true }
def ListenTailsUptoSaid : Prop := listenTailsUptoRow.holds Try.pinned (OpenSpec.upto listenTailsSpec)

/-- 'lacquerlaw09.ListenChances', WHERE WHAT IT READS IS OF BULK AT MOST 1048576: true; the input reads as it did. -/
def listenChancesUptoRow : OpenClaim := { program := "ytccoflhoggpgoaa", sum := "35a95d7e98d6b16cfec9010dd31332f6bebfbf970fee635d14120b9595afdb39", func := "lacquer/lacquerlaw09.ListenChances", spec := "listenChances", unfollowed := true, recurses := true, apart := false, narrowed := true }
def ListenChancesUptoSaid : Prop := listenChancesUptoRow.holds Try.pinned (OpenSpec.upto listenChancesSpec)

/-- 'lacquerlaw09.ListenLoudness', WHERE WHAT IT READS IS OF BULK AT MOST 1048576: true; the input reads as it did. -/
def listenLoudnessUptoRow : OpenClaim := { program := "ytccoflhoggpgoaa", sum := "35a95d7e98d6b16cfec9010dd31332f6bebfbf970fee635d14120b9595afdb39", func := "lacquer/lacquerlaw09.ListenLoudness", spec := "listenLoudness", unfollowed := true, recurses := true, apart := false, narrowed := true }
def ListenLoudnessUptoSaid : Prop := listenLoudnessUptoRow.holds Try.pinned (OpenSpec.upto listenLoudnessSpec)

/-- 'lacquerlaw09.ListenGates', WHERE WHAT IT READS IS OF BULK AT MOST 1048576: true; the input reads as it did. -/
def listenGatesUptoRow : OpenClaim := { program := "ytccoflhoggpgoaa", sum := "35a95d7e98d6b16cfec9010dd31332f6bebfbf970fee635d14120b9595afdb39", func := "lacquer/lacquerlaw09.ListenGates", spec := "listenGates", unfollowed := true, recurses := true, apart := false, narrowed := true }
def ListenGatesUptoSaid : Prop := listenGatesUptoRow.holds Try.pinned (OpenSpec.upto listenGatesSpec)

/-- 'lacquerlaw09.ListenMoves', WHERE WHAT IT READS IS OF BULK AT MOST 1048576: true; the input reads as it did. -/
def listenMovesUptoRow : OpenClaim := { program := "ytccoflhoggpgoaa", sum := "35a95d7e98d6b16cfec9010dd31332f6bebfbf970fee635d14120b9595afdb39", func := "lacquer/lacquerlaw09.ListenMoves", spec := "listenMoves", unfollowed := true, recurses := true, apart := false, narrowed := true }
def ListenMovesUptoSaid : Prop := listenMovesUptoRow.holds Try.pinned (OpenSpec.upto listenMovesSpec)

/-- 'lacquerlaw09.ListenFollow', WHERE WHAT IT READS IS OF BULK AT MOST 1048576: true; the input reads as it did. -/
def listenFollowUptoRow : OpenClaim := { program := "ytccoflhoggpgoaa", sum := "35a95d7e98d6b16cfec9010dd31332f6bebfbf970fee635d14120b9595afdb39", func := "lacquer/lacquerlaw09.ListenFollow", spec := "listenFollow", unfollowed := true, recurses := true, apart := false, narrowed := true }
def ListenFollowUptoSaid : Prop := listenFollowUptoRow.holds Try.pinned (OpenSpec.upto listenFollowSpec)

/-- 'lacquerlaw09.ListenStates', WHERE WHAT IT READS IS OF BULK AT MOST 1048576: true; the input reads as it did. -/
def listenStatesUptoRow : OpenClaim := { program := "ytccoflhoggpgoaa", sum := "35a95d7e98d6b16cfec9010dd31332f6bebfbf970fee635d14120b9595afdb39", func := "lacquer/lacquerlaw09.ListenStates", spec := "listenStates", unfollowed := true, recurses := true, apart := false, narrowed := true }
def ListenStatesUptoSaid : Prop := listenStatesUptoRow.holds Try.pinned (OpenSpec.upto listenStatesSpec)

/-- 'lacquerlaw09.ListenPeaks', WHERE WHAT IT READS IS OF BULK AT MOST 1048576: true; the input reads as it did. -/
def listenPeaksUptoRow : OpenClaim := { program := "ytccoflhoggpgoaa", sum := "35a95d7e98d6b16cfec9010dd31332f6bebfbf970fee635d14120b9595afdb39", func := "lacquer/lacquerlaw09.ListenPeaks", spec := "listenPeaks", unfollowed := true, recurses := true, apart := false, narrowed := true }
def ListenPeaksUptoSaid : Prop := listenPeaksUptoRow.holds Try.pinned (OpenSpec.upto listenPeaksSpec)

/-- 'lacquerlaw09.ListenRankings', WHERE WHAT IT READS IS OF BULK AT MOST 1048576: true; the input reads as it did. -/
def listenRankingsUptoRow : OpenClaim := { program := "ytccoflhoggpgoaa", sum := "35a95d7e98d6b16cfec9010dd31332f6bebfbf970fee635d14120b9595afdb39", func := "lacquer/lacquerlaw09.ListenRankings", spec := "listenRankings", unfollowed := true, recurses := true, apart := false, narrowed := true }
def ListenRankingsUptoSaid : Prop := listenRankingsUptoRow.holds Try.pinned (OpenSpec.upto listenRankingsSpec)

/-- 'lacquerlaw09.ListenNoBetter', WHERE WHAT IT READS IS OF BULK AT MOST 1048576: true; the input reads as it did. -/
def listenNoBetterUptoRow : OpenClaim := { program := "ytccoflhoggpgoaa", sum := "35a95d7e98d6b16cfec9010dd31332f6bebfbf970fee635d14120b9595afdb39", func := "lacquer/lacquerlaw09.ListenNoBetter", spec := "listenNoBetter", unfollowed := true, recurses := true, apart := false, narrowed := true }
def ListenNoBetterUptoSaid : Prop := listenNoBetterUptoRow.holds Try.pinned (OpenSpec.upto listenNoBetterSpec)

/-- 'lacquertop.TopListenRanked', WHERE WHAT IT READS IS OF BULK AT MOST 1048576: true; the input reads as it did. -/
def topListenRankedUptoRow : OpenClaim := { program := "ytccoflhoggpgoaa", sum := "35a95d7e98d6b16cfec9010dd31332f6bebfbf970fee635d14120b9595afdb39", func := "lacquer/lacquertop.TopListenRanked", spec := "topListenRanked", unfollowed := true, recurses := true, apart := false, narrowed := true }
def TopListenRankedUptoSaid : Prop := topListenRankedUptoRow.holds Try.pinned (OpenSpec.upto topListenRankedSpec)

/-- 'lacquerlaw09.ListenTests', WHERE WHAT IT READS IS OF BULK AT MOST 1048576: true; the input reads as it did. -/
def listenTestsUptoRow : OpenClaim := { program := "ytccoflhoggpgoaa", sum := "35a95d7e98d6b16cfec9010dd31332f6bebfbf970fee635d14120b9595afdb39", func := "lacquer/lacquerlaw09.ListenTests", spec := "listenTests", unfollowed := true, recurses := true, apart := false, narrowed := true }
def ListenTestsUptoSaid : Prop := listenTestsUptoRow.holds Try.pinned (OpenSpec.upto listenTestsSpec)

end Rows
end Go.Proofs.Ytccoflhoggpgoaa
