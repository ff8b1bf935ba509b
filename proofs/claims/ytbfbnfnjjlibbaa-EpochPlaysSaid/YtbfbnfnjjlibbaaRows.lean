/-
  No cell of these rows narrows 'for every input' (looked for: loops, veiled, ifaces, maps, wideKeys, modest, calm, conditions, laid).
  DERIVED. THE GIVEN ROWS OF THIS SEAT. 5 by the template 'for every input the law returns true; each argument reads behind the call as it read before'; 0 by the template 'total and deterministic' (their statements: YtbfbnfnjjlibbaaTotals.lean).
  GIVEN WITH THE SEED: the statements are not yours to turn. If you find one false, say at which input.
  Laid BY PROGRAM, IN A SANDBOX (cutbox-rows.mjs): the forced cells as the released guide's own fill.sh prints them over the translation 996a5523ba264c8e… (all of the seat's roots in one cut). By AI agents, Wed Nov 11 2026. No macro, syntax, notation, axiom, sorry.
-/
import Derived.Test.YtbfbnfnjjlibbaaChecked
import GoSem.Claim
import GoSem.ClaimJoined
import GoSem.ClaimMapViews
import Derived.JoinedTies
import Derived.KernelRfl
namespace Go.Proofs.Ytbfbnfnjjlibbaa
/- THE CELL 'sum', in the pinned program and in every row, IS THE sha256 OF THE DUMP (.gsa) THAT YtbfbnfnjjlibbaaProg.lean LOADS. Nothing in Lean hashes anything: it is a label: what it is worth is what the hold of that sum in a sandbox is worth. -/
noncomputable def Try.pinned : Pinned := { name := "ytbfbnfnjjlibbaa", sum := "996a5523ba264c8e6fead4d139a1ec809b3b1478d2933b427b135fa0efd4d8f3", checked := Try.checked }
namespace Rows
def none {H : Type} : Left H := { results := [], args := [] }

/-- 'holtlaw10.EpochPlays': WHATEVER THE INPUT: true; the input reads as it did. -/
def epochPlaysSpec : ChangeSpec := { name := "epochPlays", fn := fun _ => fun
  | [d] => { results := [.lit (.bool true)], args := [d] }
  | _ => none }
def epochPlaysRow : OpenClaim := { program := "ytbfbnfnjjlibbaa", sum := "996a5523ba264c8e6fead4d139a1ec809b3b1478d2933b427b135fa0efd4d8f3", func := "holt/holtlaw10.EpochPlays", spec := "epochPlays", unfollowed := true, recurses := true, apart := false }
def EpochPlaysSaid : Prop := epochPlaysRow.holds Try.pinned (OpenSpec.ofChange epochPlaysSpec)

/-- ITS FALSE NEIGHBOUR: 'it returns false'. Refute it at one input. -/
def epochPlaysWrong : ChangeSpec := { name := "epochPlays", fn := fun _ => fun
  | [d] => { results := [.lit (.bool false)], args := [d] }
  | _ => none }
def EpochPlaysWrongFalsely : Prop := epochPlaysRow.holds Try.pinned (OpenSpec.ofChange epochPlaysWrong)

/-- 'holtlaw10.EpochLeast': WHATEVER THE INPUT: true; the input reads as it did. -/
def epochLeastSpec : ChangeSpec := { name := "epochLeast", fn := fun _ => fun
  | [d] => { results := [.lit (.bool true)], args := [d] }
  | _ => none }
def epochLeastRow : OpenClaim := { program := "ytbfbnfnjjlibbaa", sum := "996a5523ba264c8e6fead4d139a1ec809b3b1478d2933b427b135fa0efd4d8f3", func := "holt/holtlaw10.EpochLeast", spec := "epochLeast", unfollowed := true, recurses := true, apart := false }
def EpochLeastSaid : Prop := epochLeastRow.holds Try.pinned (OpenSpec.ofChange epochLeastSpec)

/-- ITS FALSE NEIGHBOUR: 'it returns false'. Refute it at one input. -/
def epochLeastWrong : ChangeSpec := { name := "epochLeast", fn := fun _ => fun
  | [d] => { results := [.lit (.bool false)], args := [d] }
  | _ => none }
def EpochLeastWrongFalsely : Prop := epochLeastRow.holds Try.pinned (OpenSpec.ofChange epochLeastWrong)

/-- 'holtlaw10.EpochThree': WHATEVER THE INPUT: true; the input reads as it did. -/
def epochThreeSpec : ChangeSpec := { name := "epochThree", fn := fun _ => fun
  | [d] => { results := [.lit (.bool true)], args := [d] }
  | _ => none }
def epochThreeRow : OpenClaim := { program := "ytbfbnfnjjlibbaa", sum := "996a5523ba264c8e6fead4d139a1ec809b3b1478d2933b427b135fa0efd4d8f3", func := "holt/holtlaw10.EpochThree", spec := "epochThree", unfollowed := true, recurses := true, apart := false }
def EpochThreeSaid : Prop := epochThreeRow.holds Try.pinned (OpenSpec.ofChange epochThreeSpec)

/-- ITS FALSE NEIGHBOUR: 'it returns false'. Refute it at one input. -/
def epochThreeWrong : ChangeSpec := { name := "epochThree", fn := fun _ => fun
  | [d] => { results := [.lit (.bool false)], args := [d] }
  | _ => none }
def EpochThreeWrongFalsely : Prop := epochThreeRow.holds Try.pinned (OpenSpec.ofChange epochThreeWrong)

/-- 'holtlaw10.EpochPinned': WHATEVER THE INPUT: true; the input reads as it did. -/
def epochPinnedSpec : ChangeSpec := { name := "epochPinned", fn := fun _ => fun
  | [d1, d2, d3] => { results := [.lit (.bool true)], args := [d1, d2, d3] }
  | _ => none }
def epochPinnedRow : OpenClaim := { program := "ytbfbnfnjjlibbaa", sum := "996a5523ba264c8e6fead4d139a1ec809b3b1478d2933b427b135fa0efd4d8f3", func := "holt/holtlaw10.EpochPinned", spec := "epochPinned", unfollowed := true, recurses := true, apart := false }
def EpochPinnedSaid : Prop := epochPinnedRow.holds Try.pinned (OpenSpec.ofChange epochPinnedSpec)

/-- ITS FALSE NEIGHBOUR: 'it returns false'. Refute it at one input. -/
def epochPinnedWrong : ChangeSpec := { name := "epochPinned", fn := fun _ => fun
  | [d1, d2, d3] => { results := [.lit (.bool false)], args := [d1, d2, d3] }
  | _ => none }
def EpochPinnedWrongFalsely : Prop := epochPinnedRow.holds Try.pinned (OpenSpec.ofChange epochPinnedWrong)

/-- 'holtlaw10.EpochAll': WHATEVER THE INPUT: true; the input reads as it did. -/
def epochAllSpec : ChangeSpec := { name := "epochAll", fn := fun _ => fun
  | [d] => { results := [.lit (.bool true)], args := [d] }
  | _ => none }
def epochAllRow : OpenClaim := { program := "ytbfbnfnjjlibbaa", sum := "996a5523ba264c8e6fead4d139a1ec809b3b1478d2933b427b135fa0efd4d8f3", func := "holt/holtlaw10.EpochAll", spec := "epochAll", unfollowed := true, recurses := true, apart := false }
def EpochAllSaid : Prop := epochAllRow.holds Try.pinned (OpenSpec.ofChange epochAllSpec)

/-- ITS FALSE NEIGHBOUR: 'it returns false'. Refute it at one input. -/
def epochAllWrong : ChangeSpec := { name := "epochAll", fn := fun _ => fun
  | [d] => { results := [.lit (.bool false)], args := [d] }
  | _ => none }
def EpochAllWrongFalsely : Prop := epochAllRow.holds Try.pinned (OpenSpec.ofChange epochAllWrong)

/- THE SECOND FORM. 'bulk': how many values and letters a reading holds, each counted each time it is reached (what is shared counts as often as it is met; a slice's spare places count too). A statement '..UptoSaid' is the law's where the arguments, and the package variables that the reading takes, are together of bulk at most 1048576: NARROWER than '..Said'. Prove '..Said' where nothing that the law and all that it calls make is longer than what came in: it says more and counts as full. Else prove '..UptoSaid'. A law counts once. -/
mutual
def uptoBulk {H : Type} : DataW H → Nat
  | .lit (.string bytes) => bytes.length + 1
  | .lit _ => 1
  | .nil => 1
  | .ptr d => uptoBulk d + 1
  | .slice elems spare => uptoBulkAll elems + uptoBulkAll spare + 1
  | .agg parts => uptoBulkAll parts + 1
  | .iface _ d => uptoBulk d + 1
  | .map entries => uptoBulkEntries entries + 1
  | .held _ => 1
def uptoBulkAll {H : Type} : List (DataW H) → Nat
  | [] => 0
  | d :: r => uptoBulk d + uptoBulkAll r
def uptoBulkEntries {H : Type} : List (Lit × DataW H) → Nat
  | [] => 0
  | x :: r => uptoBulkEntry x + uptoBulkEntries r
def uptoBulkEntry {H : Type} : Lit × DataW H → Nat
  | (.string bytes, d) => bytes.length + uptoBulk d + 1
  | (_, d) => uptoBulk d + 1
 end
def uptoSmall : (H : Type) → List (DataW H) → Bool := fun _ ds => decide (uptoBulkAll ds ≤ 1048576)
def OpenSpec.upto (s : _root_.Go.ChangeSpec) : _root_.Go.OpenSpec := { _root_.Go.OpenSpec.ofChange s with cond := some uptoSmall }

/-- 'holtlaw10.EpochPlays', WHERE WHAT IT READS IS OF BULK AT MOST 1048576: true; the input reads as it did. -/
def epochPlaysUptoRow : OpenClaim := { program := "ytbfbnfnjjlibbaa", sum := "996a5523ba264c8e6fead4d139a1ec809b3b1478d2933b427b135fa0efd4d8f3", func := "holt/holtlaw10.EpochPlays", spec := "epochPlays", unfollowed := true, recurses := true, apart := false, narrowed := true }
def EpochPlaysUptoSaid : Prop := epochPlaysUptoRow.holds Try.pinned (OpenSpec.upto epochPlaysSpec)

/-- 'holtlaw10.EpochLeast', WHERE WHAT IT READS IS OF BULK AT MOST 1048576: true; the input reads as it did. -/
def epochLeastUptoRow : OpenClaim := { program := "ytbfbnfnjjlibbaa", sum := "996a5523ba264c8e6fead4d139a1ec809b3b1478d2933b427b135fa0efd4d8f3", func := "holt/holtlaw10.EpochLeast", spec := "epochLeast", unfollowed := true, recurses := true, apart := false, narrowed := true }
def EpochLeastUptoSaid : Prop := epochLeastUptoRow.holds Try.pinned (OpenSpec.upto epochLeastSpec)

/-- 'holtlaw10.EpochThree', WHERE WHAT IT READS IS OF BULK AT MOST 1048576: true; the input reads as it did. -/
def epochThreeUptoRow : OpenClaim := { program := "ytbfbnfnjjlibbaa", sum := "996a5523ba264c8e6fead4d139a1ec809b3b1478d2933b427b135fa0efd4d8f3", func := "holt/holtlaw10.EpochThree", spec := "epochThree", unfollowed := true, recurses := true, apart := false, narrowed := true }
def EpochThreeUptoSaid : Prop := epochThreeUptoRow.holds Try.pinned (OpenSpec.upto epochThreeSpec)

/-- 'holtlaw10.EpochPinned', WHERE WHAT IT READS IS OF BULK AT MOST 1048576: true; the input reads as it did. -/
def epochPinnedUptoRow : OpenClaim := { program := "ytbfbnfnjjlibbaa", sum := "996a5523ba264c8e6fead4d139a1ec809b3b1478d2933b427b135fa0efd4d8f3", func := "holt/holtlaw10.EpochPinned", spec := "epochPinned", unfollowed := true, recurses := true, apart := false, narrowed := true }
def EpochPinnedUptoSaid : Prop := epochPinnedUptoRow.holds Try.pinned (OpenSpec.upto epochPinnedSpec)

/-- 'holtlaw10.EpochAll', WHERE WHAT IT READS IS OF BULK AT MOST 1048576: true; the input reads as it did. -/
def epochAllUptoRow : OpenClaim := { program := "ytbfbnfnjjlibbaa", sum := "996a5523ba264c8e6fead4d139a1ec809b3b1478d2933b427b135fa0efd4d8f3", func := "holt/holtlaw10.EpochAll", spec := "epochAll", unfollowed := true, recurses := true, apart := false, narrowed := true }
def EpochAllUptoSaid : Prop := epochAllUptoRow.holds Try.pinned (OpenSpec.upto epochAllSpec)

end Rows
end Go.Proofs.Ytbfbnfnjjlibbaa
