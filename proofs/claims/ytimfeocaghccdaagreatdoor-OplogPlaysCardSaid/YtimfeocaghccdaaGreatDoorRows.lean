/-
  NARROWER THAN 'FOR EVERY INPUT', by the rows' own cells (each row's printed sentence says how): OplogPlays: laid · OplogOrder: laid · OplogOwn: laid · OplogClones: laid.
  DERIVED. THE GIVEN ROWS OF THIS SEAT. 4 by the template 'for every input the law returns true; each argument reads behind the call as it read before'; 0 by the template 'total and deterministic' (their statements: YtimfeocaghccdaaGreatDoorTotals.lean).
  GIVEN WITH THE SEED: the statements are not yours to turn. If you find one false, say at which input.
  Laid BY PROGRAM, IN A SANDBOX (cutbox-rows.mjs): the forced cells as the released guide's own fill.sh prints them over the translation 612a5095c66708be… (all of the seat's roots in one cut). By AI agents, Wed Nov 11 2026. No macro, syntax, notation, axiom, sorry.
-/
import Derived.Test.YtimfeocaghccdaaGreatDoorChecked
import GoSem.PinnedTables
import GoSem.Claim
import GoSem.ClaimJoined
import GoSem.ClaimMapViews
import Derived.JoinedTies
import Derived.KernelRfl
namespace Go.Proofs.YtimfeocaghccdaaGreatDoor
/- THE CELL 'sum', in the pinned program and in every row, IS THE sha256 OF THE DUMP (.gsa) THAT YtimfeocaghccdaaGreatDoorProg.lean LOADS. Nothing in Lean hashes anything: it is a label: what it is worth is what the hold of that sum in a sandbox is worth. -/
noncomputable def Tryz.pinned : Pinned := { name := "ytimfeocaghccdaagreatdoor", sum := "612a5095c66708bed1e41d2db90ded4be91820d089e3a39b87c5778176c9852c", checked := Tryz.checked }
namespace Rows
def none {H : Type} : Left H := { results := [], args := [] }

/- WHAT THE LISTED PACKAGE-LEVEL VARIABLES READ AS WHEN THE CALL BEGINS. Each datum BY PROGRAM (the guide's laid-datum.mjs) off the statement by which the dump's own 'gosem.cut.vars' lays the variable. In a bare row this is a premise. The card (YtimfeocaghccdaaGreatDoorCards.lean) ties it to the program's text. -/
def laid_unicode_utf8_acceptRanges {H : Type} : DataW H := .agg [.agg [.lit (.int .u8 128), .lit (.int .u8 191)], .agg [.lit (.int .u8 160), .lit (.int .u8 191)], .agg [.lit (.int .u8 128), .lit (.int .u8 159)], .agg [.lit (.int .u8 144), .lit (.int .u8 191)], .agg [.lit (.int .u8 128), .lit (.int .u8 143)], .agg [.lit (.int .u8 0), .lit (.int .u8 0)], .agg [.lit (.int .u8 0), .lit (.int .u8 0)], .agg [.lit (.int .u8 0), .lit (.int .u8 0)], .agg [.lit (.int .u8 0), .lit (.int .u8 0)], .agg [.lit (.int .u8 0), .lit (.int .u8 0)], .agg [.lit (.int .u8 0), .lit (.int .u8 0)], .agg [.lit (.int .u8 0), .lit (.int .u8 0)], .agg [.lit (.int .u8 0), .lit (.int .u8 0)], .agg [.lit (.int .u8 0), .lit (.int .u8 0)], .agg [.lit (.int .u8 0), .lit (.int .u8 0)], .agg [.lit (.int .u8 0), .lit (.int .u8 0)]]
/-- One of Go's own tables, pinned by name: the form's constant. -/
def laid_unicode_utf8_first : DataW Unit := Go.Pinned.utf8First

/-- 'holtlaw08.OplogPlays': WHATEVER THE INPUT: true; the input reads as it did. -/
def oplogPlaysSpec : ChangeSpec := { name := "oplogPlays", fn := fun _ => fun
  | [d1, d2] => { results := [.lit (.bool true)], args := [d1, d2] }
  | _ => none }
def oplogPlaysRow : OpenClaim := { program := "ytimfeocaghccdaagreatdoor", sum := "612a5095c66708bed1e41d2db90ded4be91820d089e3a39b87c5778176c9852c", func := "holt/holtlaw08.OplogPlays", spec := "oplogPlays", inPlace := ["internal/bytealg.abigen_runtime_cmpstring", "maps.clone"], unfollowed := true, recurses := true, named := ["unicode/utf8.first", "unicode/utf8.acceptRanges"], apart := false, laid := [("unicode/utf8.acceptRanges", laid_unicode_utf8_acceptRanges), ("unicode/utf8.first", laid_unicode_utf8_first)] }
def OplogPlaysSaid : Prop := oplogPlaysRow.holds Tryz.pinned (OpenSpec.ofChange oplogPlaysSpec)

/-- ITS FALSE NEIGHBOUR: 'it returns false'. Refute it at one input. -/
def oplogPlaysWrong : ChangeSpec := { name := "oplogPlays", fn := fun _ => fun
  | [d1, d2] => { results := [.lit (.bool false)], args := [d1, d2] }
  | _ => none }
def OplogPlaysWrongFalsely : Prop := oplogPlaysRow.holds Tryz.pinned (OpenSpec.ofChange oplogPlaysWrong)

/-- 'holtlaw08.OplogOrder': WHATEVER THE INPUT: true; the input reads as it did. -/
def oplogOrderSpec : ChangeSpec := { name := "oplogOrder", fn := fun _ => fun
  | [d1, d2, d3, d4] => { results := [.lit (.bool true)], args := [d1, d2, d3, d4] }
  | _ => none }
def oplogOrderRow : OpenClaim := { program := "ytimfeocaghccdaagreatdoor", sum := "612a5095c66708bed1e41d2db90ded4be91820d089e3a39b87c5778176c9852c", func := "holt/holtlaw08.OplogOrder", spec := "oplogOrder", inPlace := ["internal/bytealg.abigen_runtime_cmpstring", "maps.clone"], unfollowed := true, recurses := true, named := ["unicode/utf8.first", "unicode/utf8.acceptRanges"], apart := false, laid := [("unicode/utf8.acceptRanges", laid_unicode_utf8_acceptRanges), ("unicode/utf8.first", laid_unicode_utf8_first)] }
def OplogOrderSaid : Prop := oplogOrderRow.holds Tryz.pinned (OpenSpec.ofChange oplogOrderSpec)

/-- ITS FALSE NEIGHBOUR: 'it returns false'. Refute it at one input. -/
def oplogOrderWrong : ChangeSpec := { name := "oplogOrder", fn := fun _ => fun
  | [d1, d2, d3, d4] => { results := [.lit (.bool false)], args := [d1, d2, d3, d4] }
  | _ => none }
def OplogOrderWrongFalsely : Prop := oplogOrderRow.holds Tryz.pinned (OpenSpec.ofChange oplogOrderWrong)

/-- 'holtlaw08.OplogOwn': WHATEVER THE INPUT: true; the input reads as it did. -/
def oplogOwnSpec : ChangeSpec := { name := "oplogOwn", fn := fun _ => fun
  | [d1, d2] => { results := [.lit (.bool true)], args := [d1, d2] }
  | _ => none }
def oplogOwnRow : OpenClaim := { program := "ytimfeocaghccdaagreatdoor", sum := "612a5095c66708bed1e41d2db90ded4be91820d089e3a39b87c5778176c9852c", func := "holt/holtlaw08.OplogOwn", spec := "oplogOwn", inPlace := ["internal/bytealg.abigen_runtime_cmpstring", "maps.clone"], unfollowed := true, recurses := true, named := ["unicode/utf8.first", "unicode/utf8.acceptRanges"], apart := false, laid := [("unicode/utf8.acceptRanges", laid_unicode_utf8_acceptRanges), ("unicode/utf8.first", laid_unicode_utf8_first)] }
def OplogOwnSaid : Prop := oplogOwnRow.holds Tryz.pinned (OpenSpec.ofChange oplogOwnSpec)

/-- ITS FALSE NEIGHBOUR: 'it returns false'. Refute it at one input. -/
def oplogOwnWrong : ChangeSpec := { name := "oplogOwn", fn := fun _ => fun
  | [d1, d2] => { results := [.lit (.bool false)], args := [d1, d2] }
  | _ => none }
def OplogOwnWrongFalsely : Prop := oplogOwnRow.holds Tryz.pinned (OpenSpec.ofChange oplogOwnWrong)

/-- 'holtlaw08.OplogClones': WHATEVER THE INPUT: true; the input reads as it did. -/
def oplogClonesSpec : ChangeSpec := { name := "oplogClones", fn := fun _ => fun
  | [d1, d2, d3, d4] => { results := [.lit (.bool true)], args := [d1, d2, d3, d4] }
  | _ => none }
def oplogClonesRow : OpenClaim := { program := "ytimfeocaghccdaagreatdoor", sum := "612a5095c66708bed1e41d2db90ded4be91820d089e3a39b87c5778176c9852c", func := "holt/holtlaw08.OplogClones", spec := "oplogClones", inPlace := ["internal/bytealg.abigen_runtime_cmpstring", "maps.clone"], unfollowed := true, recurses := true, named := ["unicode/utf8.first", "unicode/utf8.acceptRanges"], apart := false, laid := [("unicode/utf8.acceptRanges", laid_unicode_utf8_acceptRanges), ("unicode/utf8.first", laid_unicode_utf8_first)] }
def OplogClonesSaid : Prop := oplogClonesRow.holds Tryz.pinned (OpenSpec.ofChange oplogClonesSpec)

/-- ITS FALSE NEIGHBOUR: 'it returns false'. Refute it at one input. -/
def oplogClonesWrong : ChangeSpec := { name := "oplogClones", fn := fun _ => fun
  | [d1, d2, d3, d4] => { results := [.lit (.bool false)], args := [d1, d2, d3, d4] }
  | _ => none }
def OplogClonesWrongFalsely : Prop := oplogClonesRow.holds Tryz.pinned (OpenSpec.ofChange oplogClonesWrong)

/- THE SECOND FORM. 'bulk': how many values and letters a reading holds, each counted each time it is reached (what is shared counts as often as it is met; a slice's spare places count too). A statement '..UptoSaid' is the law's where the arguments, and the package variables that the reading takes, are together of bulk at most 1048576: NARROWER than '..Said'. Prove '..Said' where nothing that the law and all that it calls make is longer than what came in: it says more and counts as full. Else prove '..UptoSaid'. A law counts once. -/
mutual
def uptoBulk {H : Type} : DataW H → Nat
  | .lit (.string bytes) => bytes.length + 1
  | .lit _ => 1
  | .nil => 1
  | .ptr d => uptoBulk d + 1
  | .slice elems spare => uptoBulkAll elems + uptoBulkAll spare + 1
  | .agg parts => uptoBulkAll parts + 1
  | .iface _ d => uptoBulk d + 1
  | .map entries => uptoBulkEntries entries + 1
  | .held _ => 1
def uptoBulkAll {H : Type} : List (DataW H) → Nat
  | [] => 0
  | d :: r => uptoBulk d + uptoBulkAll r
def uptoBulkEntries {H : Type} : List (Lit × DataW H) → Nat
  | [] => 0
  | x :: r => uptoBulkEntry x + uptoBulkEntries r
def uptoBulkEntry {H : Type} : Lit × DataW H → Nat
  | (.string bytes, d) => bytes.length + uptoBulk d + 1
  | (_, d) => uptoBulk d + 1
 end
def uptoSmall : (H : Type) → List (DataW H) → Bool := fun _ ds => decide (uptoBulkAll ds ≤ 1048576)
def OpenSpec.upto (s : _root_.Go.ChangeSpec) : _root_.Go.OpenSpec := { _root_.Go.OpenSpec.ofChange s with cond := some uptoSmall }

/-- 'holtlaw08.OplogPlays', WHERE WHAT IT READS IS OF BULK AT MOST 1048576: true; the input reads as it did. -/
def oplogPlaysUptoRow : OpenClaim := { program := "ytimfeocaghccdaagreatdoor", sum := "612a5095c66708bed1e41d2db90ded4be91820d089e3a39b87c5778176c9852c", func := "holt/holtlaw08.OplogPlays", spec := "oplogPlays", inPlace := ["internal/bytealg.abigen_runtime_cmpstring", "maps.clone"], unfollowed := true, recurses := true, named := ["unicode/utf8.first", "unicode/utf8.acceptRanges"], apart := false, laid := [("unicode/utf8.acceptRanges", laid_unicode_utf8_acceptRanges), ("unicode/utf8.first", laid_unicode_utf8_first)], narrowed := true }
def OplogPlaysUptoSaid : Prop := oplogPlaysUptoRow.holds Tryz.pinned (OpenSpec.upto oplogPlaysSpec)

/-- 'holtlaw08.OplogOrder', WHERE WHAT IT READS IS OF BULK AT MOST 1048576: true; the input reads as it did. -/
def oplogOrderUptoRow : OpenClaim := { program := "ytimfeocaghccdaagreatdoor", sum := "612a5095c66708bed1e41d2db90ded4be91820d089e3a39b87c5778176c9852c", func := "holt/holtlaw08.OplogOrder", spec := "oplogOrder", inPlace := ["internal/bytealg.abigen_runtime_cmpstring", "maps.clone"], unfollowed := true, recurses := true, named := ["unicode/utf8.first", "unicode/utf8.acceptRanges"], apart := false, laid := [("unicode/utf8.acceptRanges", laid_unicode_utf8_acceptRanges), ("unicode/utf8.first", laid_unicode_utf8_first)], narrowed := true }
def OplogOrderUptoSaid : Prop := oplogOrderUptoRow.holds Tryz.pinned (OpenSpec.upto oplogOrderSpec)

/-- 'holtlaw08.OplogOwn', WHERE WHAT IT READS IS OF BULK AT MOST 1048576: true; the input reads as it did. -/
def oplogOwnUptoRow : OpenClaim := { program := "ytimfeocaghccdaagreatdoor", sum := "612a5095c66708bed1e41d2db90ded4be91820d089e3a39b87c5778176c9852c", func := "holt/holtlaw08.OplogOwn", spec := "oplogOwn", inPlace := ["internal/bytealg.abigen_runtime_cmpstring", "maps.clone"], unfollowed := true, recurses := true, named := ["unicode/utf8.first", "unicode/utf8.acceptRanges"], apart := false, laid := [("unicode/utf8.acceptRanges", laid_unicode_utf8_acceptRanges), ("unicode/utf8.first", laid_unicode_utf8_first)], narrowed := true }
def OplogOwnUptoSaid : Prop := oplogOwnUptoRow.holds Tryz.pinned (OpenSpec.upto oplogOwnSpec)

/-- 'holtlaw08.OplogClones', WHERE WHAT IT READS IS OF BULK AT MOST 1048576: true; the input reads as it did. -/
def oplogClonesUptoRow : OpenClaim := { program := "ytimfeocaghccdaagreatdoor", sum := "612a5095c66708bed1e41d2db90ded4be91820d089e3a39b87c5778176c9852c", func := "holt/holtlaw08.OplogClones", spec := "oplogClones", inPlace := ["internal/bytealg.abigen_runtime_cmpstring", "maps.clone"], unfollowed := true, recurses := true, named := ["unicode/utf8.first", "unicode/utf8.acceptRanges"], apart := false, laid := [("unicode/utf8.acceptRanges", laid_unicode_utf8_acceptRanges), ("unicode/utf8.first", laid_unicode_utf8_first)], narrowed := true }
def OplogClonesUptoSaid : Prop := oplogClonesUptoRow.holds Tryz.pinned (OpenSpec.upto oplogClonesSpec)

end Rows
end Go.Proofs.YtimfeocaghccdaaGreatDoor
