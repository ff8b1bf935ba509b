/-
  DERIVED. GIVEN WITH THE SEED: THE CARDS: each row of YtimfeocaghccdaaDoorRows.lean that lists a variable, with what it lists TIED to the program's text (the seventh form; the later family's looks); each row that meets fmt, with fmt's text TOLD by the authors' own Lean function (tested against real Go, not proved from fmt's source: count such statements apart). THE CARD IS WHAT COUNTS. Prove the row's statement (the work); the ties are given (YtimfeocaghccdaaDoorTie.lean); close each card by the builder's one call (the guide's Derived/Test/ToyasCard.lean, 'card_holds'). Laid BY PROGRAM, IN A SANDBOX (cutbox-door.mjs). By AI agents, Wed Nov 11 2026. No macro, syntax, notation, axiom, sorry.
-/
import Derived.Test.YtimfeocaghccdaaDoorRows
import GoSem.ClaimSeven
namespace Go.Proofs.YtimfeocaghccdaaDoor
namespace Rows

/-- THE TIED CARD OF 'holtlaw08.OplogChanges'. -/
def oplogChangesCard : Claim7 := { stood := { row := oplogChangesRow, standIns := [], harness := (true, "abbcaf62a73b68324c83b95ea504aae1cdf2fcd6e93f9ce015a9b32255f4dc28"), looks := true }, kinds := [], alts := [], laidByText := true, laidKinds := [.data, .pinned], laidTests := true, laidLooks := .later }
def OplogChangesCardSaid : Prop := Claim7.holds Tryd.pinned (.plain (OpenSpec.ofChange oplogChangesSpec)) oplogChangesCard

/-- THE TIED CARD OF 'holtlaw08.OplogFull'. -/
def oplogFullCard : Claim7 := { stood := { row := oplogFullRow, standIns := [], harness := (true, "abbcaf62a73b68324c83b95ea504aae1cdf2fcd6e93f9ce015a9b32255f4dc28"), looks := true }, kinds := [], alts := [], laidByText := true, laidKinds := [.data, .pinned], laidTests := true, laidLooks := .later }
def OplogFullCardSaid : Prop := Claim7.holds Tryd.pinned (.plain (OpenSpec.ofChange oplogFullSpec)) oplogFullCard

/-- THE TIED CARD OF 'holtlaw08.OplogOld'. -/
def oplogOldCard : Claim7 := { stood := { row := oplogOldRow, standIns := [], harness := (true, "abbcaf62a73b68324c83b95ea504aae1cdf2fcd6e93f9ce015a9b32255f4dc28"), looks := true }, kinds := [], alts := [], laidByText := true, laidKinds := [.data, .pinned], laidTests := true, laidLooks := .later }
def OplogOldCardSaid : Prop := Claim7.holds Tryd.pinned (.plain (OpenSpec.ofChange oplogOldSpec)) oplogOldCard

/-- THE SECOND FORM's CARD OF 'holtlaw08.OplogChanges'. -/
def oplogChangesUptoCard : Claim7 := { stood := { row := oplogChangesUptoRow, standIns := [], harness := (true, "abbcaf62a73b68324c83b95ea504aae1cdf2fcd6e93f9ce015a9b32255f4dc28"), looks := true }, kinds := [], alts := [], laidByText := true, laidKinds := [.data, .pinned], laidTests := true, laidLooks := .later }
def OplogChangesUptoCardSaid : Prop := Claim7.holds Tryd.pinned (.plain (OpenSpec.upto oplogChangesSpec)) oplogChangesUptoCard

/-- THE SECOND FORM's CARD OF 'holtlaw08.OplogFull'. -/
def oplogFullUptoCard : Claim7 := { stood := { row := oplogFullUptoRow, standIns := [], harness := (true, "abbcaf62a73b68324c83b95ea504aae1cdf2fcd6e93f9ce015a9b32255f4dc28"), looks := true }, kinds := [], alts := [], laidByText := true, laidKinds := [.data, .pinned], laidTests := true, laidLooks := .later }
def OplogFullUptoCardSaid : Prop := Claim7.holds Tryd.pinned (.plain (OpenSpec.upto oplogFullSpec)) oplogFullUptoCard

/-- THE SECOND FORM's CARD OF 'holtlaw08.OplogOld'. -/
def oplogOldUptoCard : Claim7 := { stood := { row := oplogOldUptoRow, standIns := [], harness := (true, "abbcaf62a73b68324c83b95ea504aae1cdf2fcd6e93f9ce015a9b32255f4dc28"), looks := true }, kinds := [], alts := [], laidByText := true, laidKinds := [.data, .pinned], laidTests := true, laidLooks := .later }
def OplogOldUptoCardSaid : Prop := Claim7.holds Tryd.pinned (.plain (OpenSpec.upto oplogOldSpec)) oplogOldUptoCard
end Rows
end Go.Proofs.YtimfeocaghccdaaDoor
