/-
  DERIVED. GIVEN WITH THE SEED: THE CARDS: each row of YtloljphbdfjgdaaGreatDoorRows.lean that lists a variable, with what it lists TIED to the program's text (the seventh form; the later family's looks); each row that meets fmt, with fmt's text TOLD by the authors' own Lean function (tested against real Go, not proved from fmt's source: count such statements apart). THE CARD IS WHAT COUNTS. Prove the row's statement (the work); the ties are given (YtloljphbdfjgdaaGreatDoorTie.lean); close each card by the builder's one call (the guide's Derived/Test/ToyasCard.lean, 'card_holds'). Laid BY PROGRAM, IN A SANDBOX (cutbox-door.mjs). By AI agents, Wed Nov 11 2026. No macro, syntax, notation, axiom, sorry.
-/
import Derived.Test.YtloljphbdfjgdaaGreatDoorRows
import GoSem.ClaimSeven
namespace Go.Proofs.YtloljphbdfjgdaaGreatDoor
namespace Rows

/-- THE TIED CARD OF 'skeinlaw12.TrieMaps'. -/
def trieMapsCard : Claim7 := { stood := { row := trieMapsRow, standIns := [], harness := (true, "6086b420a3f9e9a511acb1a8d243cbd7d3db8878fee71ef949457a567e25051b"), looks := true }, kinds := [], alts := [], laidByText := true, laidKinds := [.called], laidTests := true, laidLooks := .later }
def TrieMapsCardSaid : Prop := Claim7.holds Tryz.pinned (.plain (OpenSpec.ofChange trieMapsSpec)) trieMapsCard

/-- THE TIED CARD OF 'skeinlaw12.TrieDiffs'. -/
def trieDiffsCard : Claim7 := { stood := { row := trieDiffsRow, standIns := [], harness := (true, "6086b420a3f9e9a511acb1a8d243cbd7d3db8878fee71ef949457a567e25051b"), looks := true }, kinds := [], alts := [], laidByText := true, laidKinds := [.called], laidTests := true, laidLooks := .later }
def TrieDiffsCardSaid : Prop := Claim7.holds Tryz.pinned (.plain (OpenSpec.ofChange trieDiffsSpec)) trieDiffsCard

/-- THE SECOND FORM's CARD OF 'skeinlaw12.TrieMaps'. -/
def trieMapsUptoCard : Claim7 := { stood := { row := trieMapsUptoRow, standIns := [], harness := (true, "6086b420a3f9e9a511acb1a8d243cbd7d3db8878fee71ef949457a567e25051b"), looks := true }, kinds := [], alts := [], laidByText := true, laidKinds := [.called], laidTests := true, laidLooks := .later }
def TrieMapsUptoCardSaid : Prop := Claim7.holds Tryz.pinned (.plain (OpenSpec.upto trieMapsSpec)) trieMapsUptoCard

/-- THE SECOND FORM's CARD OF 'skeinlaw12.TrieDiffs'. -/
def trieDiffsUptoCard : Claim7 := { stood := { row := trieDiffsUptoRow, standIns := [], harness := (true, "6086b420a3f9e9a511acb1a8d243cbd7d3db8878fee71ef949457a567e25051b"), looks := true }, kinds := [], alts := [], laidByText := true, laidKinds := [.called], laidTests := true, laidLooks := .later }
def TrieDiffsUptoCardSaid : Prop := Claim7.holds Tryz.pinned (.plain (OpenSpec.upto trieDiffsSpec)) trieDiffsUptoCard
end Rows
end Go.Proofs.YtloljphbdfjgdaaGreatDoor
