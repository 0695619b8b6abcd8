/-
  DERIVED. GIVEN WITH THE SEED: THE CARDS: each row of YtpfipdglpbmieaaGreatDoorRows.lean that lists a variable, with what it lists TIED to the program's text (the seventh form; the later family's looks); each row that meets fmt, with fmt's text TOLD by the authors' own Lean function (tested against real Go, not proved from fmt's source: count such statements apart). THE CARD IS WHAT COUNTS. Prove the row's statement (the work); the ties are given (YtpfipdglpbmieaaGreatDoorTie.lean); close each card by the builder's one call (the guide's Derived/Test/ToyasCard.lean, 'card_holds'). Laid BY PROGRAM, IN A SANDBOX (cutbox-door.mjs). By AI agents, Wed Nov 11 2026. No macro, syntax, notation, axiom, sorry.
-/
import Derived.Test.YtpfipdglpbmieaaGreatDoorRows
import GoSem.ClaimSeven
namespace Go.Proofs.YtpfipdglpbmieaaGreatDoor
namespace Rows

/-- THE TIED CARD OF 'skeinlaw12.TrieLong'. -/
def trieLongCard : Claim7 := { stood := { row := trieLongRow, standIns := [], harness := (true, "6cb482782380a34e08b5c6dd49bd3a4f6ec5d37b67d908c3aaa51af20f75200d"), looks := true }, kinds := [], alts := [], laidByText := true, laidKinds := [.called], laidTests := true, laidLooks := .later }
def TrieLongCardSaid : Prop := Claim7.holds Tryz.pinned (.plain (OpenSpec.ofChange trieLongSpec)) trieLongCard

/-- THE SECOND FORM's CARD OF 'skeinlaw12.TrieLong'. -/
def trieLongUptoCard : Claim7 := { stood := { row := trieLongUptoRow, standIns := [], harness := (true, "6cb482782380a34e08b5c6dd49bd3a4f6ec5d37b67d908c3aaa51af20f75200d"), looks := true }, kinds := [], alts := [], laidByText := true, laidKinds := [.called], laidTests := true, laidLooks := .later }
def TrieLongUptoCardSaid : Prop := Claim7.holds Tryz.pinned (.plain (OpenSpec.upto trieLongSpec)) trieLongUptoCard
end Rows
end Go.Proofs.YtpfipdglpbmieaaGreatDoor
