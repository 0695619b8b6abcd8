/-
  DERIVED. GIVEN WITH THE SEED: THE CARDS: each row of YtcinlaacgbfojaaGreatDoorRows.lean that lists a variable, with what it lists TIED to the program's text (the seventh form; the later family's looks); each row that meets fmt, with fmt's text TOLD by the authors' own Lean function (tested against real Go, not proved from fmt's source: count such statements apart). THE CARD IS WHAT COUNTS. Prove the row's statement (the work); the ties are given (YtcinlaacgbfojaaGreatDoorTie.lean); close each card by the builder's one call (the guide's Derived/Test/ToyasCard.lean, 'card_holds'). Laid BY PROGRAM, IN A SANDBOX (cutbox-door.mjs). By AI agents, Wed Nov 11 2026. No macro, syntax, notation, axiom, sorry.
-/
import Derived.Test.YtcinlaacgbfojaaGreatDoorRows
import GoSem.ClaimSeven
namespace Go.Proofs.YtcinlaacgbfojaaGreatDoor
namespace Rows

/-- THE TIED CARD OF 'skeinlaw12.TrieOrders'. -/
def trieOrdersCard : Claim7 := { stood := { row := trieOrdersRow, standIns := [], harness := (true, "493cc13ac5d58d7bca2e3eee2857b96b63ac58e243f5132e875163c894f8a16d"), looks := true }, kinds := [], alts := [], laidByText := true, laidKinds := [.called], laidTests := true, laidLooks := .later }
def TrieOrdersCardSaid : Prop := Claim7.holds Tryz.pinned (.plain (OpenSpec.ofChange trieOrdersSpec)) trieOrdersCard

/-- THE SECOND FORM's CARD OF 'skeinlaw12.TrieOrders'. -/
def trieOrdersUptoCard : Claim7 := { stood := { row := trieOrdersUptoRow, standIns := [], harness := (true, "493cc13ac5d58d7bca2e3eee2857b96b63ac58e243f5132e875163c894f8a16d"), looks := true }, kinds := [], alts := [], laidByText := true, laidKinds := [.called], laidTests := true, laidLooks := .later }
def TrieOrdersUptoCardSaid : Prop := Claim7.holds Tryz.pinned (.plain (OpenSpec.upto trieOrdersSpec)) trieOrdersUptoCard
end Rows
end Go.Proofs.YtcinlaacgbfojaaGreatDoor
