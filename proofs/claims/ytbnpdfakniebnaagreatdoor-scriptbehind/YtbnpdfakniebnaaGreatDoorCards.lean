/-
  DERIVED. GIVEN WITH THE SEED: THE CARDS: each row of YtbnpdfakniebnaaGreatDoorRows.lean that lists a variable, with what it lists TIED to the program's text (the seventh form; the later family's looks); each row that meets fmt, with fmt's text TOLD by the authors' own Lean function (tested against real Go, not proved from fmt's source: count such statements apart). THE CARD IS WHAT COUNTS. Prove the row's statement (the work); the ties are given (YtbnpdfakniebnaaGreatDoorTie.lean); close each card by the builder's one call (the guide's Derived/Test/ToyasCard.lean, 'card_holds'). Laid BY PROGRAM, IN A SANDBOX (cutbox-door.mjs). By AI agents, Wed Nov 11 2026. No macro, syntax, notation, axiom, sorry.
-/
import Derived.Test.YtbnpdfakniebnaaGreatDoorRows
import GoSem.ClaimSeven
namespace Go.Proofs.YtbnpdfakniebnaaGreatDoor
namespace Rows

/-- THE TIED CARD OF 'skeinlaw22.ScriptParses'. -/
def scriptParsesCard : Claim7 := { stood := { row := scriptParsesRow, standIns := [], harness := (true, "239d8806c61014bd8f734c9b220ed189f52b1f5b9170422b02d1a8001060a595"), looks := true }, kinds := [], alts := [], laidByText := true, laidKinds := [.data, .data, .data, .data, .data, .data, .wider, .pinned], laidTests := true, laidLooks := .later }
def ScriptParsesCardSaid : Prop := Claim7.holds Tryz.pinned (.plain (OpenSpec.ofChange scriptParsesSpec)) scriptParsesCard

/-- THE TIED CARD OF 'skeinlaw22.ScriptBack'. -/
def scriptBackCard : Claim7 := { stood := { row := scriptBackRow, standIns := [], harness := (true, "239d8806c61014bd8f734c9b220ed189f52b1f5b9170422b02d1a8001060a595"), looks := true }, kinds := [], alts := [], laidByText := true, laidKinds := [.data, .data, .data, .data, .handle, .wider, .pinned], laidTests := true, laidLooks := .later }
def ScriptBackCardSaid : Prop := Claim7.holds Tryz.pinned (.plain (OpenSpec.ofChange scriptBackSpec)) scriptBackCard

/-- THE TIED CARD OF 'skeinlaw22.ScriptAgain'. -/
def scriptAgainCard : Claim7 := { stood := { row := scriptAgainRow, standIns := [], harness := (true, "239d8806c61014bd8f734c9b220ed189f52b1f5b9170422b02d1a8001060a595"), looks := true }, kinds := [], alts := [], laidByText := true, laidKinds := [.data, .data, .data, .data, .data, .data, .wider, .pinned], laidTests := true, laidLooks := .later }
def ScriptAgainCardSaid : Prop := Claim7.holds Tryz.pinned (.plain (OpenSpec.ofChange scriptAgainSpec)) scriptAgainCard

/-- THE TIED CARD OF 'skeinlaw22.ScriptSpaces'. -/
def scriptSpacesCard : Claim7 := { stood := { row := scriptSpacesRow, standIns := [], harness := (true, "239d8806c61014bd8f734c9b220ed189f52b1f5b9170422b02d1a8001060a595"), looks := true }, kinds := [], alts := [], laidByText := true, laidKinds := [.data, .data, .data, .data, .wider, .pinned], laidTests := true, laidLooks := .later }
def ScriptSpacesCardSaid : Prop := Claim7.holds Tryz.pinned (.plain (OpenSpec.ofChange scriptSpacesSpec)) scriptSpacesCard

/-- THE TIED CARD OF 'skeinlaw22.ScriptUnfolds'. -/
def scriptUnfoldsCard : Claim7 := { stood := { row := scriptUnfoldsRow, standIns := [], harness := (true, "239d8806c61014bd8f734c9b220ed189f52b1f5b9170422b02d1a8001060a595"), looks := true }, kinds := [], alts := [], laidByText := true, laidKinds := [.data, .data, .data, .data, .wider, .pinned], laidTests := true, laidLooks := .later }
def ScriptUnfoldsCardSaid : Prop := Claim7.holds Tryz.pinned (.plain (OpenSpec.ofChange scriptUnfoldsSpec)) scriptUnfoldsCard

/-- THE TIED CARD OF 'skeinlaw22.ScriptBehind'. -/
def scriptBehindCard : Claim7 := { stood := { row := scriptBehindRow, standIns := [], harness := (true, "239d8806c61014bd8f734c9b220ed189f52b1f5b9170422b02d1a8001060a595"), looks := true }, kinds := [], alts := [], laidByText := true, laidKinds := [.data, .data, .data, .data, .wider, .pinned], laidTests := true, laidLooks := .later }
def ScriptBehindCardSaid : Prop := Claim7.holds Tryz.pinned (.plain (OpenSpec.ofChange scriptBehindSpec)) scriptBehindCard

/-- THE SECOND FORM's CARD OF 'skeinlaw22.ScriptParses'. -/
def scriptParsesUptoCard : Claim7 := { stood := { row := scriptParsesUptoRow, standIns := [], harness := (true, "239d8806c61014bd8f734c9b220ed189f52b1f5b9170422b02d1a8001060a595"), looks := true }, kinds := [], alts := [], laidByText := true, laidKinds := [.data, .data, .data, .data, .data, .data, .wider, .pinned], laidTests := true, laidLooks := .later }
def ScriptParsesUptoCardSaid : Prop := Claim7.holds Tryz.pinned (.plain (OpenSpec.upto scriptParsesSpec)) scriptParsesUptoCard

/-- THE SECOND FORM's CARD OF 'skeinlaw22.ScriptBack'. -/
def scriptBackUptoCard : Claim7 := { stood := { row := scriptBackUptoRow, standIns := [], harness := (true, "239d8806c61014bd8f734c9b220ed189f52b1f5b9170422b02d1a8001060a595"), looks := true }, kinds := [], alts := [], laidByText := true, laidKinds := [.data, .data, .data, .data, .handle, .wider, .pinned], laidTests := true, laidLooks := .later }
def ScriptBackUptoCardSaid : Prop := Claim7.holds Tryz.pinned (.plain (OpenSpec.upto scriptBackSpec)) scriptBackUptoCard

/-- THE SECOND FORM's CARD OF 'skeinlaw22.ScriptAgain'. -/
def scriptAgainUptoCard : Claim7 := { stood := { row := scriptAgainUptoRow, standIns := [], harness := (true, "239d8806c61014bd8f734c9b220ed189f52b1f5b9170422b02d1a8001060a595"), looks := true }, kinds := [], alts := [], laidByText := true, laidKinds := [.data, .data, .data, .data, .data, .data, .wider, .pinned], laidTests := true, laidLooks := .later }
def ScriptAgainUptoCardSaid : Prop := Claim7.holds Tryz.pinned (.plain (OpenSpec.upto scriptAgainSpec)) scriptAgainUptoCard

/-- THE SECOND FORM's CARD OF 'skeinlaw22.ScriptSpaces'. -/
def scriptSpacesUptoCard : Claim7 := { stood := { row := scriptSpacesUptoRow, standIns := [], harness := (true, "239d8806c61014bd8f734c9b220ed189f52b1f5b9170422b02d1a8001060a595"), looks := true }, kinds := [], alts := [], laidByText := true, laidKinds := [.data, .data, .data, .data, .wider, .pinned], laidTests := true, laidLooks := .later }
def ScriptSpacesUptoCardSaid : Prop := Claim7.holds Tryz.pinned (.plain (OpenSpec.upto scriptSpacesSpec)) scriptSpacesUptoCard

/-- THE SECOND FORM's CARD OF 'skeinlaw22.ScriptUnfolds'. -/
def scriptUnfoldsUptoCard : Claim7 := { stood := { row := scriptUnfoldsUptoRow, standIns := [], harness := (true, "239d8806c61014bd8f734c9b220ed189f52b1f5b9170422b02d1a8001060a595"), looks := true }, kinds := [], alts := [], laidByText := true, laidKinds := [.data, .data, .data, .data, .wider, .pinned], laidTests := true, laidLooks := .later }
def ScriptUnfoldsUptoCardSaid : Prop := Claim7.holds Tryz.pinned (.plain (OpenSpec.upto scriptUnfoldsSpec)) scriptUnfoldsUptoCard

/-- THE SECOND FORM's CARD OF 'skeinlaw22.ScriptBehind'. -/
def scriptBehindUptoCard : Claim7 := { stood := { row := scriptBehindUptoRow, standIns := [], harness := (true, "239d8806c61014bd8f734c9b220ed189f52b1f5b9170422b02d1a8001060a595"), looks := true }, kinds := [], alts := [], laidByText := true, laidKinds := [.data, .data, .data, .data, .wider, .pinned], laidTests := true, laidLooks := .later }
def ScriptBehindUptoCardSaid : Prop := Claim7.holds Tryz.pinned (.plain (OpenSpec.upto scriptBehindSpec)) scriptBehindUptoCard
end Rows
end Go.Proofs.YtbnpdfakniebnaaGreatDoor
