/-
  DERIVED. GIVEN WITH THE SEED: THE CARDS: each row of YtbielnehggcaoaaDoorRows.lean that lists a variable, with what it lists TIED to the program's text (the seventh form; the later family's looks); each row that meets fmt, with fmt's text TOLD by the authors' own Lean function (tested against real Go, not proved from fmt's source: count such statements apart). THE CARD IS WHAT COUNTS. Prove the row's statement (the work); the ties are given (YtbielnehggcaoaaDoorTie.lean); close each card by the builder's one call (the guide's Derived/Test/ToyasCard.lean, 'card_holds'). Laid BY PROGRAM, IN A SANDBOX (cutbox-door.mjs). By AI agents, Wed Nov 11 2026. No macro, syntax, notation, axiom, sorry.
-/
import Derived.Test.YtbielnehggcaoaaDoorRows
import GoSem.ClaimSeven
namespace Go.Proofs.YtbielnehggcaoaaDoor
namespace Rows

/-- THE TIED CARD OF 'skeinlaw20.JudgeOrders'. -/
def judgeOrdersCard : Claim7 := { stood := { row := judgeOrdersRow, standIns := [], harness := (true, "db5eea24aec1bd66d7d907e51e228744e8a76540f239335280054559c0fe2b73"), looks := false }, kinds := [], alts := [], laidByText := true, laidKinds := [.data], laidTests := true, laidLooks := .later }
def JudgeOrdersCardSaid : Prop := Claim7.holds Tryd.pinned (.plain (OpenSpec.ofChange judgeOrdersSpec)) judgeOrdersCard

/-- THE TIED CARD OF 'skeinlaw20.JudgeFits'. -/
def judgeFitsCard : Claim7 := { stood := { row := judgeFitsRow, standIns := [], harness := (true, "db5eea24aec1bd66d7d907e51e228744e8a76540f239335280054559c0fe2b73"), looks := false }, kinds := [], alts := [], laidByText := true, laidKinds := [.data], laidTests := true, laidLooks := .later }
def JudgeFitsCardSaid : Prop := Claim7.holds Tryd.pinned (.plain (OpenSpec.ofChange judgeFitsSpec)) judgeFitsCard

/-- THE TIED CARD OF 'skeinlaw20.JudgeVersions'. -/
def judgeVersionsCard : Claim7 := { stood := { row := judgeVersionsRow, standIns := [], harness := (true, "db5eea24aec1bd66d7d907e51e228744e8a76540f239335280054559c0fe2b73"), looks := false }, kinds := [], alts := [], laidByText := true, laidKinds := [.data], laidTests := true, laidLooks := .later }
def JudgeVersionsCardSaid : Prop := Claim7.holds Tryd.pinned (.plain (OpenSpec.ofChange judgeVersionsSpec)) judgeVersionsCard

/-- THE TIED CARD OF 'skeinlaw20.JudgeLess'. -/
def judgeLessCard : Claim7 := { stood := { row := judgeLessRow, standIns := [], harness := (true, "db5eea24aec1bd66d7d907e51e228744e8a76540f239335280054559c0fe2b73"), looks := false }, kinds := [], alts := [], laidByText := true, laidKinds := [.data], laidTests := true, laidLooks := .later }
def JudgeLessCardSaid : Prop := Claim7.holds Tryd.pinned (.plain (OpenSpec.ofChange judgeLessSpec)) judgeLessCard

/-- THE TIED CARD OF 'skeinlaw20.JudgeLong'. -/
def judgeLongCard : Claim7 := { stood := { row := judgeLongRow, standIns := [], harness := (true, "db5eea24aec1bd66d7d907e51e228744e8a76540f239335280054559c0fe2b73"), looks := false }, kinds := [], alts := [], laidByText := true, laidKinds := [.data], laidTests := true, laidLooks := .later }
def JudgeLongCardSaid : Prop := Claim7.holds Tryd.pinned (.plain (OpenSpec.ofChange judgeLongSpec)) judgeLongCard

/-- THE TIED CARD OF 'skeinlaw20.OrderLong'. -/
def orderLongCard : Claim7 := { stood := { row := orderLongRow, standIns := [], harness := (true, "db5eea24aec1bd66d7d907e51e228744e8a76540f239335280054559c0fe2b73"), looks := false }, kinds := [], alts := [], laidByText := true, laidKinds := [.data], laidTests := true, laidLooks := .later }
def OrderLongCardSaid : Prop := Claim7.holds Tryd.pinned (.plain (OpenSpec.ofChange orderLongSpec)) orderLongCard

/-- THE SECOND FORM's CARD OF 'skeinlaw20.JudgeOrders'. -/
def judgeOrdersUptoCard : Claim7 := { stood := { row := judgeOrdersUptoRow, standIns := [], harness := (true, "db5eea24aec1bd66d7d907e51e228744e8a76540f239335280054559c0fe2b73"), looks := false }, kinds := [], alts := [], laidByText := true, laidKinds := [.data], laidTests := true, laidLooks := .later }
def JudgeOrdersUptoCardSaid : Prop := Claim7.holds Tryd.pinned (.plain (OpenSpec.upto judgeOrdersSpec)) judgeOrdersUptoCard

/-- THE SECOND FORM's CARD OF 'skeinlaw20.JudgeFits'. -/
def judgeFitsUptoCard : Claim7 := { stood := { row := judgeFitsUptoRow, standIns := [], harness := (true, "db5eea24aec1bd66d7d907e51e228744e8a76540f239335280054559c0fe2b73"), looks := false }, kinds := [], alts := [], laidByText := true, laidKinds := [.data], laidTests := true, laidLooks := .later }
def JudgeFitsUptoCardSaid : Prop := Claim7.holds Tryd.pinned (.plain (OpenSpec.upto judgeFitsSpec)) judgeFitsUptoCard

/-- THE SECOND FORM's CARD OF 'skeinlaw20.JudgeVersions'. -/
def judgeVersionsUptoCard : Claim7 := { stood := { row := judgeVersionsUptoRow, standIns := [], harness := (true, "db5eea24aec1bd66d7d907e51e228744e8a76540f239335280054559c0fe2b73"), looks := false }, kinds := [], alts := [], laidByText := true, laidKinds := [.data], laidTests := true, laidLooks := .later }
def JudgeVersionsUptoCardSaid : Prop := Claim7.holds Tryd.pinned (.plain (OpenSpec.upto judgeVersionsSpec)) judgeVersionsUptoCard

/-- THE SECOND FORM's CARD OF 'skeinlaw20.JudgeLess'. -/
def judgeLessUptoCard : Claim7 := { stood := { row := judgeLessUptoRow, standIns := [], harness := (true, "db5eea24aec1bd66d7d907e51e228744e8a76540f239335280054559c0fe2b73"), looks := false }, kinds := [], alts := [], laidByText := true, laidKinds := [.data], laidTests := true, laidLooks := .later }
def JudgeLessUptoCardSaid : Prop := Claim7.holds Tryd.pinned (.plain (OpenSpec.upto judgeLessSpec)) judgeLessUptoCard

/-- THE SECOND FORM's CARD OF 'skeinlaw20.JudgeLong'. -/
def judgeLongUptoCard : Claim7 := { stood := { row := judgeLongUptoRow, standIns := [], harness := (true, "db5eea24aec1bd66d7d907e51e228744e8a76540f239335280054559c0fe2b73"), looks := false }, kinds := [], alts := [], laidByText := true, laidKinds := [.data], laidTests := true, laidLooks := .later }
def JudgeLongUptoCardSaid : Prop := Claim7.holds Tryd.pinned (.plain (OpenSpec.upto judgeLongSpec)) judgeLongUptoCard

/-- THE SECOND FORM's CARD OF 'skeinlaw20.OrderLong'. -/
def orderLongUptoCard : Claim7 := { stood := { row := orderLongUptoRow, standIns := [], harness := (true, "db5eea24aec1bd66d7d907e51e228744e8a76540f239335280054559c0fe2b73"), looks := false }, kinds := [], alts := [], laidByText := true, laidKinds := [.data], laidTests := true, laidLooks := .later }
def OrderLongUptoCardSaid : Prop := Claim7.holds Tryd.pinned (.plain (OpenSpec.upto orderLongSpec)) orderLongUptoCard
end Rows
end Go.Proofs.YtbielnehggcaoaaDoor
