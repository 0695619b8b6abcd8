/-
  NARROWER THAN 'FOR EVERY INPUT', by the rows' own cells (each row's printed sentence says how): JudgeOrders: laid · JudgeFits: laid · JudgeVersions: laid · JudgeLess: laid · JudgeLong: laid · OrderLong: laid.
  DERIVED. THE GIVEN ROWS OF THIS SEAT. 6 by the template 'for every input the law returns true; each argument reads behind the call as it read before'; 0 by the template 'total and deterministic' (their statements: YtbielnehggcaoaaDoorTotals.lean).
  GIVEN WITH THE SEED: the statements are not yours to turn. If you find one false, say at which input.
  Laid BY PROGRAM, IN A SANDBOX (cutbox-rows.mjs): the forced cells as the released guide's own fill.sh prints them over the translation 222f7853fffcf9da… (all of the seat's roots in one cut). By AI agents, Wed Nov 11 2026. No macro, syntax, notation, axiom, sorry.
-/
import Derived.Test.YtbielnehggcaoaaDoorChecked
import GoSem.Claim
import GoSem.ClaimJoined
import GoSem.ClaimMapViews
import Derived.JoinedTies
import Derived.KernelRfl
namespace Go.Proofs.YtbielnehggcaoaaDoor
/- THE CELL 'sum', in the pinned program and in every row, IS THE sha256 OF THE DUMP (.gsa) THAT YtbielnehggcaoaaDoorProg.lean LOADS. Nothing in Lean hashes anything: it is a label: what it is worth is what the hold of that sum in a sandbox is worth. -/
noncomputable def Tryd.pinned : Pinned := { name := "ytbielnehggcaoaadoor", sum := "222f7853fffcf9da262e0447f38e619a0a488155cbbde5895eb4e6ca20c0ed2b", checked := Tryd.checked }
namespace Rows
def none {H : Type} : Left H := { results := [], args := [] }

/- WHAT THE LISTED PACKAGE-LEVEL VARIABLES READ AS WHEN THE CALL BEGINS. Each datum BY PROGRAM (the guide's laid-datum.mjs) off the statement by which the dump's own 'gosem.cut.vars' lays the variable. In a bare row this is a premise. The card (YtbielnehggcaoaaDoorCards.lean) ties it to the program's text. -/
def laid_math_bits_deBruijn64tab {H : Type} : DataW H := .agg [.lit (.int .u8 0), .lit (.int .u8 1), .lit (.int .u8 56), .lit (.int .u8 2), .lit (.int .u8 57), .lit (.int .u8 49), .lit (.int .u8 28), .lit (.int .u8 3), .lit (.int .u8 61), .lit (.int .u8 58), .lit (.int .u8 42), .lit (.int .u8 50), .lit (.int .u8 38), .lit (.int .u8 29), .lit (.int .u8 17), .lit (.int .u8 4), .lit (.int .u8 62), .lit (.int .u8 47), .lit (.int .u8 59), .lit (.int .u8 36), .lit (.int .u8 45), .lit (.int .u8 43), .lit (.int .u8 51), .lit (.int .u8 22), .lit (.int .u8 53), .lit (.int .u8 39), .lit (.int .u8 33), .lit (.int .u8 30), .lit (.int .u8 24), .lit (.int .u8 18), .lit (.int .u8 12), .lit (.int .u8 5), .lit (.int .u8 63), .lit (.int .u8 55), .lit (.int .u8 48), .lit (.int .u8 27), .lit (.int .u8 60), .lit (.int .u8 41), .lit (.int .u8 37), .lit (.int .u8 16), .lit (.int .u8 46), .lit (.int .u8 35), .lit (.int .u8 44), .lit (.int .u8 21), .lit (.int .u8 52), .lit (.int .u8 32), .lit (.int .u8 23), .lit (.int .u8 11), .lit (.int .u8 54), .lit (.int .u8 26), .lit (.int .u8 40), .lit (.int .u8 15), .lit (.int .u8 34), .lit (.int .u8 20), .lit (.int .u8 31), .lit (.int .u8 10), .lit (.int .u8 25), .lit (.int .u8 14), .lit (.int .u8 19), .lit (.int .u8 9), .lit (.int .u8 13), .lit (.int .u8 8), .lit (.int .u8 7), .lit (.int .u8 6)]

/-- 'skeinlaw20.JudgeOrders': WHATEVER THE INPUT: true; the input reads as it did. -/
def judgeOrdersSpec : ChangeSpec := { name := "judgeOrders", fn := fun _ => fun
  | [d1, d2] => { results := [.lit (.bool true)], args := [d1, d2] }
  | _ => none }
def judgeOrdersRow : OpenClaim := { program := "ytbielnehggcaoaadoor", sum := "222f7853fffcf9da262e0447f38e619a0a488155cbbde5895eb4e6ca20c0ed2b", func := "skein/skeinlaw20.JudgeOrders", spec := "judgeOrders", unfollowed := true, recurses := true, named := ["math/bits.deBruijn64tab"], plainKeys := false, apart := false, laid := [("math/bits.deBruijn64tab", laid_math_bits_deBruijn64tab)] }
def JudgeOrdersSaid : Prop := judgeOrdersRow.holds Tryd.pinned (OpenSpec.ofChange judgeOrdersSpec)

/-- ITS FALSE NEIGHBOUR: 'it returns false'. Refute it at one input. -/
def judgeOrdersWrong : ChangeSpec := { name := "judgeOrders", fn := fun _ => fun
  | [d1, d2] => { results := [.lit (.bool false)], args := [d1, d2] }
  | _ => none }
def JudgeOrdersWrongFalsely : Prop := judgeOrdersRow.holds Tryd.pinned (OpenSpec.ofChange judgeOrdersWrong)

/-- 'skeinlaw20.JudgeFits': WHATEVER THE INPUT: true; the input reads as it did. -/
def judgeFitsSpec : ChangeSpec := { name := "judgeFits", fn := fun _ => fun
  | [d1, d2] => { results := [.lit (.bool true)], args := [d1, d2] }
  | _ => none }
def judgeFitsRow : OpenClaim := { program := "ytbielnehggcaoaadoor", sum := "222f7853fffcf9da262e0447f38e619a0a488155cbbde5895eb4e6ca20c0ed2b", func := "skein/skeinlaw20.JudgeFits", spec := "judgeFits", unfollowed := true, recurses := true, named := ["math/bits.deBruijn64tab"], plainKeys := false, apart := false, laid := [("math/bits.deBruijn64tab", laid_math_bits_deBruijn64tab)] }
def JudgeFitsSaid : Prop := judgeFitsRow.holds Tryd.pinned (OpenSpec.ofChange judgeFitsSpec)

/-- ITS FALSE NEIGHBOUR: 'it returns false'. Refute it at one input. -/
def judgeFitsWrong : ChangeSpec := { name := "judgeFits", fn := fun _ => fun
  | [d1, d2] => { results := [.lit (.bool false)], args := [d1, d2] }
  | _ => none }
def JudgeFitsWrongFalsely : Prop := judgeFitsRow.holds Tryd.pinned (OpenSpec.ofChange judgeFitsWrong)

/-- 'skeinlaw20.JudgeVersions': WHATEVER THE INPUT: true; the input reads as it did. -/
def judgeVersionsSpec : ChangeSpec := { name := "judgeVersions", fn := fun _ => fun
  | [d1, d2] => { results := [.lit (.bool true)], args := [d1, d2] }
  | _ => none }
def judgeVersionsRow : OpenClaim := { program := "ytbielnehggcaoaadoor", sum := "222f7853fffcf9da262e0447f38e619a0a488155cbbde5895eb4e6ca20c0ed2b", func := "skein/skeinlaw20.JudgeVersions", spec := "judgeVersions", unfollowed := true, recurses := true, named := ["math/bits.deBruijn64tab"], plainKeys := false, apart := false, laid := [("math/bits.deBruijn64tab", laid_math_bits_deBruijn64tab)] }
def JudgeVersionsSaid : Prop := judgeVersionsRow.holds Tryd.pinned (OpenSpec.ofChange judgeVersionsSpec)

/-- ITS FALSE NEIGHBOUR: 'it returns false'. Refute it at one input. -/
def judgeVersionsWrong : ChangeSpec := { name := "judgeVersions", fn := fun _ => fun
  | [d1, d2] => { results := [.lit (.bool false)], args := [d1, d2] }
  | _ => none }
def JudgeVersionsWrongFalsely : Prop := judgeVersionsRow.holds Tryd.pinned (OpenSpec.ofChange judgeVersionsWrong)

/-- 'skeinlaw20.JudgeLess': WHATEVER THE INPUT: true; the input reads as it did. -/
def judgeLessSpec : ChangeSpec := { name := "judgeLess", fn := fun _ => fun
  | [d1, d2, d3] => { results := [.lit (.bool true)], args := [d1, d2, d3] }
  | _ => none }
def judgeLessRow : OpenClaim := { program := "ytbielnehggcaoaadoor", sum := "222f7853fffcf9da262e0447f38e619a0a488155cbbde5895eb4e6ca20c0ed2b", func := "skein/skeinlaw20.JudgeLess", spec := "judgeLess", unfollowed := true, recurses := true, named := ["math/bits.deBruijn64tab"], plainKeys := false, apart := false, laid := [("math/bits.deBruijn64tab", laid_math_bits_deBruijn64tab)] }
def JudgeLessSaid : Prop := judgeLessRow.holds Tryd.pinned (OpenSpec.ofChange judgeLessSpec)

/-- ITS FALSE NEIGHBOUR: 'it returns false'. Refute it at one input. -/
def judgeLessWrong : ChangeSpec := { name := "judgeLess", fn := fun _ => fun
  | [d1, d2, d3] => { results := [.lit (.bool false)], args := [d1, d2, d3] }
  | _ => none }
def JudgeLessWrongFalsely : Prop := judgeLessRow.holds Tryd.pinned (OpenSpec.ofChange judgeLessWrong)

/-- 'skeinlaw20.JudgeLong': WHATEVER THE INPUT: true; the input reads as it did. -/
def judgeLongSpec : ChangeSpec := { name := "judgeLong", fn := fun _ => fun
  | [d1, d2, d3] => { results := [.lit (.bool true)], args := [d1, d2, d3] }
  | _ => none }
def judgeLongRow : OpenClaim := { program := "ytbielnehggcaoaadoor", sum := "222f7853fffcf9da262e0447f38e619a0a488155cbbde5895eb4e6ca20c0ed2b", func := "skein/skeinlaw20.JudgeLong", spec := "judgeLong", unfollowed := true, recurses := true, named := ["math/bits.deBruijn64tab"], plainKeys := false, apart := false, laid := [("math/bits.deBruijn64tab", laid_math_bits_deBruijn64tab)] }
def JudgeLongSaid : Prop := judgeLongRow.holds Tryd.pinned (OpenSpec.ofChange judgeLongSpec)

/-- ITS FALSE NEIGHBOUR: 'it returns false'. Refute it at one input. -/
def judgeLongWrong : ChangeSpec := { name := "judgeLong", fn := fun _ => fun
  | [d1, d2, d3] => { results := [.lit (.bool false)], args := [d1, d2, d3] }
  | _ => none }
def JudgeLongWrongFalsely : Prop := judgeLongRow.holds Tryd.pinned (OpenSpec.ofChange judgeLongWrong)

/-- 'skeinlaw20.OrderLong': WHATEVER THE INPUT: true; the input reads as it did. -/
def orderLongSpec : ChangeSpec := { name := "orderLong", fn := fun _ => fun
  | [d1, d2] => { results := [.lit (.bool true)], args := [d1, d2] }
  | _ => none }
def orderLongRow : OpenClaim := { program := "ytbielnehggcaoaadoor", sum := "222f7853fffcf9da262e0447f38e619a0a488155cbbde5895eb4e6ca20c0ed2b", func := "skein/skeinlaw20.OrderLong", spec := "orderLong", unfollowed := true, recurses := true, named := ["math/bits.deBruijn64tab"], plainKeys := false, apart := false, laid := [("math/bits.deBruijn64tab", laid_math_bits_deBruijn64tab)] }
def OrderLongSaid : Prop := orderLongRow.holds Tryd.pinned (OpenSpec.ofChange orderLongSpec)

/-- ITS FALSE NEIGHBOUR: 'it returns false'. Refute it at one input. -/
def orderLongWrong : ChangeSpec := { name := "orderLong", fn := fun _ => fun
  | [d1, d2] => { results := [.lit (.bool false)], args := [d1, d2] }
  | _ => none }
def OrderLongWrongFalsely : Prop := orderLongRow.holds Tryd.pinned (OpenSpec.ofChange orderLongWrong)

/- THE SECOND FORM. 'bulk': how many values and letters a reading holds, each counted each time it is reached (what is shared counts as often as it is met; a slice's spare places count too). A statement '..UptoSaid' is the law's where the arguments, and the package variables that the reading takes, are together of bulk at most 1048576: NARROWER than '..Said'. Prove '..Said' where nothing that the law and all that it calls make is longer than what came in: it says more and counts as full. Else prove '..UptoSaid'. A law counts once. -/
mutual
def uptoBulk {H : Type} : DataW H → Nat
  | .lit (.string bytes) => bytes.length + 1
  | .lit _ => 1
  | .nil => 1
  | .ptr d => uptoBulk d + 1
  | .slice elems spare => uptoBulkAll elems + uptoBulkAll spare + 1
  | .agg parts => uptoBulkAll parts + 1
  | .iface _ d => uptoBulk d + 1
  | .map entries => uptoBulkEntries entries + 1
  | .held _ => 1
def uptoBulkAll {H : Type} : List (DataW H) → Nat
  | [] => 0
  | d :: r => uptoBulk d + uptoBulkAll r
def uptoBulkEntries {H : Type} : List (Lit × DataW H) → Nat
  | [] => 0
  | x :: r => uptoBulkEntry x + uptoBulkEntries r
def uptoBulkEntry {H : Type} : Lit × DataW H → Nat
  | (.string bytes, d) => bytes.length + uptoBulk d + 1
  | (_, d) => uptoBulk d + 1
 end
def uptoSmall : (H : Type) → List (DataW H) → Bool := fun _ ds => decide (uptoBulkAll ds ≤ 1048576)
def OpenSpec.upto (s : _root_.Go.ChangeSpec) : _root_.Go.OpenSpec := { _root_.Go.OpenSpec.ofChange s with cond := some uptoSmall }

/-- 'skeinlaw20.JudgeOrders', WHERE WHAT IT READS IS OF BULK AT MOST 1048576: true; the input reads as it did. -/
def judgeOrdersUptoRow : OpenClaim := { program := "ytbielnehggcaoaadoor", sum := "222f7853fffcf9da262e0447f38e619a0a488155cbbde5895eb4e6ca20c0ed2b", func := "skein/skeinlaw20.JudgeOrders", spec := "judgeOrders", unfollowed := true, recurses := true, named := ["math/bits.deBruijn64tab"], plainKeys := false, apart := false, laid := [("math/bits.deBruijn64tab", laid_math_bits_deBruijn64tab)], narrowed := true }
def JudgeOrdersUptoSaid : Prop := judgeOrdersUptoRow.holds Tryd.pinned (OpenSpec.upto judgeOrdersSpec)

/-- 'skeinlaw20.JudgeFits', WHERE WHAT IT READS IS OF BULK AT MOST 1048576: true; the input reads as it did. -/
def judgeFitsUptoRow : OpenClaim := { program := "ytbielnehggcaoaadoor", sum := "222f7853fffcf9da262e0447f38e619a0a488155cbbde5895eb4e6ca20c0ed2b", func := "skein/skeinlaw20.JudgeFits", spec := "judgeFits", unfollowed := true, recurses := true, named := ["math/bits.deBruijn64tab"], plainKeys := false, apart := false, laid := [("math/bits.deBruijn64tab", laid_math_bits_deBruijn64tab)], narrowed := true }
def JudgeFitsUptoSaid : Prop := judgeFitsUptoRow.holds Tryd.pinned (OpenSpec.upto judgeFitsSpec)

/-- 'skeinlaw20.JudgeVersions', WHERE WHAT IT READS IS OF BULK AT MOST 1048576: true; the input reads as it did. -/
def judgeVersionsUptoRow : OpenClaim := { program := "ytbielnehggcaoaadoor", sum := "222f7853fffcf9da262e0447f38e619a0a488155cbbde5895eb4e6ca20c0ed2b", func := "skein/skeinlaw20.JudgeVersions", spec := "judgeVersions", unfollowed := true, recurses := true, named := ["math/bits.deBruijn64tab"], plainKeys := false, apart := false, laid := [("math/bits.deBruijn64tab", laid_math_bits_deBruijn64tab)], narrowed := true }
def JudgeVersionsUptoSaid : Prop := judgeVersionsUptoRow.holds Tryd.pinned (OpenSpec.upto judgeVersionsSpec)

/-- 'skeinlaw20.JudgeLess', WHERE WHAT IT READS IS OF BULK AT MOST 1048576: true; the input reads as it did. -/
def judgeLessUptoRow : OpenClaim := { program := "ytbielnehggcaoaadoor", sum := "222f7853fffcf9da262e0447f38e619a0a488155cbbde5895eb4e6ca20c0ed2b", func := "skein/skeinlaw20.JudgeLess", spec := "judgeLess", unfollowed := true, recurses := true, named := ["math/bits.deBruijn64tab"], plainKeys := false, apart := false, laid := [("math/bits.deBruijn64tab", laid_math_bits_deBruijn64tab)], narrowed := true }
def JudgeLessUptoSaid : Prop := judgeLessUptoRow.holds Tryd.pinned (OpenSpec.upto judgeLessSpec)

/-- 'skeinlaw20.JudgeLong', WHERE WHAT IT READS IS OF BULK AT MOST 1048576: true; the input reads as it did. -/
def judgeLongUptoRow : OpenClaim := { program := "ytbielnehggcaoaadoor", sum := "222f7853fffcf9da262e0447f38e619a0a488155cbbde5895eb4e6ca20c0ed2b", func := "skein/skeinlaw20.JudgeLong", spec := "judgeLong", unfollowed := true, recurses := true, named := ["math/bits.deBruijn64tab"], plainKeys := false, apart := false, laid := [("math/bits.deBruijn64tab", laid_math_bits_deBruijn64tab)], narrowed := true }
def JudgeLongUptoSaid : Prop := judgeLongUptoRow.holds Tryd.pinned (OpenSpec.upto judgeLongSpec)

/-- 'skeinlaw20.OrderLong', WHERE WHAT IT READS IS OF BULK AT MOST 1048576: true; the input reads as it did. -/
def orderLongUptoRow : OpenClaim := { program := "ytbielnehggcaoaadoor", sum := "222f7853fffcf9da262e0447f38e619a0a488155cbbde5895eb4e6ca20c0ed2b", func := "skein/skeinlaw20.OrderLong", spec := "orderLong", unfollowed := true, recurses := true, named := ["math/bits.deBruijn64tab"], plainKeys := false, apart := false, laid := [("math/bits.deBruijn64tab", laid_math_bits_deBruijn64tab)], narrowed := true }
def OrderLongUptoSaid : Prop := orderLongUptoRow.holds Tryd.pinned (OpenSpec.upto orderLongSpec)

end Rows
end Go.Proofs.YtbielnehggcaoaaDoor
