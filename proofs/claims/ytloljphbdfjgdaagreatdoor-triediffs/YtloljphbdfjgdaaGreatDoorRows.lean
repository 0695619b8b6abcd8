/-
  NARROWER THAN 'FOR EVERY INPUT', by the rows' own cells (each row's printed sentence says how): TrieMaps: laid · TrieDiffs: laid.
  DERIVED. THE GIVEN ROWS OF THIS SEAT. 2 by the template 'for every input the law returns true; each argument reads behind the call as it read before'; 0 by the template 'total and deterministic' (their statements: YtloljphbdfjgdaaGreatDoorTotals.lean).
  GIVEN WITH THE SEED: the statements are not yours to turn. If you find one false, say at which input.
  Laid BY PROGRAM, IN A SANDBOX (cutbox-rows.mjs): the forced cells as the released guide's own fill.sh prints them over the translation 6b4ce1f05b11a9e3… (all of the seat's roots in one cut). By AI agents, Wed Nov 11 2026. No macro, syntax, notation, axiom, sorry.
-/
import Derived.Test.YtloljphbdfjgdaaGreatDoorChecked
import GoSem.Claim
import GoSem.ClaimJoined
import GoSem.ClaimMapViews
import Derived.JoinedTies
import Derived.KernelRfl
namespace Go.Proofs.YtloljphbdfjgdaaGreatDoor
/- THE CELL 'sum', in the pinned program and in every row, IS THE sha256 OF THE DUMP (.gsa) THAT YtloljphbdfjgdaaGreatDoorProg.lean LOADS. Nothing in Lean hashes anything: it is a label: what it is worth is what the hold of that sum in a sandbox is worth. -/
noncomputable def Tryz.pinned : Pinned := { name := "ytloljphbdfjgdaagreatdoor", sum := "6b4ce1f05b11a9e39fa1437bad8e1978682fcbe229ef57c588beea2d224b5963", checked := Tryz.checked }
namespace Rows
def none {H : Type} : Left H := { results := [], args := [] }

/- WHAT THE LISTED PACKAGE-LEVEL VARIABLES READ AS WHEN THE CALL BEGINS. Each datum BY PROGRAM (the guide's laid-datum.mjs) off the statement by which the dump's own 'gosem.cut.vars' lays the variable. In a bare row this is a premise. The card (YtloljphbdfjgdaaGreatDoorCards.lean) ties it to the program's text. -/
def laid_skein_word_bitAt {H : Type} : DataW H := .agg [.lit (.int .i64 1), .lit (.int .i64 2), .lit (.int .i64 4), .lit (.int .i64 8), .lit (.int .i64 16), .lit (.int .i64 32), .lit (.int .i64 64), .lit (.int .i64 128), .lit (.int .i64 256), .lit (.int .i64 512), .lit (.int .i64 1024), .lit (.int .i64 2048), .lit (.int .i64 4096), .lit (.int .i64 8192), .lit (.int .i64 16384), .lit (.int .i64 32768), .lit (.int .i64 65536), .lit (.int .i64 131072), .lit (.int .i64 262144), .lit (.int .i64 524288), .lit (.int .i64 1048576), .lit (.int .i64 2097152), .lit (.int .i64 4194304), .lit (.int .i64 8388608), .lit (.int .i64 16777216), .lit (.int .i64 33554432), .lit (.int .i64 67108864), .lit (.int .i64 134217728), .lit (.int .i64 268435456), .lit (.int .i64 536870912), .lit (.int .i64 1073741824), .lit (.int .i64 2147483648)]

/-- 'skeinlaw12.TrieMaps': WHATEVER THE INPUT: true; the input reads as it did. -/
def trieMapsSpec : ChangeSpec := { name := "trieMaps", fn := fun _ => fun
  | [d1, d2, d3, d4] => { results := [.lit (.bool true)], args := [d1, d2, d3, d4] }
  | _ => none }
def trieMapsRow : OpenClaim := { program := "ytloljphbdfjgdaagreatdoor", sum := "6b4ce1f05b11a9e39fa1437bad8e1978682fcbe229ef57c588beea2d224b5963", func := "skein/skeinlaw12.TrieMaps", spec := "trieMaps", inPlace := ["sync/atomic.StoreInt64", "sync/atomic.StorePointer", "sync/atomic.LoadInt64", "sync/atomic.CompareAndSwapInt64", "sync/atomic.LoadPointer", "sync/atomic.CompareAndSwapPointer", "sync/atomic.AddInt64"], unfollowed := true, recurses := true, named := ["skein/word.bitAt"], apart := false, laid := [("skein/word.bitAt", laid_skein_word_bitAt)] }
def TrieMapsSaid : Prop := trieMapsRow.holds Tryz.pinned (OpenSpec.ofChange trieMapsSpec)

/-- ITS FALSE NEIGHBOUR: 'it returns false'. Refute it at one input. -/
def trieMapsWrong : ChangeSpec := { name := "trieMaps", fn := fun _ => fun
  | [d1, d2, d3, d4] => { results := [.lit (.bool false)], args := [d1, d2, d3, d4] }
  | _ => none }
def TrieMapsWrongFalsely : Prop := trieMapsRow.holds Tryz.pinned (OpenSpec.ofChange trieMapsWrong)

/-- 'skeinlaw12.TrieDiffs': WHATEVER THE INPUT: true; the input reads as it did. -/
def trieDiffsSpec : ChangeSpec := { name := "trieDiffs", fn := fun _ => fun
  | [d1, d2, d3] => { results := [.lit (.bool true)], args := [d1, d2, d3] }
  | _ => none }
def trieDiffsRow : OpenClaim := { program := "ytloljphbdfjgdaagreatdoor", sum := "6b4ce1f05b11a9e39fa1437bad8e1978682fcbe229ef57c588beea2d224b5963", func := "skein/skeinlaw12.TrieDiffs", spec := "trieDiffs", inPlace := ["sync/atomic.StoreInt64", "sync/atomic.StorePointer", "sync/atomic.LoadInt64", "sync/atomic.CompareAndSwapInt64", "sync/atomic.LoadPointer", "sync/atomic.CompareAndSwapPointer", "sync/atomic.AddInt64"], unfollowed := true, recurses := true, named := ["skein/word.bitAt"], apart := false, laid := [("skein/word.bitAt", laid_skein_word_bitAt)] }
def TrieDiffsSaid : Prop := trieDiffsRow.holds Tryz.pinned (OpenSpec.ofChange trieDiffsSpec)

/-- ITS FALSE NEIGHBOUR: 'it returns false'. Refute it at one input. -/
def trieDiffsWrong : ChangeSpec := { name := "trieDiffs", fn := fun _ => fun
  | [d1, d2, d3] => { results := [.lit (.bool false)], args := [d1, d2, d3] }
  | _ => none }
def TrieDiffsWrongFalsely : Prop := trieDiffsRow.holds Tryz.pinned (OpenSpec.ofChange trieDiffsWrong)

/- THE SECOND FORM. 'bulk': how many values and letters a reading holds, each counted each time it is reached (what is shared counts as often as it is met; a slice's spare places count too). A statement '..UptoSaid' is the law's where the arguments, and the package variables that the reading takes, are together of bulk at most 1048576: NARROWER than '..Said'. Prove '..Said' where nothing that the law and all that it calls make is longer than what came in: it says more and counts as full. Else prove '..UptoSaid'. A law counts once. -/
mutual
def uptoBulk {H : Type} : DataW H → Nat
  | .lit (.string bytes) => bytes.length + 1
  | .lit _ => 1
  | .nil => 1
  | .ptr d => uptoBulk d + 1
  | .slice elems spare => uptoBulkAll elems + uptoBulkAll spare + 1
  | .agg parts => uptoBulkAll parts + 1
  | .iface _ d => uptoBulk d + 1
  | .map entries => uptoBulkEntries entries + 1
  | .held _ => 1
def uptoBulkAll {H : Type} : List (DataW H) → Nat
  | [] => 0
  | d :: r => uptoBulk d + uptoBulkAll r
def uptoBulkEntries {H : Type} : List (Lit × DataW H) → Nat
  | [] => 0
  | x :: r => uptoBulkEntry x + uptoBulkEntries r
def uptoBulkEntry {H : Type} : Lit × DataW H → Nat
  | (.string bytes, d) => bytes.length + uptoBulk d + 1
  | (_, d) => uptoBulk d + 1
 end
def uptoSmall : (H : Type) → List (DataW H) → Bool := fun _ ds => decide (uptoBulkAll ds ≤ 1048576)
def OpenSpec.upto (s : _root_.Go.ChangeSpec) : _root_.Go.OpenSpec := { _root_.Go.OpenSpec.ofChange s with cond := some uptoSmall }

/-- 'skeinlaw12.TrieMaps', WHERE WHAT IT READS IS OF BULK AT MOST 1048576: true; the input reads as it did. -/
def trieMapsUptoRow : OpenClaim := { program := "ytloljphbdfjgdaagreatdoor", sum := "6b4ce1f05b11a9e39fa1437bad8e1978682fcbe229ef57c588beea2d224b5963", func := "skein/skeinlaw12.TrieMaps", spec := "trieMaps", inPlace := ["sync/atomic.StoreInt64", "sync/atomic.StorePointer", "sync/atomic.LoadInt64", "sync/atomic.CompareAndSwapInt64", "sync/atomic.LoadPointer", "sync/atomic.CompareAndSwapPointer", "sync/atomic.AddInt64"], unfollowed := true, recurses := true, named := ["skein/word.bitAt"], apart := false, laid := [("skein/word.bitAt", laid_skein_word_bitAt)], narrowed := true }
def TrieMapsUptoSaid : Prop := trieMapsUptoRow.holds Tryz.pinned (OpenSpec.upto trieMapsSpec)

/-- 'skeinlaw12.TrieDiffs', WHERE WHAT IT READS IS OF BULK AT MOST 1048576: true; the input reads as it did. -/
def trieDiffsUptoRow : OpenClaim := { program := "ytloljphbdfjgdaagreatdoor", sum := "6b4ce1f05b11a9e39fa1437bad8e1978682fcbe229ef57c588beea2d224b5963", func := "skein/skeinlaw12.TrieDiffs", spec := "trieDiffs", inPlace := ["sync/atomic.StoreInt64", "sync/atomic.StorePointer", "sync/atomic.LoadInt64", "sync/atomic.CompareAndSwapInt64", "sync/atomic.LoadPointer", "sync/atomic.CompareAndSwapPointer", "sync/atomic.AddInt64"], unfollowed := true, recurses := true, named := ["skein/word.bitAt"], apart := false, laid := [("skein/word.bitAt", laid_skein_word_bitAt)], narrowed := true }
def TrieDiffsUptoSaid : Prop := trieDiffsUptoRow.holds Tryz.pinned (OpenSpec.upto trieDiffsSpec)

end Rows
end Go.Proofs.YtloljphbdfjgdaaGreatDoor
