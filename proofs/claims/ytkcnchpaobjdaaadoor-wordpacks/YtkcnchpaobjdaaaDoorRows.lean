/-
  NARROWER THAN 'FOR EVERY INPUT', by the rows' own cells (each row's printed sentence says how): WordPacks: laid · WordBits: laid · WordParts: laid · WordBack: laid · WordPlaces: laid · WordRanges: laid.
  DERIVED. THE GIVEN ROWS OF THIS SEAT. 6 by the template 'for every input the law returns true; each argument reads behind the call as it read before'; 0 by the template 'total and deterministic' (their statements: YtkcnchpaobjdaaaDoorTotals.lean).
  GIVEN WITH THE SEED: the statements are not yours to turn. If you find one false, say at which input.
  Laid BY PROGRAM, IN A SANDBOX (cutbox-rows.mjs): the forced cells as the released guide's own fill.sh prints them over the translation 84641099b33561e8… (all of the seat's roots in one cut). By AI agents, Wed Nov 11 2026. No macro, syntax, notation, axiom, sorry.
-/
import Derived.Test.YtkcnchpaobjdaaaDoorChecked
import GoSem.Claim
import GoSem.ClaimJoined
import GoSem.ClaimMapViews
import Derived.JoinedTies
import Derived.KernelRfl
namespace Go.Proofs.YtkcnchpaobjdaaaDoor
/- THE CELL 'sum', in the pinned program and in every row, IS THE sha256 OF THE DUMP (.gsa) THAT YtkcnchpaobjdaaaDoorProg.lean LOADS. Nothing in Lean hashes anything: it is a label: what it is worth is what the hold of that sum in a sandbox is worth. -/
noncomputable def Tryd.pinned : Pinned := { name := "ytkcnchpaobjdaaadoor", sum := "84641099b33561e81eb3ce4b285de5bad542e8d55fe576f7c670332f332e29b2", checked := Tryd.checked }
namespace Rows
def none {H : Type} : Left H := { results := [], args := [] }

/- WHAT THE LISTED PACKAGE-LEVEL VARIABLES READ AS WHEN THE CALL BEGINS. Each datum BY PROGRAM (the guide's laid-datum.mjs) off the statement by which the dump's own 'gosem.cut.vars' lays the variable. In a bare row this is a premise. The card (YtkcnchpaobjdaaaDoorCards.lean) ties it to the program's text. -/
def laid_skein_word_bitAt {H : Type} : DataW H := .agg [.lit (.int .i64 1), .lit (.int .i64 2), .lit (.int .i64 4), .lit (.int .i64 8), .lit (.int .i64 16), .lit (.int .i64 32), .lit (.int .i64 64), .lit (.int .i64 128), .lit (.int .i64 256), .lit (.int .i64 512), .lit (.int .i64 1024), .lit (.int .i64 2048), .lit (.int .i64 4096), .lit (.int .i64 8192), .lit (.int .i64 16384), .lit (.int .i64 32768), .lit (.int .i64 65536), .lit (.int .i64 131072), .lit (.int .i64 262144), .lit (.int .i64 524288), .lit (.int .i64 1048576), .lit (.int .i64 2097152), .lit (.int .i64 4194304), .lit (.int .i64 8388608), .lit (.int .i64 16777216), .lit (.int .i64 33554432), .lit (.int .i64 67108864), .lit (.int .i64 134217728), .lit (.int .i64 268435456), .lit (.int .i64 536870912), .lit (.int .i64 1073741824), .lit (.int .i64 2147483648)]

/-- 'skeinlaw1.WordPacks': WHATEVER THE INPUT: true; the input reads as it did. -/
def wordPacksSpec : ChangeSpec := { name := "wordPacks", fn := fun _ => fun
  | [d1, d2, d3, d4] => { results := [.lit (.bool true)], args := [d1, d2, d3, d4] }
  | _ => none }
def wordPacksRow : OpenClaim := { program := "ytkcnchpaobjdaaadoor", sum := "84641099b33561e81eb3ce4b285de5bad542e8d55fe576f7c670332f332e29b2", func := "skein/skeinlaw1.WordPacks", spec := "wordPacks", named := ["skein/word.bitAt"], apart := false, laid := [("skein/word.bitAt", laid_skein_word_bitAt)] }
def WordPacksSaid : Prop := wordPacksRow.holds Tryd.pinned (OpenSpec.ofChange wordPacksSpec)

/-- ITS FALSE NEIGHBOUR: 'it returns false'. Refute it at one input. -/
def wordPacksWrong : ChangeSpec := { name := "wordPacks", fn := fun _ => fun
  | [d1, d2, d3, d4] => { results := [.lit (.bool false)], args := [d1, d2, d3, d4] }
  | _ => none }
def WordPacksWrongFalsely : Prop := wordPacksRow.holds Tryd.pinned (OpenSpec.ofChange wordPacksWrong)

/-- 'skeinlaw1.WordBits': WHATEVER THE INPUT: true; the input reads as it did. -/
def wordBitsSpec : ChangeSpec := { name := "wordBits", fn := fun _ => fun
  | [d1, d2, d3] => { results := [.lit (.bool true)], args := [d1, d2, d3] }
  | _ => none }
def wordBitsRow : OpenClaim := { program := "ytkcnchpaobjdaaadoor", sum := "84641099b33561e81eb3ce4b285de5bad542e8d55fe576f7c670332f332e29b2", func := "skein/skeinlaw1.WordBits", spec := "wordBits", named := ["skein/word.bitAt"], apart := false, laid := [("skein/word.bitAt", laid_skein_word_bitAt)] }
def WordBitsSaid : Prop := wordBitsRow.holds Tryd.pinned (OpenSpec.ofChange wordBitsSpec)

/-- ITS FALSE NEIGHBOUR: 'it returns false'. Refute it at one input. -/
def wordBitsWrong : ChangeSpec := { name := "wordBits", fn := fun _ => fun
  | [d1, d2, d3] => { results := [.lit (.bool false)], args := [d1, d2, d3] }
  | _ => none }
def WordBitsWrongFalsely : Prop := wordBitsRow.holds Tryd.pinned (OpenSpec.ofChange wordBitsWrong)

/-- 'skeinlaw1.WordParts': WHATEVER THE INPUT: true; the input reads as it did. -/
def wordPartsSpec : ChangeSpec := { name := "wordParts", fn := fun _ => fun
  | [d1, d2, d3] => { results := [.lit (.bool true)], args := [d1, d2, d3] }
  | _ => none }
def wordPartsRow : OpenClaim := { program := "ytkcnchpaobjdaaadoor", sum := "84641099b33561e81eb3ce4b285de5bad542e8d55fe576f7c670332f332e29b2", func := "skein/skeinlaw1.WordParts", spec := "wordParts", named := ["skein/word.bitAt"], apart := false, laid := [("skein/word.bitAt", laid_skein_word_bitAt)] }
def WordPartsSaid : Prop := wordPartsRow.holds Tryd.pinned (OpenSpec.ofChange wordPartsSpec)

/-- ITS FALSE NEIGHBOUR: 'it returns false'. Refute it at one input. -/
def wordPartsWrong : ChangeSpec := { name := "wordParts", fn := fun _ => fun
  | [d1, d2, d3] => { results := [.lit (.bool false)], args := [d1, d2, d3] }
  | _ => none }
def WordPartsWrongFalsely : Prop := wordPartsRow.holds Tryd.pinned (OpenSpec.ofChange wordPartsWrong)

/-- 'skeinlaw1.WordBack': WHATEVER THE INPUT: true; the input reads as it did. -/
def wordBackSpec : ChangeSpec := { name := "wordBack", fn := fun _ => fun
  | [d1, d2] => { results := [.lit (.bool true)], args := [d1, d2] }
  | _ => none }
def wordBackRow : OpenClaim := { program := "ytkcnchpaobjdaaadoor", sum := "84641099b33561e81eb3ce4b285de5bad542e8d55fe576f7c670332f332e29b2", func := "skein/skeinlaw1.WordBack", spec := "wordBack", named := ["skein/word.bitAt"], apart := false, laid := [("skein/word.bitAt", laid_skein_word_bitAt)] }
def WordBackSaid : Prop := wordBackRow.holds Tryd.pinned (OpenSpec.ofChange wordBackSpec)

/-- ITS FALSE NEIGHBOUR: 'it returns false'. Refute it at one input. -/
def wordBackWrong : ChangeSpec := { name := "wordBack", fn := fun _ => fun
  | [d1, d2] => { results := [.lit (.bool false)], args := [d1, d2] }
  | _ => none }
def WordBackWrongFalsely : Prop := wordBackRow.holds Tryd.pinned (OpenSpec.ofChange wordBackWrong)

/-- 'skeinlaw1.WordPlaces': WHATEVER THE INPUT: true; the input reads as it did. -/
def wordPlacesSpec : ChangeSpec := { name := "wordPlaces", fn := fun _ => fun
  | [d1, d2, d3] => { results := [.lit (.bool true)], args := [d1, d2, d3] }
  | _ => none }
def wordPlacesRow : OpenClaim := { program := "ytkcnchpaobjdaaadoor", sum := "84641099b33561e81eb3ce4b285de5bad542e8d55fe576f7c670332f332e29b2", func := "skein/skeinlaw1.WordPlaces", spec := "wordPlaces", named := ["skein/word.bitAt"], apart := false, laid := [("skein/word.bitAt", laid_skein_word_bitAt)] }
def WordPlacesSaid : Prop := wordPlacesRow.holds Tryd.pinned (OpenSpec.ofChange wordPlacesSpec)

/-- ITS FALSE NEIGHBOUR: 'it returns false'. Refute it at one input. -/
def wordPlacesWrong : ChangeSpec := { name := "wordPlaces", fn := fun _ => fun
  | [d1, d2, d3] => { results := [.lit (.bool false)], args := [d1, d2, d3] }
  | _ => none }
def WordPlacesWrongFalsely : Prop := wordPlacesRow.holds Tryd.pinned (OpenSpec.ofChange wordPlacesWrong)

/-- 'skeinlaw1.WordRanges': WHATEVER THE INPUT: true; the input reads as it did. -/
def wordRangesSpec : ChangeSpec := { name := "wordRanges", fn := fun _ => fun
  | [d1, d2, d3] => { results := [.lit (.bool true)], args := [d1, d2, d3] }
  | _ => none }
def wordRangesRow : OpenClaim := { program := "ytkcnchpaobjdaaadoor", sum := "84641099b33561e81eb3ce4b285de5bad542e8d55fe576f7c670332f332e29b2", func := "skein/skeinlaw1.WordRanges", spec := "wordRanges", named := ["skein/word.bitAt"], apart := false, laid := [("skein/word.bitAt", laid_skein_word_bitAt)] }
def WordRangesSaid : Prop := wordRangesRow.holds Tryd.pinned (OpenSpec.ofChange wordRangesSpec)

/-- ITS FALSE NEIGHBOUR: 'it returns false'. Refute it at one input. -/
def wordRangesWrong : ChangeSpec := { name := "wordRanges", fn := fun _ => fun
  | [d1, d2, d3] => { results := [.lit (.bool false)], args := [d1, d2, d3] }
  | _ => none }
def WordRangesWrongFalsely : Prop := wordRangesRow.holds Tryd.pinned (OpenSpec.ofChange wordRangesWrong)

/- THE SECOND FORM. 'bulk': how many values and letters a reading holds, each counted each time it is reached (what is shared counts as often as it is met; a slice's spare places count too). A statement '..UptoSaid' is the law's where the arguments, and the package variables that the reading takes, are together of bulk at most 1048576: NARROWER than '..Said'. Prove '..Said' where nothing that the law and all that it calls make is longer than what came in: it says more and counts as full. Else prove '..UptoSaid'. A law counts once. -/
mutual
def uptoBulk {H : Type} : DataW H → Nat
  | .lit (.string bytes) => bytes.length + 1
  | .lit _ => 1
  | .nil => 1
  | .ptr d => uptoBulk d + 1
  | .slice elems spare => uptoBulkAll elems + uptoBulkAll spare + 1
  | .agg parts => uptoBulkAll parts + 1
  | .iface _ d => uptoBulk d + 1
  | .map entries => uptoBulkEntries entries + 1
  | .held _ => 1
def uptoBulkAll {H : Type} : List (DataW H) → Nat
  | [] => 0
  | d :: r => uptoBulk d + uptoBulkAll r
def uptoBulkEntries {H : Type} : List (Lit × DataW H) → Nat
  | [] => 0
  | x :: r => uptoBulkEntry x + uptoBulkEntries r
def uptoBulkEntry {H : Type} : Lit × DataW H → Nat
  | (.string bytes, d) => bytes.length + uptoBulk d + 1
  | (_, d) => uptoBulk d + 1
 end
def uptoSmall : (H : Type) → List (DataW H) → Bool := fun _ ds => decide (uptoBulkAll ds ≤ 1048576)
def OpenSpec.upto (s : _root_.Go.ChangeSpec) : _root_.Go.OpenSpec := { _root_.Go.OpenSpec.ofChange s with cond := some uptoSmall }

/-- 'skeinlaw1.WordPacks', WHERE WHAT IT READS IS OF BULK AT MOST 1048576: true; the input reads as it did. -/
def wordPacksUptoRow : OpenClaim := { program := "ytkcnchpaobjdaaadoor", sum := "84641099b33561e81eb3ce4b285de5bad542e8d55fe576f7c670332f332e29b2", func := "skein/skeinlaw1.WordPacks", spec := "wordPacks", named := ["skein/word.bitAt"], apart := false, laid := [("skein/word.bitAt", laid_skein_word_bitAt)], narrowed := true }
def WordPacksUptoSaid : Prop := wordPacksUptoRow.holds Tryd.pinned (OpenSpec.upto wordPacksSpec)

/-- 'skeinlaw1.WordBits', WHERE WHAT IT READS IS OF BULK AT MOST 1048576: true; the input reads as it did. -/
def wordBitsUptoRow : OpenClaim := { program := "ytkcnchpaobjdaaadoor", sum := "84641099b33561e81eb3ce4b285de5bad542e8d55fe576f7c670332f332e29b2", func := "skein/skeinlaw1.WordBits", spec := "wordBits", named := ["skein/word.bitAt"], apart := false, laid := [("skein/word.bitAt", laid_skein_word_bitAt)], narrowed := true }
def WordBitsUptoSaid : Prop := wordBitsUptoRow.holds Tryd.pinned (OpenSpec.upto wordBitsSpec)

/-- 'skeinlaw1.WordParts', WHERE WHAT IT READS IS OF BULK AT MOST 1048576: true; the input reads as it did. -/
def wordPartsUptoRow : OpenClaim := { program := "ytkcnchpaobjdaaadoor", sum := "84641099b33561e81eb3ce4b285de5bad542e8d55fe576f7c670332f332e29b2", func := "skein/skeinlaw1.WordParts", spec := "wordParts", named := ["skein/word.bitAt"], apart := false, laid := [("skein/word.bitAt", laid_skein_word_bitAt)], narrowed := true }
def WordPartsUptoSaid : Prop := wordPartsUptoRow.holds Tryd.pinned (OpenSpec.upto wordPartsSpec)

/-- 'skeinlaw1.WordBack', WHERE WHAT IT READS IS OF BULK AT MOST 1048576: true; the input reads as it did. -/
def wordBackUptoRow : OpenClaim := { program := "ytkcnchpaobjdaaadoor", sum := "84641099b33561e81eb3ce4b285de5bad542e8d55fe576f7c670332f332e29b2", func := "skein/skeinlaw1.WordBack", spec := "wordBack", named := ["skein/word.bitAt"], apart := false, laid := [("skein/word.bitAt", laid_skein_word_bitAt)], narrowed := true }
def WordBackUptoSaid : Prop := wordBackUptoRow.holds Tryd.pinned (OpenSpec.upto wordBackSpec)

/-- 'skeinlaw1.WordPlaces', WHERE WHAT IT READS IS OF BULK AT MOST 1048576: true; the input reads as it did. -/
def wordPlacesUptoRow : OpenClaim := { program := "ytkcnchpaobjdaaadoor", sum := "84641099b33561e81eb3ce4b285de5bad542e8d55fe576f7c670332f332e29b2", func := "skein/skeinlaw1.WordPlaces", spec := "wordPlaces", named := ["skein/word.bitAt"], apart := false, laid := [("skein/word.bitAt", laid_skein_word_bitAt)], narrowed := true }
def WordPlacesUptoSaid : Prop := wordPlacesUptoRow.holds Tryd.pinned (OpenSpec.upto wordPlacesSpec)

/-- 'skeinlaw1.WordRanges', WHERE WHAT IT READS IS OF BULK AT MOST 1048576: true; the input reads as it did. -/
def wordRangesUptoRow : OpenClaim := { program := "ytkcnchpaobjdaaadoor", sum := "84641099b33561e81eb3ce4b285de5bad542e8d55fe576f7c670332f332e29b2", func := "skein/skeinlaw1.WordRanges", spec := "wordRanges", named := ["skein/word.bitAt"], apart := false, laid := [("skein/word.bitAt", laid_skein_word_bitAt)], narrowed := true }
def WordRangesUptoSaid : Prop := wordRangesUptoRow.holds Tryd.pinned (OpenSpec.upto wordRangesSpec)

end Rows
end Go.Proofs.YtkcnchpaobjdaaaDoor
