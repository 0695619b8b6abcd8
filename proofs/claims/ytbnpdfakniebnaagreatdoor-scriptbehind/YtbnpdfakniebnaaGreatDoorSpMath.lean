/-
  What a script says, as plain functions of its bytes. (By the verifier; no statement.)
-/
import Derived.Test.YtbnpdfakniebnaaGreatDoorSpWord
namespace Go.Proofs.YtbnpdfakniebnaaGreatDoor
open Go.Lib
abbrev Bs := List UInt8
/-- The greatest number of a text. -/
def mostN : Int := 1152921504606846976
def digG : Bs → Int → Option Int
  | [], n => some n
  | b :: l, n => if (b.toNat : Int) - 48 < 0 ∨ 9 < (b.toNat : Int) - 48 ∨ (mostN - ((b.toNat : Int) - 48)) / 10 < n then none else digG l (10 * n + ((b.toNat : Int) - 48))
def digitsB (l : Bs) : Option Int := if l = [] ∨ l.head? = some 48 then none else digG l 0
def numB (l : Bs) : Option Int := if l = [48] then some 0 else if l.head? = some 45 then (digitsB l.tail).map (fun n => -n) else digitsB l
/-- A line: the words that are left, and the first fault. -/
structure Ln where
  ws : List Bs
  err : Nat
namespace Ln
def fault (s : Ln) (e : Nat) : Ln := if s.err = 0 then { s with err := e } else s
def more (s : Ln) : Bool := decide (s.err = 0) && !s.ws.isEmpty
def next (s : Ln) : Bs × Ln :=
  match s.ws with
  | [] => ([], s.fault 224)
  | x :: r => if s.err = 0 then (x, { s with ws := r }) else ([], s)
def number (s : Ln) : Int × Ln :=
  match numB s.next.1 with
  | some n => (n, s.next.2)
  | none => (0, s.next.2.fault 221)
def numberFrom (s : Ln) (lo hi : Int) : Int × Ln := (s.number.1, if s.number.1 < lo ∨ hi < s.number.1 then s.number.2.fault 221 else s.number.2)
def named (s : Ln) (w : Bs) : Int × Ln := (if s.next.1 = w then s.next.2 else s.next.2.fault 220).number
def numbersF : Nat → Ln → List Int × Ln
  | 0, s => ([], s)
  | f + 1, s => if s.more then (s.number.1 :: (numbersF f s.number.2).1, (numbersF f s.number.2).2) else ([], s)
def numbers (s : Ln) : List Int × Ln := numbersF s.ws.length s
def pairsF : Nat → Ln → List (Int × Int) × Ln
  | 0, s => ([], s)
  | f + 1, s => if s.more then ((s.number.1, s.number.2.number.1) :: (pairsF f s.number.2.number.2).1, (pairsF f s.number.2.number.2).2) else ([], s)
def pairs (s : Ln) : List (Int × Int) × Ln := pairsF s.ws.length s
def fin (s : Ln) : Ln := if s.more then s.fault 220 else s
def atMost (s : Ln) (n m : Int) : Ln := if m < n then s.fault 223 else s
end Ln
/-- A call. -/
structure Cl where
  k : Int
  a : Int
  b : Int
  c : Int
  ps : List (Int × Int)
/-- How calls are written: a word, how many numbers, whether pairs follow. -/
def callT : List (Bs × Int × Bool) := [
  ([], 0, false),
  ([103, 101, 116], 1, false),
  ([112, 117, 116], 2, false),
  ([100, 114, 111, 112], 1, false),
  ([115, 119, 97, 112], 3, false),
  ([109, 97, 110, 121], 0, true),
  ([115, 110, 97, 112], 1, false),
  ([102, 114, 101, 101], 1, false),
  ([112, 101, 101, 107], 2, false),
  ([110, 97, 109, 101], 2, false),
  ([117, 110, 110, 97, 109, 101], 1, false),
  ([112, 101, 101, 107, 110, 97, 109, 101, 100], 2, false),
  ([116, 114, 105, 109], 1, false),
  ([97, 100, 118, 97, 110, 99, 101], 0, false),
  ([99, 111, 108, 108, 101, 99, 116], 0, false),
  ([110, 97, 109, 101, 115], 0, false),
  ([114, 97, 110, 103, 101], 3, false),
  ([99, 111, 117, 110, 116], 3, false),
  ([112, 97, 103, 101], 3, false),
  ([100, 105, 102, 102], 2, false)]
def kindG : List (Bs × Int × Bool) → Nat → Bs → Nat
  | [], _, _ => 0
  | q :: l, i, w => if 0 < i ∧ q.1 = w then i else kindG l (i + 1) w
def kindB (w : Bs) : Nat := kindG callT 0 w
def rowT (k : Nat) : Bs × Int × Bool := callT.getD k ([], 0, false)
def numIf (b : Bool) (l : Ln) : Int × Ln := if b then l.number else (0, l)
def pairsIf (b : Bool) (l : Ln) : List (Int × Int) × Ln := if b then l.pairs else ([], l)
def readCall (k : Nat) (l : Ln) : Cl × Ln :=
  let x := numIf (decide (0 < (rowT k).2.1)) l
  let y := numIf (decide (1 < (rowT k).2.1)) x.2
  let z := numIf (decide (2 < (rowT k).2.1)) y.2
  let p := pairsIf (rowT k).2.2 z.2
  (⟨k, x.1, y.1, z.1, p.1⟩, p.2.fin)
def wParts : Bs := [112, 97, 114, 116, 115]
def wWorkers : Bs := [119, 111, 114, 107, 101, 114, 115]
def wSlots : Bs := [115, 108, 111, 116, 115]
def wLeases : Bs := [108, 101, 97, 115, 101, 115]
def wFails : Bs := [102, 97, 105, 108, 115]
def wSource : Bs := [115, 111, 117, 114, 99, 101]
def wWorker : Bs := [119, 111, 114, 107, 101, 114]
def wTurns : Bs := [116, 117, 114, 110, 115]
def wHalt : Bs := [104, 97, 108, 116]
def wUntil : Bs := [117, 110, 116, 105, 108]
def wEnd : Bs := [101, 110, 100]
def wRepeat : Bs := [114, 101, 112, 101, 97, 116]
/-- What was read so far. -/
structure RS where
  parts : Int
  workers : Int
  slots : Int
  leases : Int
  fails : Int
  source : List (Int × Int)
  work : List (List Cl)
  turns : List Int
  halt : List Int
  til : Int
  tag : Nat
  wants : Bool
  stood : Bool
  times : Int
  body : List Cl
def RS0 : RS := ⟨0, 0, 0, 0, 0, [], [], [], [], 0, 0, true, false, 0, []⟩
namespace RS
def callsN (r : RS) : Int := ((r.work.getLast?).getD []).length
def add (r : RS) (c : Cl) : RS := { r with work := r.work.dropLast ++ [(r.work.getLast?).getD [] ++ [c]] }
def addAll (r : RS) (l : List Cl) : RS := l.foldl add r
def needW (r : RS) (l : Ln) : Ln := if r.work = [] then l.fault 220 else l
def setup (r : RS) (l : Ln) : RS × Ln :=
  let a := l.number
  let b := a.2.named wWorkers
  let c := b.2.named wSlots
  let d := c.2.named wLeases
  let f := if d.2.more then d.2.named wFails else (r.fails, d.2)
  ({ r with parts := a.1, workers := b.1, slots := c.1, leases := d.1, fails := f.1, tag := 1, wants := false }, f.2.fin)
def addSource (r : RS) (l : Ln) : RS × Ln := ({ r with source := r.source ++ l.pairs.1 }, l.pairs.2.atMost ((r.source ++ l.pairs.1).length) 256)
def worker (r : RS) (l : Ln) : RS × Ln := ({ r with work := r.work ++ [[]] }, l.fin.atMost (r.work.length + 1) 8)
def addTurns (r : RS) (l : Ln) : RS × Ln := ({ r with turns := r.turns ++ l.numbers.1 }, l.numbers.2.atMost ((r.turns ++ l.numbers.1).length) 20000)
def addHalt (r : RS) (l : Ln) : RS × Ln := ({ r with halt := r.halt ++ l.numbers.1 }, l.numbers.2.atMost ((r.halt ++ l.numbers.1).length) 20000)
def untilL (r : RS) (l : Ln) : RS × Ln :=
  let n := (if r.stood then l.fault 220 else l).number
  ({ r with stood := true, til := n.1 }, n.2.fin)
def rep (r : RS) (l : Ln) : RS × Ln :=
  let n := (r.needW l).numberFrom 1 64
  ({ r with times := n.1, tag := 2, wants := true }, n.2.fin)
def fold (r : RS) (l : Ln) : RS × Ln :=
  let m := l.fin.atMost (r.callsN + r.times * r.body.length) 64
  if m.err = 0 then ({ r.addAll (List.replicate r.times.toNat r.body).flatten with times := 0, body := [], tag := 1, wants := false }, m) else (r, m)
def call (r : RS) (k : Nat) (l : Ln) : RS × Ln :=
  let c := readCall k (r.needW l)
  let m := c.2.atMost (r.callsN + r.body.length + 1) 64
  (if m.err = 0 then (if 0 < r.times then { r with body := r.body ++ [c.1] } else r.add c.1) else r, m)
/-- What a line does that begins with the word w; none: no such word. -/
def deed (r : RS) (w : Bs) (l : Ln) : Option (RS × Ln) :=
  match r.tag with
  | 0 => if w = wParts then some (r.setup l) else none
  | 1 =>
    if kindB w ≠ 0 then some (r.call (kindB w) l) else if w = wSource then some (r.addSource l) else if w = wWorker then some (r.worker l) else if w = wTurns then some (r.addTurns l)
    else if w = wHalt then some (r.addHalt l) else if w = wUntil then some (r.untilL l) else if w = wRepeat then some (r.rep l) else none
  | _ => if kindB w ≠ 0 then some (r.call (kindB w) l) else if w = wEnd then some (r.fold l) else none
/-- A line. -/
def read (r : RS) (t : Bs) : RS × Nat :=
  match wordsB t with
  | [] => (r, 0)
  | w :: ws =>
    match r.deed w ⟨ws, 0⟩ with
    | none => (r, 220)
    | some x => (x.1, x.2.err)
/-- Lines, of which i stand ahead: the state behind them, or a fault. -/
def reads : RS → Nat → List Bs → Except (Nat × Nat) RS
  | r, _, [] => .ok r
  | r, i, t :: ts => if (r.read t).2 = 0 then reads (r.read t).1 (i + 1) ts else .error (i + 1, (r.read t).2)
end RS
/-- A text's script, or its fault: a line, a number. -/
def parseB (t : Bs) : Except (Nat × Nat) RS :=
  if 65536 < t.length then .error (1, 222) else
  match RS0.reads 0 (linesB [] t) with
  | .error e => .error e
  | .ok r => if r.wants then .error ((linesB [] t).length, 224) else .ok r
end Go.Proofs.YtbnpdfakniebnaaGreatDoor
