/- A piece of code by its path; the ends of blocks. -/
import Derived.Test.YtibpgoiiohmeiaaOpRun
namespace Go.Proofs.Ytibpgoiiohmeiaa
open Go.RowKit
/-- A sub-code by its path: 0 left, 1 right. -/
def sub : List Nat → Code → Code
  | [], c => c
  | 0 :: p, .seq a _ => sub p a
  | _ :: p, .seq _ b => sub p b
  | 0 :: p, .cond _ a _ => sub p a
  | _ :: p, .cond _ _ b => sub p b
  | _ :: p, .block _ c => sub p c
  | _ :: p, .scope c => sub p c
  | _ :: p, .loop c => sub p c
  | _, _ => .skip
def atc (b : Option Code) (p : List Nat) : Code := sub p (b.getD .skip)
/-- The last piece of a block. -/
theorem wp_lastB {P : Program} {c : Code} {M : Act → World → Prop} {Q : Exit → Act → World → Prop} {id : Nat} {a : Act} {x : World} (h : c.wp P (Exit.then M (fun _ _ _ => False)) a x) : c.wp P (Exit.inBlock id (Exit.then M Q)) a x :=
  wp_mono h fun e _ _ h => by cases e <;> first | exact h | exact h.elim
/-- A piece that goes on, or leaves. -/
theorem wp_endB {P : Program} {c : Code} {Q : Exit → Act → World → Prop} {a : Act} {x : World} (h : c.wp P (Exit.then (Q .normal) Q) a x) : c.wp P Q a x :=
  wp_mono h (fun e a w h => by cases e <;> exact h)
end Go.Proofs.Ytibpgoiiohmeiaa
