/-
  From the row's condition on the listed variable to the table of bits; the start in which it lies; the six laws' endings.
-/
import Derived.Test.YtkcnchpaobjdaaaDoorBits
import Derived.ProofKit
import Derived.LaidMore
import Derived.OpenShut
import Derived.Stop.Joined
import Derived.Lib.LaidTab
namespace Go.Proofs.YtkcnchpaobjdaaaDoor
open Go.ChangeShapes Go.WideShapes Go.ChangeAt Go.WideMaps Go.WideElems Go.RowKit

theorem own : ownKnob Tryd.prog.godebug = none := by kernel_rfl
theorem gBit : Tryd.prog.globalNamed "skein/word.bitAt" = some 0 := by kernel_rfl
theorem tBit : (Tryd.prog.globals[0]?).map (·.type) = some 41 := by kernel_rfl
theorem cellsInt : Tryd.prog.cellsOf 3 = 1 := by kernel_rfl
theorem cellsBit : Tryd.prog.cellsOf 41 = 32 := by kernel_rfl
def laidOne : List (String × DataW Unit) := [("skein/word.bitAt", Rows.laid_skein_word_bitAt)]
def zs : List Int := (List.range 32).map p2

theorem zs_at (i : Nat) (h : i < 32) : zs[i]? = some (p2 i) := by
  simp [zs, h]
theorem laid_zs : laidOne = [("skein/word.bitAt", Lib.tabData .i64 zs)] := by kernel_rfl

/- WHAT THE CONDITION GIVES THE WALKS: the table of bits. -/
theorem tab_of_laid {W : World} (h : laidMetH Tryd.prog laidOne W) : Tab W := by
  rw [MakeChecks.laidMetH_plain _ _ _ (by kernel_rfl)] at h
  rw [laid_zs] at h
  have ht := Lib.tabIs_of_head gBit tBit Tryd.underlying41 Tryd.underlying3 cellsInt cellsBit h
  intro i hi
  have hc := World.var?_cell gBit ht i
  rw [hc]
  simp [zs_at i hi]
/- The door's own heap meets the condition. -/
theorem door_met (os : Os) (args : Array Value) : laidMetH Tryd.prog laidOne ((World.doorLaid Tryd.prog 1103 os).forCall (fun _ _ => 0) ⟨#[], args, []⟩).memory :=
  laidMetH_of_parts3 (fuel := 8) (laidMet_of_run' 8 (by kernel_rfl) (by kernel_rfl)) (by kernel_rfl) (by kernel_rfl)
end Go.Proofs.YtkcnchpaobjdaaaDoor
