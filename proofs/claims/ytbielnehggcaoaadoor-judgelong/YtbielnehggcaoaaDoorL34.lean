/-
  The table of bits of the judge's rows. (By the verifier; no statement.)
-/
import Derived.Test.YtbielnehggcaoaaDoorRows
import Derived.Test.YtbielnehggcaoaaDoorTie
import Derived.Test.YtbielnehggcaoaaDoorCards
import Derived.Test.YtbielnehggcaoaaDoorL11
import Derived.ProofKit
import Derived.LaidMore
import Derived.OpenShut
import Derived.Stop.Joined
import Derived.SizedLaws
import Derived.Lib.LaidTab
import Derived.SevenTiedAt
import Derived.Deep.Slices
namespace Go.Proofs.YtbielnehggcaoaaDoor
open Go.ChangeShapes Go.WideShapes Go.ChangeAt Go.WideMaps Go.WideElems Go.RowKit Go.Deep
theorem Tryd.own : ownKnob Tryd.prog.godebug = none := by kernel_rfl
theorem gTab : Tryd.prog.globalNamed "math/bits.deBruijn64tab" = some 0 := by kernel_rfl
theorem tTab : (Tryd.prog.globals[0]?).map (·.type) = some 150 := by kernel_rfl
theorem cellsU8R : Tryd.prog.cellsOf 5 = 1 := by kernel_rfl
theorem cellsTab : Tryd.prog.cellsOf 150 = 64 := by kernel_rfl
theorem laidOutR : laidOutB Tryd.prog = true := by kernel_rfl
def laidOne : List (String × DataW Unit) := [("math/bits.deBruijn64tab", Rows.laid_math_bits_deBruijn64tab)]
def zsB : List Int := [0, 1, 56, 2, 57, 49, 28, 3, 61, 58, 42, 50, 38, 29, 17, 4, 62, 47, 59, 36, 45, 43, 51, 22, 53, 39, 33, 30, 24, 18, 12, 5, 63, 55, 48, 27, 60, 41, 37, 16, 46, 35, 44, 21, 52, 32, 23, 11, 54, 26, 40, 15, 34, 20, 31, 10, 25, 14, 19, 9, 13, 8, 7, 6]
theorem zs_all : ((List.range 64).all fun k => decide (zsB[tzI k]? = some (k : Int))) = true := by decide +kernel
theorem zs_at (k : Nat) (h : k < 64) : zsB[tzI k]? = some (k : Int) := by
  have := List.all_eq_true.1 zs_all k (List.mem_range.2 h)
  simpa using this
theorem laid_zs : laidOne = [("math/bits.deBruijn64tab", Lib.tabData .u8 zsB)] := by kernel_rfl
theorem tab_of_laid {W : World} (h : laidMetH Tryd.prog laidOne W) : Tab W := by
  rw [MakeChecks.laidMetH_plain _ _ _ (by kernel_rfl)] at h
  rw [laid_zs] at h
  have ht := Lib.tabIs_of_head gTab tTab Tryd.underlying150 Tryd.underlying5 cellsU8R cellsTab h
  intro i hi
  have hc := World.var?_cell gTab ht (tzI i)
  rw [hc]
  simp [zs_at i hi]
theorem door_met (os : Os) (args : Array Value) : laidMetH Tryd.prog laidOne ((World.doorLaid Tryd.prog 200 os).forCall (fun _ _ => 0) ⟨#[], args, []⟩).memory :=
  laidMetH_of_parts3 (fuel := 8) (laidMet_of_run' 8 (by kernel_rfl) (by kernel_rfl)) (by kernel_rfl) (by kernel_rfl)
theorem Tab.pos {w : World} (hT : Tab w) : 0 < w.heap.size := by
  have h := hT 0 (by omega)
  apply Classical.byContradiction
  intro hn
  rw [World.cell?] at h
  have : w.heap[0]? = none := Array.getElem?_eq_none (by omega)
  simp [this] at h
end Go.Proofs.YtbielnehggcaoaaDoor
