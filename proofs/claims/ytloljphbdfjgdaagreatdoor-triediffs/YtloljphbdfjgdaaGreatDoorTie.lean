/-
  DERIVED. GIVEN WITH THE SEED: THE PROGRAM's TIES (one call each: nine closed facts by the kernel) AND EACH ROW's TIE, after the 31st guide's Derived/Test/Toyas{Tie, Card}.lean. No idea stands in it: it is a product of the set-up. Laid BY PROGRAM, IN A SANDBOX (cutbox-door.mjs). By AI agents, Wed Nov 11 2026. No macro, syntax, notation, axiom, sorry.
-/
import Derived.Test.YtloljphbdfjgdaaGreatDoorRows
import Derived.LaidByTextLater
import Derived.SevenTiedAt
import Derived.LaidSub
import Derived.LaidOnce
namespace Go.Proofs.YtloljphbdfjgdaaGreatDoor
open Go
set_option maxRecDepth 100000
theorem seatTie1 : Tryz.prog.laidByTextLater [("skein/word.bitAt", Rows.laid_skein_word_bitAt)] [.called] true :=
  Program.laidByTextLater_by_one 1103 8 33 (by kernel_rfl) (by kernel_rfl) (by kernel_rfl) (by kernel_rfl) (by kernel_rfl) (by kernel_rfl) (fun _ _ => by kernel_rfl)
theorem noOwnUnsafe : Tryz.pinned.checked.prog.headLifts.contains "ownunsafe" = false := by kernel_rfl
theorem tie : Tryz.prog.laidByTextLater [("skein/word.bitAt", Rows.laid_skein_word_bitAt)] [.called] true :=
  Program.laidByTextLater.sub seatTie1 ["skein/word.bitAt"] (by kernel_rfl) (by kernel_rfl)
theorem trieMaps_row_tie : Rows.trieMapsRow.laidByTextAt .later Tryz.pinned [.called] true :=
  OpenClaim.laidByTextAt_later rfl rfl tie noOwnUnsafe
theorem trieDiffs_row_tie : Rows.trieDiffsRow.laidByTextAt .later Tryz.pinned [.called] true :=
  OpenClaim.laidByTextAt_later rfl rfl tie noOwnUnsafe
theorem trieMapsUpto_row_tie : Rows.trieMapsUptoRow.laidByTextAt .later Tryz.pinned [.called] true :=
  OpenClaim.laidByTextAt_later rfl rfl tie noOwnUnsafe
theorem trieDiffsUpto_row_tie : Rows.trieDiffsUptoRow.laidByTextAt .later Tryz.pinned [.called] true :=
  OpenClaim.laidByTextAt_later rfl rfl tie noOwnUnsafe
end Go.Proofs.YtloljphbdfjgdaaGreatDoor
