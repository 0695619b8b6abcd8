/-
  The chapter's examples: 'known' answers true wherever the table of bits is laid; the world stays.
-/
import Derived.Test.YtkcnchpaobjdaaaDoorLeaf
import Derived.Test.YtkcnchpaobjdaaaDoorParts
import Derived.Test.YtkcnchpaobjdaaaDoorBits
namespace Go.Proofs.YtkcnchpaobjdaaaDoor
open Go.RowKit
theorem cNum (x : Int) (w : World) : Calls Tryd.prog 12 #[.int .i64 x] w fun e w' => e = .returned (.int .i64 x) ∧ w' = w := by
  go_enter Tryd.func12, Tryd.ntmps12
  go_wp2
  go_ret
  exact ⟨rfl, rfl⟩
set_option maxRecDepth 100000 in
set_option maxHeartbeats 1000000 in
theorem cKnown (w : World) (ht : Tab w) : Calls Tryd.prog 9 #[] w fun e w' => e = .returned (.bool true) ∧ w' = w := by
  have HT : Hid (Tab w) := ht
  clear ht
  have a1 : packV 3 5 = 3298534883333 := by decide +kernel
  have a2 : packE 3 5 = 0 := by decide +kernel
  have a3 : nextV 3298534883333 4 = 4398046511110 := by decide +kernel
  have a4 : nextE 3298534883333 4 = 0 := by decide +kernel
  have a5 : packV 1 1099511627775 = 2199023255551 := by decide +kernel
  have a6 : packE 1 1099511627775 = 0 := by decide +kernel
  have a7 : nextV 2199023255551 1 = 1099511627776 := by decide +kernel
  have a8 : nextE 2199023255551 1 = 0 := by decide +kernel
  have a9 : packV 1 0 = 1099511627776 := by decide +kernel
  have b0 : packE 1 0 = 0 := by decide +kernel
  have b1 : idxV 3298534883333 = 3 := by decide +kernel
  have b2 : tagV 3298534883333 = 5 := by decide +kernel
  have b3 : placeV 4 6 = 1 := by decide +kernel
  have b4 : placeE 4 6 = 0 := by decide +kernel
  have b5 : placeV 0 4294967295 = 31 := by decide +kernel
  have b6 : placeE 0 4294967295 = 0 := by decide +kernel
  have b7 : placeV 7 7 = -1 := by decide +kernel
  have b8 : placeE 7 7 = 0 := by decide +kernel
  have b9 : partV 4294967295 3 = 2 := by decide +kernel
  have c0 : partE 4294967295 3 = 0 := by decide +kernel
  have c1 : loV 1 3 = 1431655766 := by decide +kernel
  have c2 : hiV 1 3 = 2863311530 := by decide +kernel
  have c3 : rangeE 1 3 = 0 := by decide +kernel
  have c4 : packV 1048576 (-1) = 0 := by decide +kernel
  have c5 : packE 1048576 (-1) = 10 := by decide +kernel
  go_enter Tryd.func9, Tryd.ntmps9
  go_wp2_with (first
    | (go_at_call 12; refine (cNum _ _).mono ?_; rintro e w' ⟨rfl, rfl⟩)
    | (go_at_call 10; refine (cPack _ _ _).mono ?_; rintro e w' ⟨rfl, rfl⟩)
    | (go_at_call 17; refine (cNext _ _ _).mono ?_; rintro e w' ⟨rfl, rfl⟩)
    | (go_at_call 13; refine (cIndex _ _).mono ?_; rintro e w' ⟨rfl, rfl⟩)
    | (go_at_call 15; refine (cTag _ _).mono ?_; rintro e w' ⟨rfl, rfl⟩)
    | (go_at_call 21; refine (cPlace _ _ _ HT.out).mono ?_; rintro e w' ⟨rfl, rfl⟩)
    | (go_at_call 23; refine (cPart _ _ _).mono ?_; rintro e w' ⟨rfl, rfl⟩)
    | (go_at_call 25; refine (cRange _ _ _).mono ?_; rintro e w' ⟨rfl, rfl⟩))
  go_ret
  exact ⟨rfl, rfl⟩
end Go.Proofs.YtkcnchpaobjdaaaDoor
