/-
  The walk of the statement WordBits: it answers true at every input, wherever the table of bits is laid; the world stays.
-/
import Derived.Test.YtkcnchpaobjdaaaDoorKnown
namespace Go.Proofs.YtkcnchpaobjdaaaDoor
open Go.RowKit
set_option maxRecDepth 100000 in
set_option maxHeartbeats 1000000 in
theorem wBits (k o p : Int) (w : World) (ht : Tab w) : Calls Tryd.prog 4 #[.int .i64 k, .int .i64 o, .int .i64 p] w fun e w' => e = .returned (.bool true) ∧ w' = w := by
  have HT : Hid (Tab w) := ht
  clear ht
  go_enter Tryd.func4, Tryd.ntmps4
  go_wp2_with (first
    | (go_at_call 9; refine (cKnown _ HT.out).mono ?_; rintro e w' ⟨rfl, rfl⟩)
    | (go_at_call 12; refine (cNum _ _).mono ?_; rintro e w' ⟨rfl, rfl⟩)
    | (go_at_call 19; refine (cBit _ _ _ HT.out).mono ?_; rintro e w' ⟨rfl, rfl⟩)
    | (go_at_call 20; refine (cBitR _ _ _).mono ?_; rintro e w' ⟨rfl, rfl⟩)
    | (go_at_call 21; refine (cPlace _ _ _ HT.out).mono ?_; rintro e w' ⟨rfl, rfl⟩)
    | (go_at_call 22; refine (cPlaceR _ _ _).mono ?_; rintro e w' ⟨rfl, rfl⟩))
  go_ret
  exact ⟨rfl, rfl⟩
set_option maxRecDepth 100000 in
set_option maxHeartbeats 1000000 in
theorem wParts (k p n : Int) (w : World) (ht : Tab w) : Calls Tryd.prog 5 #[.int .i64 k, .int .i64 p, .int .i64 n] w fun e w' => e = .returned (.bool true) ∧ w' = w := by
  have HT : Hid (Tab w) := ht
  clear ht
  go_enter Tryd.func5, Tryd.ntmps5
  go_wp2_with (first
    | (go_at_call 9; refine (cKnown _ HT.out).mono ?_; rintro e w' ⟨rfl, rfl⟩)
    | (go_at_call 12; refine (cNum _ _).mono ?_; rintro e w' ⟨rfl, rfl⟩)
    | (go_at_call 23; refine (cPart _ _ _).mono ?_; rintro e w' ⟨rfl, rfl⟩)
    | (go_at_call 24; refine (cPartR _ _ _).mono ?_; rintro e w' ⟨rfl, rfl⟩)
    | (go_at_call 25; refine (cRange _ _ _).mono ?_; rintro e w' ⟨rfl, rfl⟩)
    | (go_at_call 26; refine (cRangeR _ _ _).mono ?_; rintro e w' ⟨rfl, rfl⟩))
  go_ret
  exact ⟨rfl, rfl⟩
end Go.Proofs.YtkcnchpaobjdaaaDoor
