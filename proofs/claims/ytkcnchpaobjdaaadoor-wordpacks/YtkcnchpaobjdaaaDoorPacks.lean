/-
  The walk of the statement WordPacks: it answers true at every input, wherever the table of bits is laid; one block is made, nothing old turns.
-/
import Derived.Test.YtkcnchpaobjdaaaDoorKnown
import Derived.Deep.QuietTactic
import Derived.BigQuiet
namespace Go.Proofs.YtkcnchpaobjdaaaDoor
open Go.RowKit
set_option maxRecDepth 100000 in
set_option maxHeartbeats 2000000 in
theorem wPacks (i t x n : Int) (w : World) (ht : Tab w) : Calls Tryd.prog 3 #[.int .i64 i, .int .i64 t, .int .i64 x, .int .i64 n] w fun e w' => e = .returned (.bool true) ∧ w'.Alike (w.alloc (.cells #[.int .i64 x, .int .i64 (packV i t)] 3)) := by
  have HT : Hid (Tab w) := ht
  clear ht
  go_enter Tryd.func3, Tryd.ntmps3
  go_wp2_with (first
    | (go_at_call 9; refine (cKnown _ HT.out).mono ?_; rintro e w' ⟨rfl, rfl⟩)
    | (go_at_call 12; refine (cNum _ _).mono ?_; rintro e w' ⟨rfl, rfl⟩)
    | (go_at_call 10; refine (cPack _ _ _).mono ?_; rintro e w' ⟨rfl, rfl⟩)
    | (go_at_call 11; refine (cPackR _ _ _).mono ?_; rintro e w' ⟨rfl, rfl⟩)
    | (go_at_call 13; refine (cIndex _ _).mono ?_; rintro e w' ⟨rfl, rfl⟩)
    | (go_at_call 14; refine (cIndexR _ _).mono ?_; rintro e w' ⟨rfl, rfl⟩)
    | (go_at_call 15; refine (cTag _ _).mono ?_; rintro e w' ⟨rfl, rfl⟩)
    | (go_at_call 16; refine (cTagR _ _).mono ?_; rintro e w' ⟨rfl, rfl⟩))
  go_loopw [14] (fun c wr => ∃ j nq : Nat, j ≤ 2 ∧ c = .int .i64 j ∧ wr = (w'.alloc (.cells #[.int .i64 x, .int .i64 (packV i t)] 3)).drewN nq) (fun c _ => 2 - (intOf c).toNat)
  case atStart => exact ⟨0, 0, by omega, rfl, rfl⟩
  case round =>
    obtain ⟨j, n0, hj, rfl, hw0⟩ := hrel
    have hc0 : wr.cell? ⟨w'.heap.size, 0, none⟩ = some (.int .i64 x) := by rw [hw0]; simp
    have hc1 : wr.cell? ⟨w'.heap.size, 1, none⟩ = some (.int .i64 (packV i t)) := by rw [hw0]; simp
    have HW : Hid (wr = (w'.alloc (.cells #[.int .i64 x, .int .i64 (packV i t)] 3)).drewN n0) := hw0
    clear hw0
    rcases (by omega : j = 0 ∨ j = 1 ∨ j = 2) with rfl | rfl | rfl
    · skip
      go_wp2_with (first
        | (go_at_call 17; refine (cNext _ _ _).mono ?_; rintro e w1 ⟨rfl, rfl⟩)
        | (go_at_call 18; refine (cNextR _ _ _).mono ?_; rintro e w1 ⟨rfl, rfl⟩))
      go_quiet ((first
        | (go_at_call 12; exact Calls.quiet_of_same (cNum _ _))
        | (go_at_call 13; exact Calls.quiet_of_same (cIndex _ _))
        | (go_at_call 14; exact Calls.quiet_of_same (cIndexR _ _))
        | (go_at_call 15; exact Calls.quiet_of_same (cTag _ _))
        | (go_at_call 16; exact Calls.quiet_of_same (cTagR _ _))))
      go_wp2
      go_roundw
      case rel => exact ⟨1, _, by omega, rfl, by rw [HW.out]; exact World.drewN_drewN _ _ _⟩
      case measure => simp [intOf]
    · skip
      go_wp2_with (first
        | (go_at_call 17; refine (cNext _ _ _).mono ?_; rintro e w1 ⟨rfl, rfl⟩)
        | (go_at_call 18; refine (cNextR _ _ _).mono ?_; rintro e w1 ⟨rfl, rfl⟩))
      go_quiet ((first
        | (go_at_call 12; exact Calls.quiet_of_same (cNum _ _))
        | (go_at_call 13; exact Calls.quiet_of_same (cIndex _ _))
        | (go_at_call 14; exact Calls.quiet_of_same (cIndexR _ _))
        | (go_at_call 15; exact Calls.quiet_of_same (cTag _ _))
        | (go_at_call 16; exact Calls.quiet_of_same (cTagR _ _))))
      go_wp2
      go_roundw
      case rel => exact ⟨2, _, by omega, rfl, by rw [HW.out]; exact World.drewN_drewN _ _ _⟩
      case measure => simp [intOf]
    · go_wp2
      go_ret
      have e := HW.out
      exact ⟨rfl, by rw [e]; exact ⟨rfl, rfl, rfl⟩⟩
end Go.Proofs.YtkcnchpaobjdaaaDoor
