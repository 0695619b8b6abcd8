/-
  hasText by contract, all kinds together. (By the verifier; no statement.)
-/
import Derived.Test.YtbnpdfakniebnaaGreatDoorSpHas
import Derived.Test.YtbnpdfakniebnaaGreatDoorSpHasB
import Derived.Test.YtbnpdfakniebnaaGreatDoorSpHasC
import Derived.Test.YtbnpdfakniebnaaGreatDoorSpHasD
namespace Go.Proofs.YtbnpdfakniebnaaGreatDoor
open Go.RowKit
set_option maxRecDepth 100000 in
set_option maxHeartbeats 3200000 in
theorem cHas {w : World} (hT : TabC w) {c : Cl} {pv : Value} (hv : VW encP w pv c.ps) (hl : c.ps.length ≤ 1000000000) : Calls Tryz.prog 102 #[clV c pv] w fun r w' => r = .returned (.bool (hasT c)) ∧ Turned [] w w' := by
  obtain ⟨pa, pc, rfl, -, -⟩ := hv.ex
  obtain ⟨k, a, b, cc, ps⟩ := c
  dsimp only at hv hl
  by_cases h12 : 0 < k ∧ k < 20
  · have : k = 1 ∨ k = 2 ∨ k = 3 ∨ k = 4 ∨ k = 5 ∨ k = 6 ∨ k = 7 ∨ k = 8 ∨ k = 9 ∨ k = 10 ∨ k = 11 ∨ k = 12 ∨ k = 13 ∨ k = 14 ∨ k = 15 ∨ k = 16 ∨ k = 17 ∨ k = 18 ∨ k = 19 := by omega
    rcases this with rfl | rfl | rfl | rfl | rfl | rfl | rfl | rfl | rfl | rfl | rfl | rfl | rfl | rfl | rfl | rfl | rfl | rfl | rfl
    · exact cHas_1 hT hv hl
    · exact cHas_2 hT hv hl
    · exact cHas_3 hT hv hl
    · exact cHas_4 hT hv hl
    · exact cHas_5 hT hv hl
    · exact cHas_6 hT hv hl
    · exact cHas_7 hT hv hl
    · exact cHas_8 hT hv hl
    · exact cHas_9 hT hv hl
    · exact cHas_10 hT hv hl
    · exact cHas_11 hT hv hl
    · exact cHas_12 hT hv hl
    · exact cHas_13 hT hv hl
    · exact cHas_14 hT hv hl
    · exact cHas_15 hT hv hl
    · exact cHas_16 hT hv hl
    · exact cHas_17 hT hv hl
    · exact cHas_18 hT hv hl
    · exact cHas_19 hT hv hl
  · have HE : Hid (hasT ⟨k, a, b, cc, ps⟩ = false) := by
      rw [Hid]
      unfold hasT
      by_cases h1 : 0 < k
      · rw [show decide (k < 20) = false from decide_eq_false (fun h2 => h12 ⟨h1, h2⟩)]
        simp
      · rw [show decide (0 < k) = false from decide_eq_false h1]
        rfl
    have HX : Hid (Turned [] w (w.alloc (.cells #[.int .i64 k, .int .i64 a, .int .i64 b, .int .i64 cc, .slice pa ps.length pc] 79))) := (Turned.refl [] w).alloc _
    by_cases h1 : 0 < k
    · have h2' : decide (k < 20) = false := decide_eq_false (fun h2 => h12 ⟨h1, h2⟩)
      clear h12 hT hv
      go_enter Tryz.func102, Tryz.ntmps102
      go_wp2
      go_region
      all_goals
        go_wp2
        go_ret
        rw [HE.out]
        exact ⟨rfl, by repeat first | exact HX.out | exact Turned.refl _ _ | refine Turned.drew ?_ | refine Turned.alloc ?_ _⟩
    · have h1' : decide (0 < k) = false := decide_eq_false h1
      clear h12 hT hv
      go_enter Tryz.func102, Tryz.ntmps102
      go_wp2
      go_region
      all_goals
        go_wp2
        go_ret
        rw [HE.out]
        exact ⟨rfl, by repeat first | exact HX.out | exact Turned.refl _ _ | refine Turned.drew ?_ | refine Turned.alloc ?_ _⟩
end Go.Proofs.YtbnpdfakniebnaaGreatDoor
