/-
  hasText by contract. (Written by tools/gen/gensphas.py.)
-/
import Derived.Test.YtbnpdfakniebnaaGreatDoorSpFit
import Derived.Deep.RegionWith
namespace Go.Proofs.YtbnpdfakniebnaaGreatDoor
open Go.RowKit
set_option maxRecDepth 100000 in
set_option maxHeartbeats 1600000 in
theorem cHas_6 {w : World} (hT : TabC w) {a b cc : Int} {ps : List (Int × Int)} {pa : Option Addr} {pc : Nat} (hv : VW encP w (.slice pa ps.length pc) ps) (hl : ps.length ≤ 1000000000) : Calls Tryz.prog 102 #[clV ⟨6, a, b, cc, ps⟩ (.slice pa ps.length pc)] w fun r w' => r = .returned (.bool (hasT ⟨6, a, b, cc, ps⟩)) ∧ Turned [] w w' := by
  obtain ⟨⟨wd, nn, pb⟩, hq⟩ : ∃ q, callT[6]? = some q := ⟨_, rfl⟩
  have HX : Hid (Turned [] w (w.alloc (.cells #[.int .i64 6, .int .i64 a, .int .i64 b, .int .i64 cc, .slice pa ps.length pc] 79))) := (Turned.refl [] w).alloc _
  have HE2 : Hid (hasT ⟨6, a, b, cc, ps⟩ = fitsB (wd, nn, pb) ⟨6, a, b, cc, ps⟩) := by
    rw [Hid, ← rowT_at hq]
    rfl
  have hrow := (hT.still HX.out).row hq
  have t0 := hrow 0 _ rfl
  have t1 := hrow 1 _ rfl
  have t2 := hrow 2 _ rfl
  have hlt1 := TabC.lt (hT.still HX.out)
  have HF : Hid (∀ W, Turned [] w W → Calls Tryz.prog 138 #[.agg #[sV wd, .int .i64 nn, .bool pb], .agg #[.int .i64 6, .int .i64 a, .int .i64 b, .int .i64 cc, .slice pa ps.length pc]] W fun r w' => r = .returned (.bool (fitsB (wd, nn, pb) ⟨6, a, b, cc, ps⟩)) ∧ Turned [] W w') := fun W hW => cFits (q := (wd, nn, pb)) (c := ⟨6, a, b, cc, ps⟩) (hv.still hW) hl
  clear hq hrow hT hv
  generalize fitsB (wd, nn, pb) ⟨6, a, b, cc, ps⟩ = R at *
  rw [HE2.out]
  clear HE2
  go_enter Tryz.func102, Tryz.ntmps102
  go_wp2
  go_region_with (go_at_call 138; refine (HF.out _ (by repeat first | exact HX.out | exact Turned.refl _ _ | refine Turned.drew ?_ | refine Turned.alloc ?_ _)).mono ?_; rintro r1 w3 ⟨rfl, ht⟩; have HT3 : Hid (Turned [] w w3) := Turned.trans (l := []) (by repeat first | exact HX.out | exact Turned.refl _ _ | refine Turned.drew ?_ | refine Turned.alloc ?_ _) ht; clear ht)
  all_goals
    go_wp2
    go_ret
    exact ⟨rfl, HT3.out⟩
set_option maxRecDepth 100000 in
set_option maxHeartbeats 1600000 in
theorem cHas_7 {w : World} (hT : TabC w) {a b cc : Int} {ps : List (Int × Int)} {pa : Option Addr} {pc : Nat} (hv : VW encP w (.slice pa ps.length pc) ps) (hl : ps.length ≤ 1000000000) : Calls Tryz.prog 102 #[clV ⟨7, a, b, cc, ps⟩ (.slice pa ps.length pc)] w fun r w' => r = .returned (.bool (hasT ⟨7, a, b, cc, ps⟩)) ∧ Turned [] w w' := by
  obtain ⟨⟨wd, nn, pb⟩, hq⟩ : ∃ q, callT[7]? = some q := ⟨_, rfl⟩
  have HX : Hid (Turned [] w (w.alloc (.cells #[.int .i64 7, .int .i64 a, .int .i64 b, .int .i64 cc, .slice pa ps.length pc] 79))) := (Turned.refl [] w).alloc _
  have HE2 : Hid (hasT ⟨7, a, b, cc, ps⟩ = fitsB (wd, nn, pb) ⟨7, a, b, cc, ps⟩) := by
    rw [Hid, ← rowT_at hq]
    rfl
  have hrow := (hT.still HX.out).row hq
  have t0 := hrow 0 _ rfl
  have t1 := hrow 1 _ rfl
  have t2 := hrow 2 _ rfl
  have hlt1 := TabC.lt (hT.still HX.out)
  have HF : Hid (∀ W, Turned [] w W → Calls Tryz.prog 138 #[.agg #[sV wd, .int .i64 nn, .bool pb], .agg #[.int .i64 7, .int .i64 a, .int .i64 b, .int .i64 cc, .slice pa ps.length pc]] W fun r w' => r = .returned (.bool (fitsB (wd, nn, pb) ⟨7, a, b, cc, ps⟩)) ∧ Turned [] W w') := fun W hW => cFits (q := (wd, nn, pb)) (c := ⟨7, a, b, cc, ps⟩) (hv.still hW) hl
  clear hq hrow hT hv
  generalize fitsB (wd, nn, pb) ⟨7, a, b, cc, ps⟩ = R at *
  rw [HE2.out]
  clear HE2
  go_enter Tryz.func102, Tryz.ntmps102
  go_wp2
  go_region_with (go_at_call 138; refine (HF.out _ (by repeat first | exact HX.out | exact Turned.refl _ _ | refine Turned.drew ?_ | refine Turned.alloc ?_ _)).mono ?_; rintro r1 w3 ⟨rfl, ht⟩; have HT3 : Hid (Turned [] w w3) := Turned.trans (l := []) (by repeat first | exact HX.out | exact Turned.refl _ _ | refine Turned.drew ?_ | refine Turned.alloc ?_ _) ht; clear ht)
  all_goals
    go_wp2
    go_ret
    exact ⟨rfl, HT3.out⟩
set_option maxRecDepth 100000 in
set_option maxHeartbeats 1600000 in
theorem cHas_8 {w : World} (hT : TabC w) {a b cc : Int} {ps : List (Int × Int)} {pa : Option Addr} {pc : Nat} (hv : VW encP w (.slice pa ps.length pc) ps) (hl : ps.length ≤ 1000000000) : Calls Tryz.prog 102 #[clV ⟨8, a, b, cc, ps⟩ (.slice pa ps.length pc)] w fun r w' => r = .returned (.bool (hasT ⟨8, a, b, cc, ps⟩)) ∧ Turned [] w w' := by
  obtain ⟨⟨wd, nn, pb⟩, hq⟩ : ∃ q, callT[8]? = some q := ⟨_, rfl⟩
  have HX : Hid (Turned [] w (w.alloc (.cells #[.int .i64 8, .int .i64 a, .int .i64 b, .int .i64 cc, .slice pa ps.length pc] 79))) := (Turned.refl [] w).alloc _
  have HE2 : Hid (hasT ⟨8, a, b, cc, ps⟩ = fitsB (wd, nn, pb) ⟨8, a, b, cc, ps⟩) := by
    rw [Hid, ← rowT_at hq]
    rfl
  have hrow := (hT.still HX.out).row hq
  have t0 := hrow 0 _ rfl
  have t1 := hrow 1 _ rfl
  have t2 := hrow 2 _ rfl
  have hlt1 := TabC.lt (hT.still HX.out)
  have HF : Hid (∀ W, Turned [] w W → Calls Tryz.prog 138 #[.agg #[sV wd, .int .i64 nn, .bool pb], .agg #[.int .i64 8, .int .i64 a, .int .i64 b, .int .i64 cc, .slice pa ps.length pc]] W fun r w' => r = .returned (.bool (fitsB (wd, nn, pb) ⟨8, a, b, cc, ps⟩)) ∧ Turned [] W w') := fun W hW => cFits (q := (wd, nn, pb)) (c := ⟨8, a, b, cc, ps⟩) (hv.still hW) hl
  clear hq hrow hT hv
  generalize fitsB (wd, nn, pb) ⟨8, a, b, cc, ps⟩ = R at *
  rw [HE2.out]
  clear HE2
  go_enter Tryz.func102, Tryz.ntmps102
  go_wp2
  go_region_with (go_at_call 138; refine (HF.out _ (by repeat first | exact HX.out | exact Turned.refl _ _ | refine Turned.drew ?_ | refine Turned.alloc ?_ _)).mono ?_; rintro r1 w3 ⟨rfl, ht⟩; have HT3 : Hid (Turned [] w w3) := Turned.trans (l := []) (by repeat first | exact HX.out | exact Turned.refl _ _ | refine Turned.drew ?_ | refine Turned.alloc ?_ _) ht; clear ht)
  all_goals
    go_wp2
    go_ret
    exact ⟨rfl, HT3.out⟩
set_option maxRecDepth 100000 in
set_option maxHeartbeats 1600000 in
theorem cHas_9 {w : World} (hT : TabC w) {a b cc : Int} {ps : List (Int × Int)} {pa : Option Addr} {pc : Nat} (hv : VW encP w (.slice pa ps.length pc) ps) (hl : ps.length ≤ 1000000000) : Calls Tryz.prog 102 #[clV ⟨9, a, b, cc, ps⟩ (.slice pa ps.length pc)] w fun r w' => r = .returned (.bool (hasT ⟨9, a, b, cc, ps⟩)) ∧ Turned [] w w' := by
  obtain ⟨⟨wd, nn, pb⟩, hq⟩ : ∃ q, callT[9]? = some q := ⟨_, rfl⟩
  have HX : Hid (Turned [] w (w.alloc (.cells #[.int .i64 9, .int .i64 a, .int .i64 b, .int .i64 cc, .slice pa ps.length pc] 79))) := (Turned.refl [] w).alloc _
  have HE2 : Hid (hasT ⟨9, a, b, cc, ps⟩ = fitsB (wd, nn, pb) ⟨9, a, b, cc, ps⟩) := by
    rw [Hid, ← rowT_at hq]
    rfl
  have hrow := (hT.still HX.out).row hq
  have t0 := hrow 0 _ rfl
  have t1 := hrow 1 _ rfl
  have t2 := hrow 2 _ rfl
  have hlt1 := TabC.lt (hT.still HX.out)
  have HF : Hid (∀ W, Turned [] w W → Calls Tryz.prog 138 #[.agg #[sV wd, .int .i64 nn, .bool pb], .agg #[.int .i64 9, .int .i64 a, .int .i64 b, .int .i64 cc, .slice pa ps.length pc]] W fun r w' => r = .returned (.bool (fitsB (wd, nn, pb) ⟨9, a, b, cc, ps⟩)) ∧ Turned [] W w') := fun W hW => cFits (q := (wd, nn, pb)) (c := ⟨9, a, b, cc, ps⟩) (hv.still hW) hl
  clear hq hrow hT hv
  generalize fitsB (wd, nn, pb) ⟨9, a, b, cc, ps⟩ = R at *
  rw [HE2.out]
  clear HE2
  go_enter Tryz.func102, Tryz.ntmps102
  go_wp2
  go_region_with (go_at_call 138; refine (HF.out _ (by repeat first | exact HX.out | exact Turned.refl _ _ | refine Turned.drew ?_ | refine Turned.alloc ?_ _)).mono ?_; rintro r1 w3 ⟨rfl, ht⟩; have HT3 : Hid (Turned [] w w3) := Turned.trans (l := []) (by repeat first | exact HX.out | exact Turned.refl _ _ | refine Turned.drew ?_ | refine Turned.alloc ?_ _) ht; clear ht)
  all_goals
    go_wp2
    go_ret
    exact ⟨rfl, HT3.out⟩
set_option maxRecDepth 100000 in
set_option maxHeartbeats 1600000 in
theorem cHas_10 {w : World} (hT : TabC w) {a b cc : Int} {ps : List (Int × Int)} {pa : Option Addr} {pc : Nat} (hv : VW encP w (.slice pa ps.length pc) ps) (hl : ps.length ≤ 1000000000) : Calls Tryz.prog 102 #[clV ⟨10, a, b, cc, ps⟩ (.slice pa ps.length pc)] w fun r w' => r = .returned (.bool (hasT ⟨10, a, b, cc, ps⟩)) ∧ Turned [] w w' := by
  obtain ⟨⟨wd, nn, pb⟩, hq⟩ : ∃ q, callT[10]? = some q := ⟨_, rfl⟩
  have HX : Hid (Turned [] w (w.alloc (.cells #[.int .i64 10, .int .i64 a, .int .i64 b, .int .i64 cc, .slice pa ps.length pc] 79))) := (Turned.refl [] w).alloc _
  have HE2 : Hid (hasT ⟨10, a, b, cc, ps⟩ = fitsB (wd, nn, pb) ⟨10, a, b, cc, ps⟩) := by
    rw [Hid, ← rowT_at hq]
    rfl
  have hrow := (hT.still HX.out).row hq
  have t0 := hrow 0 _ rfl
  have t1 := hrow 1 _ rfl
  have t2 := hrow 2 _ rfl
  have hlt1 := TabC.lt (hT.still HX.out)
  have HF : Hid (∀ W, Turned [] w W → Calls Tryz.prog 138 #[.agg #[sV wd, .int .i64 nn, .bool pb], .agg #[.int .i64 10, .int .i64 a, .int .i64 b, .int .i64 cc, .slice pa ps.length pc]] W fun r w' => r = .returned (.bool (fitsB (wd, nn, pb) ⟨10, a, b, cc, ps⟩)) ∧ Turned [] W w') := fun W hW => cFits (q := (wd, nn, pb)) (c := ⟨10, a, b, cc, ps⟩) (hv.still hW) hl
  clear hq hrow hT hv
  generalize fitsB (wd, nn, pb) ⟨10, a, b, cc, ps⟩ = R at *
  rw [HE2.out]
  clear HE2
  go_enter Tryz.func102, Tryz.ntmps102
  go_wp2
  go_region_with (go_at_call 138; refine (HF.out _ (by repeat first | exact HX.out | exact Turned.refl _ _ | refine Turned.drew ?_ | refine Turned.alloc ?_ _)).mono ?_; rintro r1 w3 ⟨rfl, ht⟩; have HT3 : Hid (Turned [] w w3) := Turned.trans (l := []) (by repeat first | exact HX.out | exact Turned.refl _ _ | refine Turned.drew ?_ | refine Turned.alloc ?_ _) ht; clear ht)
  all_goals
    go_wp2
    go_ret
    exact ⟨rfl, HT3.out⟩
end Go.Proofs.YtbnpdfakniebnaaGreatDoor
