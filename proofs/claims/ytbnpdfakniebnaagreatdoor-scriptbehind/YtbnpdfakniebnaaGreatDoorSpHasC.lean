/-
  hasText by contract. (Written by tools/gen/gensphas.py.)
-/
import Derived.Test.YtbnpdfakniebnaaGreatDoorSpFit
import Derived.Deep.RegionWith
namespace Go.Proofs.YtbnpdfakniebnaaGreatDoor
open Go.RowKit
set_option maxRecDepth 100000 in
set_option maxHeartbeats 1600000 in
theorem cHas_11 {w : World} (hT : TabC w) {a b cc : Int} {ps : List (Int × Int)} {pa : Option Addr} {pc : Nat} (hv : VW encP w (.slice pa ps.length pc) ps) (hl : ps.length ≤ 1000000000) : Calls Tryz.prog 102 #[clV ⟨11, a, b, cc, ps⟩ (.slice pa ps.length pc)] w fun r w' => r = .returned (.bool (hasT ⟨11, a, b, cc, ps⟩)) ∧ Turned [] w w' := by
  obtain ⟨⟨wd, nn, pb⟩, hq⟩ : ∃ q, callT[11]? = some q := ⟨_, rfl⟩
  have HX : Hid (Turned [] w (w.alloc (.cells #[.int .i64 11, .int .i64 a, .int .i64 b, .int .i64 cc, .slice pa ps.length pc] 79))) := (Turned.refl [] w).alloc _
  have HE2 : Hid (hasT ⟨11, a, b, cc, ps⟩ = fitsB (wd, nn, pb) ⟨11, a, b, cc, ps⟩) := by
    rw [Hid, ← rowT_at hq]
    rfl
  have hrow := (hT.still HX.out).row hq
  have t0 := hrow 0 _ rfl
  have t1 := hrow 1 _ rfl
  have t2 := hrow 2 _ rfl
  have hlt1 := TabC.lt (hT.still HX.out)
  have HF : Hid (∀ W, Turned [] w W → Calls Tryz.prog 138 #[.agg #[sV wd, .int .i64 nn, .bool pb], .agg #[.int .i64 11, .int .i64 a, .int .i64 b, .int .i64 cc, .slice pa ps.length pc]] W fun r w' => r = .returned (.bool (fitsB (wd, nn, pb) ⟨11, a, b, cc, ps⟩)) ∧ Turned [] W w') := fun W hW => cFits (q := (wd, nn, pb)) (c := ⟨11, a, b, cc, ps⟩) (hv.still hW) hl
  clear hq hrow hT hv
  generalize fitsB (wd, nn, pb) ⟨11, a, b, cc, ps⟩ = R at *
  rw [HE2.out]
  clear HE2
  go_enter Tryz.func102, Tryz.ntmps102
  go_wp2
  go_region_with (go_at_call 138; refine (HF.out _ (by repeat first | exact HX.out | exact Turned.refl _ _ | refine Turned.drew ?_ | refine Turned.alloc ?_ _)).mono ?_; rintro r1 w3 ⟨rfl, ht⟩; have HT3 : Hid (Turned [] w w3) := Turned.trans (l := []) (by repeat first | exact HX.out | exact Turned.refl _ _ | refine Turned.drew ?_ | refine Turned.alloc ?_ _) ht; clear ht)
  all_goals
    go_wp2
    go_ret
    exact ⟨rfl, HT3.out⟩
set_option maxRecDepth 100000 in
set_option maxHeartbeats 1600000 in
theorem cHas_12 {w : World} (hT : TabC w) {a b cc : Int} {ps : List (Int × Int)} {pa : Option Addr} {pc : Nat} (hv : VW encP w (.slice pa ps.length pc) ps) (hl : ps.length ≤ 1000000000) : Calls Tryz.prog 102 #[clV ⟨12, a, b, cc, ps⟩ (.slice pa ps.length pc)] w fun r w' => r = .returned (.bool (hasT ⟨12, a, b, cc, ps⟩)) ∧ Turned [] w w' := by
  obtain ⟨⟨wd, nn, pb⟩, hq⟩ : ∃ q, callT[12]? = some q := ⟨_, rfl⟩
  have HX : Hid (Turned [] w (w.alloc (.cells #[.int .i64 12, .int .i64 a, .int .i64 b, .int .i64 cc, .slice pa ps.length pc] 79))) := (Turned.refl [] w).alloc _
  have HE2 : Hid (hasT ⟨12, a, b, cc, ps⟩ = fitsB (wd, nn, pb) ⟨12, a, b, cc, ps⟩) := by
    rw [Hid, ← rowT_at hq]
    rfl
  have hrow := (hT.still HX.out).row hq
  have t0 := hrow 0 _ rfl
  have t1 := hrow 1 _ rfl
  have t2 := hrow 2 _ rfl
  have hlt1 := TabC.lt (hT.still HX.out)
  have HF : Hid (∀ W, Turned [] w W → Calls Tryz.prog 138 #[.agg #[sV wd, .int .i64 nn, .bool pb], .agg #[.int .i64 12, .int .i64 a, .int .i64 b, .int .i64 cc, .slice pa ps.length pc]] W fun r w' => r = .returned (.bool (fitsB (wd, nn, pb) ⟨12, a, b, cc, ps⟩)) ∧ Turned [] W w') := fun W hW => cFits (q := (wd, nn, pb)) (c := ⟨12, a, b, cc, ps⟩) (hv.still hW) hl
  clear hq hrow hT hv
  generalize fitsB (wd, nn, pb) ⟨12, a, b, cc, ps⟩ = R at *
  rw [HE2.out]
  clear HE2
  go_enter Tryz.func102, Tryz.ntmps102
  go_wp2
  go_region_with (go_at_call 138; refine (HF.out _ (by repeat first | exact HX.out | exact Turned.refl _ _ | refine Turned.drew ?_ | refine Turned.alloc ?_ _)).mono ?_; rintro r1 w3 ⟨rfl, ht⟩; have HT3 : Hid (Turned [] w w3) := Turned.trans (l := []) (by repeat first | exact HX.out | exact Turned.refl _ _ | refine Turned.drew ?_ | refine Turned.alloc ?_ _) ht; clear ht)
  all_goals
    go_wp2
    go_ret
    exact ⟨rfl, HT3.out⟩
set_option maxRecDepth 100000 in
set_option maxHeartbeats 1600000 in
theorem cHas_13 {w : World} (hT : TabC w) {a b cc : Int} {ps : List (Int × Int)} {pa : Option Addr} {pc : Nat} (hv : VW encP w (.slice pa ps.length pc) ps) (hl : ps.length ≤ 1000000000) : Calls Tryz.prog 102 #[clV ⟨13, a, b, cc, ps⟩ (.slice pa ps.length pc)] w fun r w' => r = .returned (.bool (hasT ⟨13, a, b, cc, ps⟩)) ∧ Turned [] w w' := by
  obtain ⟨⟨wd, nn, pb⟩, hq⟩ : ∃ q, callT[13]? = some q := ⟨_, rfl⟩
  have HX : Hid (Turned [] w (w.alloc (.cells #[.int .i64 13, .int .i64 a, .int .i64 b, .int .i64 cc, .slice pa ps.length pc] 79))) := (Turned.refl [] w).alloc _
  have HE2 : Hid (hasT ⟨13, a, b, cc, ps⟩ = fitsB (wd, nn, pb) ⟨13, a, b, cc, ps⟩) := by
    rw [Hid, ← rowT_at hq]
    rfl
  have hrow := (hT.still HX.out).row hq
  have t0 := hrow 0 _ rfl
  have t1 := hrow 1 _ rfl
  have t2 := hrow 2 _ rfl
  have hlt1 := TabC.lt (hT.still HX.out)
  have HF : Hid (∀ W, Turned [] w W → Calls Tryz.prog 138 #[.agg #[sV wd, .int .i64 nn, .bool pb], .agg #[.int .i64 13, .int .i64 a, .int .i64 b, .int .i64 cc, .slice pa ps.length pc]] W fun r w' => r = .returned (.bool (fitsB (wd, nn, pb) ⟨13, a, b, cc, ps⟩)) ∧ Turned [] W w') := fun W hW => cFits (q := (wd, nn, pb)) (c := ⟨13, a, b, cc, ps⟩) (hv.still hW) hl
  clear hq hrow hT hv
  generalize fitsB (wd, nn, pb) ⟨13, a, b, cc, ps⟩ = R at *
  rw [HE2.out]
  clear HE2
  go_enter Tryz.func102, Tryz.ntmps102
  go_wp2
  go_region_with (go_at_call 138; refine (HF.out _ (by repeat first | exact HX.out | exact Turned.refl _ _ | refine Turned.drew ?_ | refine Turned.alloc ?_ _)).mono ?_; rintro r1 w3 ⟨rfl, ht⟩; have HT3 : Hid (Turned [] w w3) := Turned.trans (l := []) (by repeat first | exact HX.out | exact Turned.refl _ _ | refine Turned.drew ?_ | refine Turned.alloc ?_ _) ht; clear ht)
  all_goals
    go_wp2
    go_ret
    exact ⟨rfl, HT3.out⟩
set_option maxRecDepth 100000 in
set_option maxHeartbeats 1600000 in
theorem cHas_14 {w : World} (hT : TabC w) {a b cc : Int} {ps : List (Int × Int)} {pa : Option Addr} {pc : Nat} (hv : VW encP w (.slice pa ps.length pc) ps) (hl : ps.length ≤ 1000000000) : Calls Tryz.prog 102 #[clV ⟨14, a, b, cc, ps⟩ (.slice pa ps.length pc)] w fun r w' => r = .returned (.bool (hasT ⟨14, a, b, cc, ps⟩)) ∧ Turned [] w w' := by
  obtain ⟨⟨wd, nn, pb⟩, hq⟩ : ∃ q, callT[14]? = some q := ⟨_, rfl⟩
  have HX : Hid (Turned [] w (w.alloc (.cells #[.int .i64 14, .int .i64 a, .int .i64 b, .int .i64 cc, .slice pa ps.length pc] 79))) := (Turned.refl [] w).alloc _
  have HE2 : Hid (hasT ⟨14, a, b, cc, ps⟩ = fitsB (wd, nn, pb) ⟨14, a, b, cc, ps⟩) := by
    rw [Hid, ← rowT_at hq]
    rfl
  have hrow := (hT.still HX.out).row hq
  have t0 := hrow 0 _ rfl
  have t1 := hrow 1 _ rfl
  have t2 := hrow 2 _ rfl
  have hlt1 := TabC.lt (hT.still HX.out)
  have HF : Hid (∀ W, Turned [] w W → Calls Tryz.prog 138 #[.agg #[sV wd, .int .i64 nn, .bool pb], .agg #[.int .i64 14, .int .i64 a, .int .i64 b, .int .i64 cc, .slice pa ps.length pc]] W fun r w' => r = .returned (.bool (fitsB (wd, nn, pb) ⟨14, a, b, cc, ps⟩)) ∧ Turned [] W w') := fun W hW => cFits (q := (wd, nn, pb)) (c := ⟨14, a, b, cc, ps⟩) (hv.still hW) hl
  clear hq hrow hT hv
  generalize fitsB (wd, nn, pb) ⟨14, a, b, cc, ps⟩ = R at *
  rw [HE2.out]
  clear HE2
  go_enter Tryz.func102, Tryz.ntmps102
  go_wp2
  go_region_with (go_at_call 138; refine (HF.out _ (by repeat first | exact HX.out | exact Turned.refl _ _ | refine Turned.drew ?_ | refine Turned.alloc ?_ _)).mono ?_; rintro r1 w3 ⟨rfl, ht⟩; have HT3 : Hid (Turned [] w w3) := Turned.trans (l := []) (by repeat first | exact HX.out | exact Turned.refl _ _ | refine Turned.drew ?_ | refine Turned.alloc ?_ _) ht; clear ht)
  all_goals
    go_wp2
    go_ret
    exact ⟨rfl, HT3.out⟩
set_option maxRecDepth 100000 in
set_option maxHeartbeats 1600000 in
theorem cHas_15 {w : World} (hT : TabC w) {a b cc : Int} {ps : List (Int × Int)} {pa : Option Addr} {pc : Nat} (hv : VW encP w (.slice pa ps.length pc) ps) (hl : ps.length ≤ 1000000000) : Calls Tryz.prog 102 #[clV ⟨15, a, b, cc, ps⟩ (.slice pa ps.length pc)] w fun r w' => r = .returned (.bool (hasT ⟨15, a, b, cc, ps⟩)) ∧ Turned [] w w' := by
  obtain ⟨⟨wd, nn, pb⟩, hq⟩ : ∃ q, callT[15]? = some q := ⟨_, rfl⟩
  have HX : Hid (Turned [] w (w.alloc (.cells #[.int .i64 15, .int .i64 a, .int .i64 b, .int .i64 cc, .slice pa ps.length pc] 79))) := (Turned.refl [] w).alloc _
  have HE2 : Hid (hasT ⟨15, a, b, cc, ps⟩ = fitsB (wd, nn, pb) ⟨15, a, b, cc, ps⟩) := by
    rw [Hid, ← rowT_at hq]
    rfl
  have hrow := (hT.still HX.out).row hq
  have t0 := hrow 0 _ rfl
  have t1 := hrow 1 _ rfl
  have t2 := hrow 2 _ rfl
  have hlt1 := TabC.lt (hT.still HX.out)
  have HF : Hid (∀ W, Turned [] w W → Calls Tryz.prog 138 #[.agg #[sV wd, .int .i64 nn, .bool pb], .agg #[.int .i64 15, .int .i64 a, .int .i64 b, .int .i64 cc, .slice pa ps.length pc]] W fun r w' => r = .returned (.bool (fitsB (wd, nn, pb) ⟨15, a, b, cc, ps⟩)) ∧ Turned [] W w') := fun W hW => cFits (q := (wd, nn, pb)) (c := ⟨15, a, b, cc, ps⟩) (hv.still hW) hl
  clear hq hrow hT hv
  generalize fitsB (wd, nn, pb) ⟨15, a, b, cc, ps⟩ = R at *
  rw [HE2.out]
  clear HE2
  go_enter Tryz.func102, Tryz.ntmps102
  go_wp2
  go_region_with (go_at_call 138; refine (HF.out _ (by repeat first | exact HX.out | exact Turned.refl _ _ | refine Turned.drew ?_ | refine Turned.alloc ?_ _)).mono ?_; rintro r1 w3 ⟨rfl, ht⟩; have HT3 : Hid (Turned [] w w3) := Turned.trans (l := []) (by repeat first | exact HX.out | exact Turned.refl _ _ | refine Turned.drew ?_ | refine Turned.alloc ?_ _) ht; clear ht)
  all_goals
    go_wp2
    go_ret
    exact ⟨rfl, HT3.out⟩
end Go.Proofs.YtbnpdfakniebnaaGreatDoor
