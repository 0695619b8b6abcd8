/- The book's kinds of which no list is kept. -/
import Derived.Test.YtaalohcldoakoaaGreatDoorJ14
import Derived.Test.YtaalohcldoakoaaGreatDoorJ27
import Derived.Test.YtaalohcldoakoaaGreatDoorJ29
import Derived.Test.YtaalohcldoakoaaGreatDoorJ30
import Derived.Test.YtaalohcldoakoaaGreatDoorJ32
import Derived.Test.YtaalohcldoakoaaGreatDoorJ33
import Derived.Test.YtaalohcldoakoaaGreatDoorJ34
namespace Go.Proofs.YtaalohcldoakoaaGreatDoor
open Go.RowKit
set_option maxRecDepth 100000 in
set_option maxHeartbeats 1600000 in
theorem cMarkTexts {w : World} {bb : Nat} {f : Nat → Value} (h : BK w bb f) (h2 : f 15 = .slice none 0 0) (h3 : f 16 = .slice none 0 0) (h5 : f 18 = .slice none 0 0) (h6 : f 19 = .slice none 0 0) : Calls Tryz.prog 140 #[.pointer (some ⟨bb, 0, none⟩)] w fun e w' => e = .returned (.tuple #[]) ∧ w' = w := by
  have c2 := h.cell (i := 15) (by omega)
  rw [h2] at c2
  have c3 := h.cell (i := 16) (by omega)
  rw [h3] at c3
  have c5 := h.cell (i := 18) (by omega)
  rw [h5] at c5
  have c6 := h.cell (i := 19) (by omega)
  rw [h6] at c6
  clear h h2 h3 h5 h6
  go_enter Tryz.func140, Tryz.ntmps140
  go_wp2
  refine bodyPost_ret (results_none rfl _ _ _) rfl ⟨rfl, rfl⟩
set_option maxRecDepth 100000 in
set_option maxHeartbeats 1600000 in
theorem cGrowTexts {w : World} {bb : Nat} {f : Nat → Value} (h : BK w bb f) (h4 : f 17 = .slice none 0 0) (h7 : f 20 = .slice none 0 0) : Calls Tryz.prog 151 #[.pointer (some ⟨bb, 0, none⟩)] w fun e w' => e = .returned (.tuple #[]) ∧ w' = ((w.setCell ⟨bb, 17, none⟩ (.slice none 0 0)).setCell ⟨bb, 20, none⟩ (.slice none 0 0)) := by
  have c4 := h.cell (i := 17) (by omega)
  rw [h4] at c4
  have c7 := h.cell (i := 20) (by omega)
  rw [h7] at c7
  have z := h.froz
  clear h h4 h7
  go_enter Tryz.func151, Tryz.ntmps151
  go_wp2
  go_loopw [2] (fun i wx => i = .int .i64 0 ∧ Hid (wx = w)) (fun _ _ => 0)
  case atStart => exact ⟨rfl, rfl⟩
  case round =>
    obtain ⟨rfl, HW⟩ := hrel
    obtain rfl := HW.out
    go_wp2
    refine bodyPost_end (results_none rfl _ _ _) rfl ⟨rfl, rfl⟩
set_option maxRecDepth 100000 in
set_option maxHeartbeats 1600000 in
theorem cHoldTexts {w : World} {bb : Nat} {f : Nat → Value} (h : BK w bb f) (h0 : f 13 = .slice none 0 0) (h2 : f 15 = .slice none 0 0) : Calls Tryz.prog 43 #[.pointer (some ⟨bb, 0, none⟩)] w fun e w' => e = .returned (.bool true) ∧ w' = w := by
  have c0 := h.cell (i := 13) (by omega)
  rw [h0] at c0
  have c2 := h.cell (i := 15) (by omega)
  rw [h2] at c2
  clear h h0 h2
  go_enter Tryz.func43, Tryz.ntmps43
  go_wp2
  go_loopw [3] (fun i wx => i = .int .i64 0 ∧ Hid (wx = w)) (fun _ _ => 0)
  case atStart => exact ⟨rfl, rfl⟩
  case round =>
    obtain ⟨rfl, HW⟩ := hrel
    obtain rfl := HW.out
    go_wp2
    go_loopw [4] (fun i wx => i = .int .i64 0 ∧ Hid (wx = wr)) (fun _ _ => 0)
    case atStart => exact ⟨rfl, rfl⟩
    case round =>
      obtain ⟨rfl, HW⟩ := hrel
      obtain rfl := HW.out
      go_wp2
      go_ret
      exact ⟨rfl, rfl⟩
set_option maxRecDepth 100000 in
set_option maxHeartbeats 1600000 in
theorem cMarkPairs {w : World} {bb : Nat} {f : Nat → Value} (h : BK w bb f) (h2 : f 24 = .slice none 0 0) (h3 : f 25 = .slice none 0 0) (h5 : f 27 = .slice none 0 0) (h6 : f 28 = .slice none 0 0) : Calls Tryz.prog 141 #[.pointer (some ⟨bb, 0, none⟩)] w fun e w' => e = .returned (.tuple #[]) ∧ w' = w := by
  have c2 := h.cell (i := 24) (by omega)
  rw [h2] at c2
  have c3 := h.cell (i := 25) (by omega)
  rw [h3] at c3
  have c5 := h.cell (i := 27) (by omega)
  rw [h5] at c5
  have c6 := h.cell (i := 28) (by omega)
  rw [h6] at c6
  clear h h2 h3 h5 h6
  go_enter Tryz.func141, Tryz.ntmps141
  go_wp2
  refine bodyPost_ret (results_none rfl _ _ _) rfl ⟨rfl, rfl⟩
set_option maxRecDepth 100000 in
set_option maxHeartbeats 1600000 in
theorem cGrowPairs {w : World} {bb : Nat} {f : Nat → Value} (h : BK w bb f) (h4 : f 26 = .slice none 0 0) (h7 : f 29 = .slice none 0 0) : Calls Tryz.prog 152 #[.pointer (some ⟨bb, 0, none⟩)] w fun e w' => e = .returned (.tuple #[]) ∧ w' = ((w.setCell ⟨bb, 26, none⟩ (.slice none 0 0)).setCell ⟨bb, 29, none⟩ (.slice none 0 0)) := by
  have c4 := h.cell (i := 26) (by omega)
  rw [h4] at c4
  have c7 := h.cell (i := 29) (by omega)
  rw [h7] at c7
  have z := h.froz
  clear h h4 h7
  go_enter Tryz.func152, Tryz.ntmps152
  go_wp2
  go_loopw [2] (fun i wx => i = .int .i64 0 ∧ Hid (wx = w)) (fun _ _ => 0)
  case atStart => exact ⟨rfl, rfl⟩
  case round =>
    obtain ⟨rfl, HW⟩ := hrel
    obtain rfl := HW.out
    go_wp2
    refine bodyPost_end (results_none rfl _ _ _) rfl ⟨rfl, rfl⟩
set_option maxRecDepth 100000 in
set_option maxHeartbeats 1600000 in
theorem cHoldPairs {w : World} {bb : Nat} {f : Nat → Value} (h : BK w bb f) (h0 : f 22 = .slice none 0 0) (h2 : f 24 = .slice none 0 0) : Calls Tryz.prog 44 #[.pointer (some ⟨bb, 0, none⟩)] w fun e w' => e = .returned (.bool true) ∧ w' = w := by
  have c0 := h.cell (i := 22) (by omega)
  rw [h0] at c0
  have c2 := h.cell (i := 24) (by omega)
  rw [h2] at c2
  clear h h0 h2
  go_enter Tryz.func44, Tryz.ntmps44
  go_wp2
  go_loopw [3] (fun i wx => i = .int .i64 0 ∧ Hid (wx = w)) (fun _ _ => 0)
  case atStart => exact ⟨rfl, rfl⟩
  case round =>
    obtain ⟨rfl, HW⟩ := hrel
    obtain rfl := HW.out
    go_wp2
    go_loopw [4] (fun i wx => i = .int .i64 0 ∧ Hid (wx = wr)) (fun _ _ => 0)
    case atStart => exact ⟨rfl, rfl⟩
    case round =>
      obtain ⟨rfl, HW⟩ := hrel
      obtain rfl := HW.out
      go_wp2
      go_ret
      exact ⟨rfl, rfl⟩
set_option maxRecDepth 100000 in
set_option maxHeartbeats 1600000 in
theorem cMarkChanges {w : World} {bb : Nat} {f : Nat → Value} (h : BK w bb f) (h2 : f 42 = .slice none 0 0) (h3 : f 43 = .slice none 0 0) (h5 : f 45 = .slice none 0 0) (h6 : f 46 = .slice none 0 0) : Calls Tryz.prog 143 #[.pointer (some ⟨bb, 0, none⟩)] w fun e w' => e = .returned (.tuple #[]) ∧ w' = w := by
  have c2 := h.cell (i := 42) (by omega)
  rw [h2] at c2
  have c3 := h.cell (i := 43) (by omega)
  rw [h3] at c3
  have c5 := h.cell (i := 45) (by omega)
  rw [h5] at c5
  have c6 := h.cell (i := 46) (by omega)
  rw [h6] at c6
  clear h h2 h3 h5 h6
  go_enter Tryz.func143, Tryz.ntmps143
  go_wp2
  refine bodyPost_ret (results_none rfl _ _ _) rfl ⟨rfl, rfl⟩
set_option maxRecDepth 100000 in
set_option maxHeartbeats 1600000 in
theorem cGrowChanges {w : World} {bb : Nat} {f : Nat → Value} (h : BK w bb f) (h4 : f 44 = .slice none 0 0) (h7 : f 47 = .slice none 0 0) : Calls Tryz.prog 154 #[.pointer (some ⟨bb, 0, none⟩)] w fun e w' => e = .returned (.tuple #[]) ∧ w' = ((w.setCell ⟨bb, 44, none⟩ (.slice none 0 0)).setCell ⟨bb, 47, none⟩ (.slice none 0 0)) := by
  have c4 := h.cell (i := 44) (by omega)
  rw [h4] at c4
  have c7 := h.cell (i := 47) (by omega)
  rw [h7] at c7
  have z := h.froz
  clear h h4 h7
  go_enter Tryz.func154, Tryz.ntmps154
  go_wp2
  go_loopw [2] (fun i wx => i = .int .i64 0 ∧ Hid (wx = w)) (fun _ _ => 0)
  case atStart => exact ⟨rfl, rfl⟩
  case round =>
    obtain ⟨rfl, HW⟩ := hrel
    obtain rfl := HW.out
    go_wp2
    refine bodyPost_end (results_none rfl _ _ _) rfl ⟨rfl, rfl⟩
set_option maxRecDepth 100000 in
set_option maxHeartbeats 1600000 in
theorem cHoldChanges {w : World} {bb : Nat} {f : Nat → Value} (h : BK w bb f) (h0 : f 40 = .slice none 0 0) (h2 : f 42 = .slice none 0 0) : Calls Tryz.prog 46 #[.pointer (some ⟨bb, 0, none⟩)] w fun e w' => e = .returned (.bool true) ∧ w' = w := by
  have c0 := h.cell (i := 40) (by omega)
  rw [h0] at c0
  have c2 := h.cell (i := 42) (by omega)
  rw [h2] at c2
  clear h h0 h2
  go_enter Tryz.func46, Tryz.ntmps46
  go_wp2
  go_loopw [3] (fun i wx => i = .int .i64 0 ∧ Hid (wx = w)) (fun _ _ => 0)
  case atStart => exact ⟨rfl, rfl⟩
  case round =>
    obtain ⟨rfl, HW⟩ := hrel
    obtain rfl := HW.out
    go_wp2
    go_loopw [4] (fun i wx => i = .int .i64 0 ∧ Hid (wx = wr)) (fun _ _ => 0)
    case atStart => exact ⟨rfl, rfl⟩
    case round =>
      obtain ⟨rfl, HW⟩ := hrel
      obtain rfl := HW.out
      go_wp2
      go_ret
      exact ⟨rfl, rfl⟩
set_option maxRecDepth 100000 in
set_option maxHeartbeats 1600000 in
theorem cMarkOpens {w : World} {bb : Nat} {f : Nat → Value} (h : BK w bb f) (h2 : f 51 = .slice none 0 0) (h3 : f 52 = .slice none 0 0) (h5 : f 54 = .slice none 0 0) (h6 : f 55 = .slice none 0 0) : Calls Tryz.prog 144 #[.pointer (some ⟨bb, 0, none⟩)] w fun e w' => e = .returned (.tuple #[]) ∧ w' = w := by
  have c2 := h.cell (i := 51) (by omega)
  rw [h2] at c2
  have c3 := h.cell (i := 52) (by omega)
  rw [h3] at c3
  have c5 := h.cell (i := 54) (by omega)
  rw [h5] at c5
  have c6 := h.cell (i := 55) (by omega)
  rw [h6] at c6
  clear h h2 h3 h5 h6
  go_enter Tryz.func144, Tryz.ntmps144
  go_wp2
  refine bodyPost_ret (results_none rfl _ _ _) rfl ⟨rfl, rfl⟩
set_option maxRecDepth 100000 in
set_option maxHeartbeats 1600000 in
theorem cGrowOpens {w : World} {bb : Nat} {f : Nat → Value} (h : BK w bb f) (h4 : f 53 = .slice none 0 0) (h7 : f 56 = .slice none 0 0) : Calls Tryz.prog 155 #[.pointer (some ⟨bb, 0, none⟩)] w fun e w' => e = .returned (.tuple #[]) ∧ w' = ((w.setCell ⟨bb, 53, none⟩ (.slice none 0 0)).setCell ⟨bb, 56, none⟩ (.slice none 0 0)) := by
  have c4 := h.cell (i := 53) (by omega)
  rw [h4] at c4
  have c7 := h.cell (i := 56) (by omega)
  rw [h7] at c7
  have z := h.froz
  clear h h4 h7
  go_enter Tryz.func155, Tryz.ntmps155
  go_wp2
  go_loopw [2] (fun i wx => i = .int .i64 0 ∧ Hid (wx = w)) (fun _ _ => 0)
  case atStart => exact ⟨rfl, rfl⟩
  case round =>
    obtain ⟨rfl, HW⟩ := hrel
    obtain rfl := HW.out
    go_wp2
    refine bodyPost_end (results_none rfl _ _ _) rfl ⟨rfl, rfl⟩
set_option maxRecDepth 100000 in
set_option maxHeartbeats 1600000 in
theorem cHoldOpens {w : World} {bb : Nat} {f : Nat → Value} (h : BK w bb f) (h0 : f 49 = .slice none 0 0) (h2 : f 51 = .slice none 0 0) : Calls Tryz.prog 47 #[.pointer (some ⟨bb, 0, none⟩)] w fun e w' => e = .returned (.bool true) ∧ w' = w := by
  have c0 := h.cell (i := 49) (by omega)
  rw [h0] at c0
  have c2 := h.cell (i := 51) (by omega)
  rw [h2] at c2
  clear h h0 h2
  go_enter Tryz.func47, Tryz.ntmps47
  go_wp2
  go_loopw [3] (fun i wx => i = .int .i64 0 ∧ Hid (wx = w)) (fun _ _ => 0)
  case atStart => exact ⟨rfl, rfl⟩
  case round =>
    obtain ⟨rfl, HW⟩ := hrel
    obtain rfl := HW.out
    go_wp2
    go_loopw [4] (fun i wx => i = .int .i64 0 ∧ Hid (wx = wr)) (fun _ _ => 0)
    case atStart => exact ⟨rfl, rfl⟩
    case round =>
      obtain ⟨rfl, HW⟩ := hrel
      obtain rfl := HW.out
      go_wp2
      go_ret
      exact ⟨rfl, rfl⟩
set_option maxRecDepth 100000 in
set_option maxHeartbeats 1600000 in
theorem cMarkLists {w : World} {bb : Nat} {f : Nat → Value} (h : BK w bb f) (h2 : f 60 = .slice none 0 0) (h3 : f 61 = .slice none 0 0) (h5 : f 63 = .slice none 0 0) (h6 : f 64 = .slice none 0 0) : Calls Tryz.prog 145 #[.pointer (some ⟨bb, 0, none⟩)] w fun e w' => e = .returned (.tuple #[]) ∧ w' = w := by
  have c2 := h.cell (i := 60) (by omega)
  rw [h2] at c2
  have c3 := h.cell (i := 61) (by omega)
  rw [h3] at c3
  have c5 := h.cell (i := 63) (by omega)
  rw [h5] at c5
  have c6 := h.cell (i := 64) (by omega)
  rw [h6] at c6
  clear h h2 h3 h5 h6
  go_enter Tryz.func145, Tryz.ntmps145
  go_wp2
  refine bodyPost_ret (results_none rfl _ _ _) rfl ⟨rfl, rfl⟩
set_option maxRecDepth 100000 in
set_option maxHeartbeats 1600000 in
theorem cGrowLists {w : World} {bb : Nat} {f : Nat → Value} (h : BK w bb f) (h4 : f 62 = .slice none 0 0) (h7 : f 65 = .slice none 0 0) : Calls Tryz.prog 156 #[.pointer (some ⟨bb, 0, none⟩)] w fun e w' => e = .returned (.tuple #[]) ∧ w' = ((w.setCell ⟨bb, 62, none⟩ (.slice none 0 0)).setCell ⟨bb, 65, none⟩ (.slice none 0 0)) := by
  have c4 := h.cell (i := 62) (by omega)
  rw [h4] at c4
  have c7 := h.cell (i := 65) (by omega)
  rw [h7] at c7
  have z := h.froz
  clear h h4 h7
  go_enter Tryz.func156, Tryz.ntmps156
  go_wp2
  go_loopw [2] (fun i wx => i = .int .i64 0 ∧ Hid (wx = w)) (fun _ _ => 0)
  case atStart => exact ⟨rfl, rfl⟩
  case round =>
    obtain ⟨rfl, HW⟩ := hrel
    obtain rfl := HW.out
    go_wp2
    refine bodyPost_end (results_none rfl _ _ _) rfl ⟨rfl, rfl⟩
set_option maxRecDepth 100000 in
set_option maxHeartbeats 1600000 in
theorem cHoldLists {w : World} {bb : Nat} {f : Nat → Value} (h : BK w bb f) (h0 : f 58 = .slice none 0 0) (h2 : f 60 = .slice none 0 0) : Calls Tryz.prog 48 #[.pointer (some ⟨bb, 0, none⟩)] w fun e w' => e = .returned (.bool true) ∧ w' = w := by
  have c0 := h.cell (i := 58) (by omega)
  rw [h0] at c0
  have c2 := h.cell (i := 60) (by omega)
  rw [h2] at c2
  clear h h0 h2
  go_enter Tryz.func48, Tryz.ntmps48
  go_wp2
  go_loopw [3] (fun i wx => i = .int .i64 0 ∧ Hid (wx = w)) (fun _ _ => 0)
  case atStart => exact ⟨rfl, rfl⟩
  case round =>
    obtain ⟨rfl, HW⟩ := hrel
    obtain rfl := HW.out
    go_wp2
    go_loopw [4] (fun i wx => i = .int .i64 0 ∧ Hid (wx = wr)) (fun _ _ => 0)
    case atStart => exact ⟨rfl, rfl⟩
    case round =>
      obtain ⟨rfl, HW⟩ := hrel
      obtain rfl := HW.out
      go_wp2
      go_ret
      exact ⟨rfl, rfl⟩
set_option maxRecDepth 100000 in
set_option maxHeartbeats 1600000 in
theorem cMarkAnswers {w : World} {bb : Nat} {f : Nat → Value} (h : BK w bb f) (h2 : f 69 = .slice none 0 0) (h3 : f 70 = .slice none 0 0) (h5 : f 72 = .slice none 0 0) (h6 : f 73 = .slice none 0 0) : Calls Tryz.prog 146 #[.pointer (some ⟨bb, 0, none⟩)] w fun e w' => e = .returned (.tuple #[]) ∧ w' = w := by
  have c2 := h.cell (i := 69) (by omega)
  rw [h2] at c2
  have c3 := h.cell (i := 70) (by omega)
  rw [h3] at c3
  have c5 := h.cell (i := 72) (by omega)
  rw [h5] at c5
  have c6 := h.cell (i := 73) (by omega)
  rw [h6] at c6
  clear h h2 h3 h5 h6
  go_enter Tryz.func146, Tryz.ntmps146
  go_wp2
  refine bodyPost_ret (results_none rfl _ _ _) rfl ⟨rfl, rfl⟩
set_option maxRecDepth 100000 in
set_option maxHeartbeats 1600000 in
theorem cGrowAnswers {w : World} {bb : Nat} {f : Nat → Value} (h : BK w bb f) (h4 : f 71 = .slice none 0 0) (h7 : f 74 = .slice none 0 0) : Calls Tryz.prog 157 #[.pointer (some ⟨bb, 0, none⟩)] w fun e w' => e = .returned (.tuple #[]) ∧ w' = ((w.setCell ⟨bb, 71, none⟩ (.slice none 0 0)).setCell ⟨bb, 74, none⟩ (.slice none 0 0)) := by
  have c4 := h.cell (i := 71) (by omega)
  rw [h4] at c4
  have c7 := h.cell (i := 74) (by omega)
  rw [h7] at c7
  have z := h.froz
  clear h h4 h7
  go_enter Tryz.func157, Tryz.ntmps157
  go_wp2
  go_loopw [2] (fun i wx => i = .int .i64 0 ∧ Hid (wx = w)) (fun _ _ => 0)
  case atStart => exact ⟨rfl, rfl⟩
  case round =>
    obtain ⟨rfl, HW⟩ := hrel
    obtain rfl := HW.out
    go_wp2
    refine bodyPost_end (results_none rfl _ _ _) rfl ⟨rfl, rfl⟩
set_option maxRecDepth 100000 in
set_option maxHeartbeats 1600000 in
theorem cHoldAnswers {w : World} {bb : Nat} {f : Nat → Value} (h : BK w bb f) (h0 : f 67 = .slice none 0 0) (h2 : f 69 = .slice none 0 0) : Calls Tryz.prog 49 #[.pointer (some ⟨bb, 0, none⟩)] w fun e w' => e = .returned (.bool true) ∧ w' = w := by
  have c0 := h.cell (i := 67) (by omega)
  rw [h0] at c0
  have c2 := h.cell (i := 69) (by omega)
  rw [h2] at c2
  clear h h0 h2
  go_enter Tryz.func49, Tryz.ntmps49
  go_wp2
  go_loopw [3] (fun i wx => i = .int .i64 0 ∧ Hid (wx = w)) (fun _ _ => 0)
  case atStart => exact ⟨rfl, rfl⟩
  case round =>
    obtain ⟨rfl, HW⟩ := hrel
    obtain rfl := HW.out
    go_wp2
    go_loopw [4] (fun i wx => i = .int .i64 0 ∧ Hid (wx = wr)) (fun _ _ => 0)
    case atStart => exact ⟨rfl, rfl⟩
    case round =>
      obtain ⟨rfl, HW⟩ := hrel
      obtain rfl := HW.out
      go_wp2
      go_ret
      exact ⟨rfl, rfl⟩
set_option maxRecDepth 100000 in
set_option maxHeartbeats 1600000 in
theorem cMarkAnswerLists {w : World} {bb : Nat} {f : Nat → Value} (h : BK w bb f) (h2 : f 78 = .slice none 0 0) (h3 : f 79 = .slice none 0 0) (h5 : f 81 = .slice none 0 0) (h6 : f 82 = .slice none 0 0) : Calls Tryz.prog 147 #[.pointer (some ⟨bb, 0, none⟩)] w fun e w' => e = .returned (.tuple #[]) ∧ w' = w := by
  have c2 := h.cell (i := 78) (by omega)
  rw [h2] at c2
  have c3 := h.cell (i := 79) (by omega)
  rw [h3] at c3
  have c5 := h.cell (i := 81) (by omega)
  rw [h5] at c5
  have c6 := h.cell (i := 82) (by omega)
  rw [h6] at c6
  clear h h2 h3 h5 h6
  go_enter Tryz.func147, Tryz.ntmps147
  go_wp2
  refine bodyPost_ret (results_none rfl _ _ _) rfl ⟨rfl, rfl⟩
set_option maxRecDepth 100000 in
set_option maxHeartbeats 1600000 in
theorem cGrowAnswerLists {w : World} {bb : Nat} {f : Nat → Value} (h : BK w bb f) (h4 : f 80 = .slice none 0 0) (h7 : f 83 = .slice none 0 0) : Calls Tryz.prog 158 #[.pointer (some ⟨bb, 0, none⟩)] w fun e w' => e = .returned (.tuple #[]) ∧ w' = ((w.setCell ⟨bb, 80, none⟩ (.slice none 0 0)).setCell ⟨bb, 83, none⟩ (.slice none 0 0)) := by
  have c4 := h.cell (i := 80) (by omega)
  rw [h4] at c4
  have c7 := h.cell (i := 83) (by omega)
  rw [h7] at c7
  have z := h.froz
  clear h h4 h7
  go_enter Tryz.func158, Tryz.ntmps158
  go_wp2
  go_loopw [2] (fun i wx => i = .int .i64 0 ∧ Hid (wx = w)) (fun _ _ => 0)
  case atStart => exact ⟨rfl, rfl⟩
  case round =>
    obtain ⟨rfl, HW⟩ := hrel
    obtain rfl := HW.out
    go_wp2
    refine bodyPost_end (results_none rfl _ _ _) rfl ⟨rfl, rfl⟩
set_option maxRecDepth 100000 in
set_option maxHeartbeats 1600000 in
theorem cHoldAnswerLists {w : World} {bb : Nat} {f : Nat → Value} (h : BK w bb f) (h0 : f 76 = .slice none 0 0) (h2 : f 78 = .slice none 0 0) : Calls Tryz.prog 50 #[.pointer (some ⟨bb, 0, none⟩)] w fun e w' => e = .returned (.bool true) ∧ w' = w := by
  have c0 := h.cell (i := 76) (by omega)
  rw [h0] at c0
  have c2 := h.cell (i := 78) (by omega)
  rw [h2] at c2
  clear h h0 h2
  go_enter Tryz.func50, Tryz.ntmps50
  go_wp2
  go_loopw [3] (fun i wx => i = .int .i64 0 ∧ Hid (wx = w)) (fun _ _ => 0)
  case atStart => exact ⟨rfl, rfl⟩
  case round =>
    obtain ⟨rfl, HW⟩ := hrel
    obtain rfl := HW.out
    go_wp2
    go_loopw [4] (fun i wx => i = .int .i64 0 ∧ Hid (wx = wr)) (fun _ _ => 0)
    case atStart => exact ⟨rfl, rfl⟩
    case round =>
      obtain ⟨rfl, HW⟩ := hrel
      obtain rfl := HW.out
      go_wp2
      go_ret
      exact ⟨rfl, rfl⟩
set_option maxRecDepth 100000 in
set_option maxHeartbeats 1600000 in
theorem cMarkCalls {w : World} {bb : Nat} {f : Nat → Value} (h : BK w bb f) (h2 : f 87 = .slice none 0 0) (h3 : f 88 = .slice none 0 0) (h5 : f 90 = .slice none 0 0) (h6 : f 91 = .slice none 0 0) : Calls Tryz.prog 148 #[.pointer (some ⟨bb, 0, none⟩)] w fun e w' => e = .returned (.tuple #[]) ∧ w' = w := by
  have c2 := h.cell (i := 87) (by omega)
  rw [h2] at c2
  have c3 := h.cell (i := 88) (by omega)
  rw [h3] at c3
  have c5 := h.cell (i := 90) (by omega)
  rw [h5] at c5
  have c6 := h.cell (i := 91) (by omega)
  rw [h6] at c6
  clear h h2 h3 h5 h6
  go_enter Tryz.func148, Tryz.ntmps148
  go_wp2
  refine bodyPost_ret (results_none rfl _ _ _) rfl ⟨rfl, rfl⟩
set_option maxRecDepth 100000 in
set_option maxHeartbeats 1600000 in
theorem cGrowCalls {w : World} {bb : Nat} {f : Nat → Value} (h : BK w bb f) (h4 : f 89 = .slice none 0 0) (h7 : f 92 = .slice none 0 0) : Calls Tryz.prog 159 #[.pointer (some ⟨bb, 0, none⟩)] w fun e w' => e = .returned (.tuple #[]) ∧ w' = ((w.setCell ⟨bb, 89, none⟩ (.slice none 0 0)).setCell ⟨bb, 92, none⟩ (.slice none 0 0)) := by
  have c4 := h.cell (i := 89) (by omega)
  rw [h4] at c4
  have c7 := h.cell (i := 92) (by omega)
  rw [h7] at c7
  have z := h.froz
  clear h h4 h7
  go_enter Tryz.func159, Tryz.ntmps159
  go_wp2
  go_loopw [2] (fun i wx => i = .int .i64 0 ∧ Hid (wx = w)) (fun _ _ => 0)
  case atStart => exact ⟨rfl, rfl⟩
  case round =>
    obtain ⟨rfl, HW⟩ := hrel
    obtain rfl := HW.out
    go_wp2
    refine bodyPost_end (results_none rfl _ _ _) rfl ⟨rfl, rfl⟩
set_option maxRecDepth 100000 in
set_option maxHeartbeats 1600000 in
theorem cHoldCalls {w : World} {bb : Nat} {f : Nat → Value} (h : BK w bb f) (h0 : f 85 = .slice none 0 0) (h2 : f 87 = .slice none 0 0) : Calls Tryz.prog 51 #[.pointer (some ⟨bb, 0, none⟩)] w fun e w' => e = .returned (.bool true) ∧ w' = w := by
  have c0 := h.cell (i := 85) (by omega)
  rw [h0] at c0
  have c2 := h.cell (i := 87) (by omega)
  rw [h2] at c2
  clear h h0 h2
  go_enter Tryz.func51, Tryz.ntmps51
  go_wp2
  go_loopw [3] (fun i wx => i = .int .i64 0 ∧ Hid (wx = w)) (fun _ _ => 0)
  case atStart => exact ⟨rfl, rfl⟩
  case round =>
    obtain ⟨rfl, HW⟩ := hrel
    obtain rfl := HW.out
    go_wp2
    go_loopw [4] (fun i wx => i = .int .i64 0 ∧ Hid (wx = wr)) (fun _ _ => 0)
    case atStart => exact ⟨rfl, rfl⟩
    case round =>
      obtain ⟨rfl, HW⟩ := hrel
      obtain rfl := HW.out
      go_wp2
      go_ret
      exact ⟨rfl, rfl⟩
set_option maxRecDepth 100000 in
set_option maxHeartbeats 1600000 in
theorem cMarkCallLists {w : World} {bb : Nat} {f : Nat → Value} (h : BK w bb f) (h2 : f 96 = .slice none 0 0) (h3 : f 97 = .slice none 0 0) (h5 : f 99 = .slice none 0 0) (h6 : f 100 = .slice none 0 0) : Calls Tryz.prog 149 #[.pointer (some ⟨bb, 0, none⟩)] w fun e w' => e = .returned (.tuple #[]) ∧ w' = w := by
  have c2 := h.cell (i := 96) (by omega)
  rw [h2] at c2
  have c3 := h.cell (i := 97) (by omega)
  rw [h3] at c3
  have c5 := h.cell (i := 99) (by omega)
  rw [h5] at c5
  have c6 := h.cell (i := 100) (by omega)
  rw [h6] at c6
  clear h h2 h3 h5 h6
  go_enter Tryz.func149, Tryz.ntmps149
  go_wp2
  refine bodyPost_ret (results_none rfl _ _ _) rfl ⟨rfl, rfl⟩
set_option maxRecDepth 100000 in
set_option maxHeartbeats 1600000 in
theorem cGrowCallLists {w : World} {bb : Nat} {f : Nat → Value} (h : BK w bb f) (h4 : f 98 = .slice none 0 0) (h7 : f 101 = .slice none 0 0) : Calls Tryz.prog 160 #[.pointer (some ⟨bb, 0, none⟩)] w fun e w' => e = .returned (.tuple #[]) ∧ w' = ((w.setCell ⟨bb, 98, none⟩ (.slice none 0 0)).setCell ⟨bb, 101, none⟩ (.slice none 0 0)) := by
  have c4 := h.cell (i := 98) (by omega)
  rw [h4] at c4
  have c7 := h.cell (i := 101) (by omega)
  rw [h7] at c7
  have z := h.froz
  clear h h4 h7
  go_enter Tryz.func160, Tryz.ntmps160
  go_wp2
  go_loopw [2] (fun i wx => i = .int .i64 0 ∧ Hid (wx = w)) (fun _ _ => 0)
  case atStart => exact ⟨rfl, rfl⟩
  case round =>
    obtain ⟨rfl, HW⟩ := hrel
    obtain rfl := HW.out
    go_wp2
    refine bodyPost_end (results_none rfl _ _ _) rfl ⟨rfl, rfl⟩
set_option maxRecDepth 100000 in
set_option maxHeartbeats 1600000 in
theorem cHoldCallLists {w : World} {bb : Nat} {f : Nat → Value} (h : BK w bb f) (h0 : f 94 = .slice none 0 0) (h2 : f 96 = .slice none 0 0) : Calls Tryz.prog 52 #[.pointer (some ⟨bb, 0, none⟩)] w fun e w' => e = .returned (.bool true) ∧ w' = w := by
  have c0 := h.cell (i := 94) (by omega)
  rw [h0] at c0
  have c2 := h.cell (i := 96) (by omega)
  rw [h2] at c2
  clear h h0 h2
  go_enter Tryz.func52, Tryz.ntmps52
  go_wp2
  go_loopw [3] (fun i wx => i = .int .i64 0 ∧ Hid (wx = w)) (fun _ _ => 0)
  case atStart => exact ⟨rfl, rfl⟩
  case round =>
    obtain ⟨rfl, HW⟩ := hrel
    obtain rfl := HW.out
    go_wp2
    go_loopw [4] (fun i wx => i = .int .i64 0 ∧ Hid (wx = wr)) (fun _ _ => 0)
    case atStart => exact ⟨rfl, rfl⟩
    case round =>
      obtain ⟨rfl, HW⟩ := hrel
      obtain rfl := HW.out
      go_wp2
      go_ret
      exact ⟨rfl, rfl⟩
end Go.Proofs.YtaalohcldoakoaaGreatDoor
/- The whole book: what stands in it; what a change of one kind leaves of the others. -/
namespace Go.Proofs.YtaalohcldoakoaaGreatDoor
open Go.RowKit
/-- What is of that kind stays. -/
def Keeps (κ : Nat) (C : Own) (w : World) (C' : Own) (w' : World) : Prop := ∀ g t, C g = some (κ, t) → w'.heap[g]? = w.heap[g]? ∧ C' g = some (κ, t)
section
variable {κ bb : Nat} {C C' C2 : Own} {w w' w2 : World} {t : Tg} {v : Value} {f f' : Nat → Value} {kc : KC} {ot : List Ot} {wn : List Wt} {fr : List Fh} {xo xt xw xn xf xm xd xr : List Value}
theorem Keeps.of {k : Nat} (h : KFr k bb C w C' w') (hF : Fit C w bb) (hk : κ ≠ k) (h0 : κ ≠ 0) : Keeps κ C w C' w' := fun g t hg => by
  have hlt := hF.dom g (by rw [hg]; simp)
  obtain ⟨h1, h2⟩ := h.blk g hlt (fun e => by
    subst e
    rw [hF.bk] at hg
    injection hg with hg
    injection hg with hg _
    exact h0 hg.symm) (fun t' ht' => by
    rw [hg] at ht'
    injection ht' with ht'
    injection ht' with ht' _
    exact hk ht')
  exact ⟨h1, h2.trans hg⟩
theorem Keeps.has (h : Keeps κ C w C' w') (hh : Has C κ t v) : Has C' κ t v := fun g hg => (h g t (hh g hg)).2
theorem Keeps.row (h : Keeps κ C w C' w') {B e sz n : Nat} {xs : List Value} (hr : w.ownsRow B e sz v n xs) (hh : Has C κ t v) : w'.ownsRow B e sz v n xs := by
  obtain ⟨h1, h2⟩ := hr
  refine ⟨h1, ?_⟩
  rcases h2 with h2 | ⟨g, cap, cur, e1, e2, e3, e4⟩
  · exact .inl h2
  · refine .inr ⟨g, cap, cur, e1, e2, ?_, e4⟩
    rw [(h g t (hh g (by rw [e1]; rfl))).1]
    exact e3
theorem Keeps.rowAt {ty : TypeId} {xs : List Value} (h : Keeps κ C w C' w') (hr : RowAt C w κ t ty v xs) : RowAt C' w' κ t ty v xs := ⟨h.row hr.1 hr.2, h.has hr.2⟩
theorem Keeps.rows (k : Keeps kc.κ C w C' w') (h : KRows C w kc ot wn fr) : KRows C' w' kc ot wn fr := by
  refine ⟨fun q hq => ?_, fun q hq => ?_, fun q hq => ?_, h.ids, h.link⟩
  · obtain ⟨h1, h2, h3, h4, h5, h6⟩ := h.pO q hq
    exact ⟨k.row h1 h4, k.row h2 h5, h3, k.has h4, k.has h5, h6⟩
  · obtain ⟨h1, h2, h3, h4, h5, h6⟩ := h.pW q hq
    exact ⟨k.row h1 h4, k.row h2 h5, h3, k.has h4, k.has h5, h6⟩
  · obtain ⟨h1, h2, h3, h4⟩ := h.pF q hq
    exact ⟨k.row h1 h3, h2, k.has h3, h4⟩
theorem Keeps.out (k : Keeps kc.κ C w C' w') (h : KOut C w kc f xo xt xw xn xf xm xd xr) (hf : ∀ i, kc.b ≤ i → i < kc.b + 8 → f' i = f i) : KOut C' w' kc f' xo xt xw xn xf xm xd xr := by
  refine ⟨?_, ?_, ?_, ?_, ?_, ?_, ?_, ?_⟩
  · rw [hf _ (by omega) (by omega)]; exact k.rowAt h.rO
  · rw [hf _ (by omega) (by omega)]; exact k.rowAt h.rT
  · rw [hf _ (by omega) (by omega)]; exact k.rowAt h.rW
  · rw [hf _ (by omega) (by omega)]; exact k.rowAt h.rN
  · rw [hf _ (by omega) (by omega)]; exact k.rowAt h.rF
  · rw [hf _ (by omega) (by omega)]; exact k.rowAt h.rM
  · rw [hf _ (by omega) (by omega)]; exact k.rowAt h.rD
  · rw [hf _ (by omega) (by omega)]; exact k.rowAt h.rR
/-- What isn't the book's stays, and stays not the book's. -/
structure BFr (C : Own) (w : World) (C' : Own) (w' : World) : Prop where
  os : w'.os = w.os
  tape : w'.tape = w.tape
  output : w'.output = w.output
  size : w.heap.size ≤ w'.heap.size
  blk : ∀ g, g < w.heap.size → C g = none → w'.heap[g]? = w.heap[g]? ∧ C' g = none
theorem BFr.refl (C : Own) (w : World) : BFr C w C w := ⟨rfl, rfl, rfl, Nat.le_refl _, fun _ _ h => ⟨rfl, h⟩⟩
theorem BFr.trans (h : BFr C w C' w') (k : BFr C' w' C2 w2) : BFr C w C2 w2 :=
  ⟨k.os.trans h.os, k.tape.trans h.tape, k.output.trans h.output, Nat.le_trans h.size k.size, fun g hg hc => by
    obtain ⟨h1, h2⟩ := h.blk g hg hc
    obtain ⟨k1, k2⟩ := k.blk g (Nat.lt_of_lt_of_le hg h.size) h2
    exact ⟨k1.trans h1, k2⟩⟩
theorem BFr.of {k : Nat} (h : KFr k bb C w C' w') (hF : Fit C w bb) : BFr C w C' w' :=
  ⟨h.os, h.tape, h.output, h.size, fun g hg hc => by
    obtain ⟨h1, h2⟩ := h.blk g hg (fun e => by subst e; rw [hF.bk] at hc; cases hc) (fun t ht => by rw [hc] at ht; cases ht)
    exact ⟨h1, h2.trans hc⟩⟩
end
/-- The kinds of which nothing is kept. -/
def Nils (f : Nat → Value) : Prop := ∀ i, i < 103 → (13 ≤ i ∧ i < 31 ∨ 40 ≤ i) → (i + 5) % 9 ≠ 8 → f i = .slice none 0 0
/-- The book. a, b: nothing of the kind is marked and not laid on yet. -/
structure BSt (a b : Bool) (bb : Nat) (C : Own) (turn deep si ss : Nat) (w : World) : Prop where
  ex : ∃ f oi wi fi os ws fs, Fit C w bb ∧ BK w bb f ∧ FullInts C w f oi wi fi ∧ FullSlots C w f os ws fs ∧ f 0 = .bool false ∧ f 1 = .bool false ∧ f 2 = .int .i64 (turn : Nat) ∧ f 3 = .int .i64 (deep : Nat) ∧ f 12 = .int .i64 (si : Nat) ∧ f 39 = .int .i64 (ss : Nat) ∧ Nils f ∧ oi.length + 2 * wi.length + fi.length = 2 * si ∧ os.length + 2 * ws.length + fs.length = 2 * ss ∧ (a = true → fi = []) ∧ (b = true → fs = [])
section
variable {a b : Bool} {bb : Nat} {C : Own} {turn deep si ss : Nat} {w : World}
theorem bMarkInts (h : BSt true b bb C turn deep si ss w) (hsi : si ≤ 40000) :
    Calls Tryz.prog 139 #[.pointer (some ⟨bb, 0, none⟩)] w fun e w' => e = .returned (.tuple #[]) ∧ ∃ C', BSt false b bb C' turn deep si ss w' ∧ BFr C w C' w' := by
  obtain ⟨f, oi, wi, fi, os, ws, fs, hF, hB, hI, hS, h0, h1, h2, h3, h12, h39, hN, li, ls, ha, hb⟩ := h.ex
  obtain rfl := ha rfl
  simp only [List.length_nil] at li
  refine (cMarkInts hF hB hI (by omega) (by omega) h0 h1 h2 (fun w q p1 p2 p3 => sameInts p1 p2 (by omega))).mono ?_
  rintro e w' ⟨rfl, hM⟩
  obtain ⟨C', f', ot', wn', fr, hF', hB', hI', hK', hf', l1, l2⟩ := hM.ex
  have kp : Keeps kcSlots.κ C w C' w' := Keeps.of hK' hF (by decide) (by decide)
  have hs : FullSlots C' w' f' os ws fs := ⟨kp.out hS.1 (fun i h1 h2 => hf' i (.inr (by have : 31 ≤ i := h1; omega))), kp.rows hS.2⟩
  refine ⟨rfl, C', ⟨f', _, wn', fr, os, ws, fs, hF', hB', hI', hs, (hf' 0 (by omega)).trans h0, (hf' 1 (by omega)).trans h1, (hf' 2 (by omega)).trans h2, (hf' 3 (by omega)).trans h3, (hf' 12 (by omega)).trans h12, (hf' 39 (by omega)).trans h39, fun i hi hc hm => (hf' i (by omega)).trans (hN i hi hc hm), ?_, ls, (fun e => by cases e), hb⟩, BFr.of hK' hF⟩
  rw [List.length_append]
  omega
theorem bMarkSlots (h : BSt a true bb C turn deep si ss w) (hss : ss ≤ 40000) :
    Calls Tryz.prog 142 #[.pointer (some ⟨bb, 0, none⟩)] w fun e w' => e = .returned (.tuple #[]) ∧ ∃ C', BSt a false bb C' turn deep si ss w' ∧ BFr C w C' w' := by
  obtain ⟨f, oi, wi, fi, os, ws, fs, hF, hB, hI, hS, h0, h1, h2, h3, h12, h39, hN, li, ls, ha, hb⟩ := h.ex
  obtain rfl := hb rfl
  simp only [List.length_nil] at ls
  refine (cMarkSlots hF hB hS (by omega) (by omega) h0 h1 h2 (fun w q p1 p2 p3 => sameSlots p1 p2 (by omega))).mono ?_
  rintro e w' ⟨rfl, hM⟩
  obtain ⟨C', f', ot', wn', fr, hF', hB', hS', hK', hf', l1, l2⟩ := hM.ex
  have kp : Keeps kcInts.κ C w C' w' := Keeps.of hK' hF (by decide) (by decide)
  have hi : FullInts C' w' f' oi wi fi := ⟨kp.out hI.1 (fun i h1 h2 => hf' i (.inl (by have : i < 12 := h2; omega))), kp.rows hI.2⟩
  refine ⟨rfl, C', ⟨f', oi, wi, fi, _, wn', fr, hF', hB', hi, hS', (hf' 0 (by omega)).trans h0, (hf' 1 (by omega)).trans h1, (hf' 2 (by omega)).trans h2, (hf' 3 (by omega)).trans h3, (hf' 12 (by omega)).trans h12, (hf' 39 (by omega)).trans h39, fun i hi hc hm => (hf' i (by omega)).trans (hN i hi hc hm), li, ?_, ha, fun e => by cases e⟩, BFr.of hK' hF⟩
  rw [List.length_append]
  omega
theorem bGrowInts (h : BSt a b bb C turn deep si ss w) (hsi : si ≤ 40000) :
    Calls Tryz.prog 150 #[.pointer (some ⟨bb, 0, none⟩)] w fun e w' => e = .returned (.tuple #[]) ∧ ∃ C', BSt true b bb C' turn deep si ss w' ∧ BFr C w C' w' := by
  obtain ⟨f, oi, wi, fi, os, ws, fs, hF, hB, hI, hS, h0, h1, h2, h3, h12, h39, hN, li, ls, ha, hb⟩ := h.ex
  refine (cGrowInts hF hB hI (by omega) (by omega)).mono ?_
  rintro e w' ⟨rfl, hM⟩
  obtain ⟨C', f', gr, hF', hB', hI', hK', hf', l1⟩ := hM.ex
  have kp : Keeps kcSlots.κ C w C' w' := Keeps.of hK' hF (by decide) (by decide)
  have hs : FullSlots C' w' f' os ws fs := ⟨kp.out hS.1 (fun i h1 h2 => hf' i (.inr (by have : 31 ≤ i := h1; omega))), kp.rows hS.2⟩
  refine ⟨rfl, C', ⟨f', _, wi, [], os, ws, fs, hF', hB', hI', hs, (hf' 0 (by omega)).trans h0, (hf' 1 (by omega)).trans h1, (hf' 2 (by omega)).trans h2, (hf' 3 (by omega)).trans h3, (hf' 12 (by omega)).trans h12, (hf' 39 (by omega)).trans h39, fun i hi hc hm => (hf' i (by omega)).trans (hN i hi hc hm), ?_, ls, fun _ => rfl, hb⟩, BFr.of hK' hF⟩
  rw [List.length_append, List.length_nil]
  omega
theorem bGrowSlots (h : BSt a b bb C turn deep si ss w) (hss : ss ≤ 40000) :
    Calls Tryz.prog 153 #[.pointer (some ⟨bb, 0, none⟩)] w fun e w' => e = .returned (.tuple #[]) ∧ ∃ C', BSt a true bb C' turn deep si ss w' ∧ BFr C w C' w' := by
  obtain ⟨f, oi, wi, fi, os, ws, fs, hF, hB, hI, hS, h0, h1, h2, h3, h12, h39, hN, li, ls, ha, hb⟩ := h.ex
  refine (cGrowSlots hF hB hS (by omega) (by omega)).mono ?_
  rintro e w' ⟨rfl, hM⟩
  obtain ⟨C', f', gr, hF', hB', hS', hK', hf', l1⟩ := hM.ex
  have kp : Keeps kcInts.κ C w C' w' := Keeps.of hK' hF (by decide) (by decide)
  have hi : FullInts C' w' f' oi wi fi := ⟨kp.out hI.1 (fun i h1 h2 => hf' i (.inl (by have : i < 12 := h2; omega))), kp.rows hI.2⟩
  refine ⟨rfl, C', ⟨f', oi, wi, fi, _, ws, [], hF', hB', hi, hS', (hf' 0 (by omega)).trans h0, (hf' 1 (by omega)).trans h1, (hf' 2 (by omega)).trans h2, (hf' 3 (by omega)).trans h3, (hf' 12 (by omega)).trans h12, (hf' 39 (by omega)).trans h39, fun i hi hc hm => (hf' i (by omega)).trans (hN i hi hc hm), li, ?_, ha, fun _ => rfl⟩, BFr.of hK' hF⟩
  rw [List.length_append, List.length_nil]
  omega
/-- A cell of the book is set that is no kind's, or stays as it is. -/
theorem BSt.set_same {i : Nat} {v : Value} {f : Nat → Value} (hB : BK w bb f) (hi : i < 103) (hv : f i = v) : BK (w.setCell ⟨bb, i, none⟩ v) bb f := by
  have := hB.put hi v
  rwa [show upd f i v = f from funext fun j => by
    by_cases e : j = i
    · subst e; rw [upd_same, hv]
    · rw [upd_other _ _ e]] at this
theorem BSt.upd_ {i : Nat} {v : Value} {f f' : Nat → Value} {oi os : List Ot} {wi ws : List Wt} {fi fs : List Fh} (hF : Fit C w bb) (_hB : BK w bb f) (hI : FullInts C w f oi wi fi) (hS : FullSlots C w f os ws fs) (hf1 : ∀ j, 4 ≤ j → j < 12 → f' j = f j) (hf2 : ∀ j, 31 ≤ j → j < 39 → f' j = f j) :
    Fit C (w.setCell ⟨bb, i, none⟩ v) bb ∧ FullInts C (w.setCell ⟨bb, i, none⟩ v) f' oi wi fi ∧ FullSlots C (w.setCell ⟨bb, i, none⟩ v) f' os ws fs ∧ BFr C w C (w.setCell ⟨bb, i, none⟩ v) := by
  have ht : Turned [bb] w (w.setCell ⟨bb, i, none⟩ v) := (Turned.refl [bb] w).set (.inl (by simp)) _ _
  have hSt : Stp (fun _ => False) bb C w C (w.setCell ⟨bb, i, none⟩ v) := Stp.of ht (by intro x hx; exact .inl (by simpa using hx))
  have hK : KFr 9 bb C w C (w.setCell ⟨bb, i, none⟩ v) := KFr.of hSt (fun _ h => h.elim)
  have k1 : Keeps kcInts.κ C w C (w.setCell ⟨bb, i, none⟩ v) := Keeps.of hK hF (by decide) (by decide)
  have k2 : Keeps kcSlots.κ C w C (w.setCell ⟨bb, i, none⟩ v) := Keeps.of hK hF (by decide) (by decide)
  exact ⟨hF.of ht, ⟨k1.out hI.1 (fun j a b => hf1 j a b), k1.rows hI.2⟩, ⟨k2.out hS.1 (fun j a b => hf2 j a b), k2.rows hS.2⟩, BFr.of hK hF⟩
end
end Go.Proofs.YtaalohcldoakoaaGreatDoor
/- The whole book: marks, grows. -/
namespace Go.Proofs.YtaalohcldoakoaaGreatDoor
open Go.RowKit
section
variable {a b : Bool} {bb : Nat} {C : Own} {turn deep si ss : Nat} {w : World}
theorem bMarkTexts (h : BSt a b bb C turn deep si ss w) : Calls Tryz.prog 140 #[.pointer (some ⟨bb, 0, none⟩)] w fun e w' => e = .returned (.tuple #[]) ∧ w' = w := by
  obtain ⟨f, oi, wi, fi, os, ws, fs, hF, hB, hI, hS, h0, h1, h2, h3, h12, h39, hN, li, ls, ha, hb⟩ := h.ex
  exact cMarkTexts hB (hN 15 (by omega) (by omega) (by omega)) (hN 16 (by omega) (by omega) (by omega)) (hN 18 (by omega) (by omega) (by omega)) (hN 19 (by omega) (by omega) (by omega))
theorem bHoldTexts (h : BSt a b bb C turn deep si ss w) : Calls Tryz.prog 43 #[.pointer (some ⟨bb, 0, none⟩)] w fun e w' => e = .returned (.bool true) ∧ w' = w := by
  obtain ⟨f, oi, wi, fi, os, ws, fs, hF, hB, hI, hS, h0, h1, h2, h3, h12, h39, hN, li, ls, ha, hb⟩ := h.ex
  exact cHoldTexts hB (hN 13 (by omega) (by omega) (by omega)) (hN 15 (by omega) (by omega) (by omega))
theorem bGrowTexts (h : BSt a b bb C turn deep si ss w) : Calls Tryz.prog 151 #[.pointer (some ⟨bb, 0, none⟩)] w fun e w' => e = .returned (.tuple #[]) ∧ ∃ C', BSt a b bb C' turn deep si ss w' ∧ BFr C w C' w' := by
  obtain ⟨f, oi, wi, fi, os, ws, fs, hF, hB, hI, hS, h0, h1, h2, h3, h12, h39, hN, li, ls, ha, hb⟩ := h.ex
  refine (cGrowTexts hB (hN 17 (by omega) (by omega) (by omega)) (hN 20 (by omega) (by omega) (by omega))).mono ?_
  rintro e w' ⟨rfl, rfl⟩
  obtain ⟨f1, i1, s1, r1⟩ := BSt.upd_ (i := 17) (v := .slice none 0 0) (f' := f) hF hB hI hS (fun _ _ _ => rfl) (fun _ _ _ => rfl)
  have b1 := BSt.set_same hB (i := 17) (by omega) (hN 17 (by omega) (by omega) (by omega))
  obtain ⟨f2, i2, s2, r2⟩ := BSt.upd_ (i := 20) (v := .slice none 0 0) (f' := f) f1 b1 i1 s1 (fun _ _ _ => rfl) (fun _ _ _ => rfl)
  exact ⟨rfl, C, ⟨f, oi, wi, fi, os, ws, fs, f2, BSt.set_same b1 (by omega) (hN 20 (by omega) (by omega) (by omega)), i2, s2, h0, h1, h2, h3, h12, h39, hN, li, ls, ha, hb⟩, r1.trans r2⟩
theorem bMarkPairs (h : BSt a b bb C turn deep si ss w) : Calls Tryz.prog 141 #[.pointer (some ⟨bb, 0, none⟩)] w fun e w' => e = .returned (.tuple #[]) ∧ w' = w := by
  obtain ⟨f, oi, wi, fi, os, ws, fs, hF, hB, hI, hS, h0, h1, h2, h3, h12, h39, hN, li, ls, ha, hb⟩ := h.ex
  exact cMarkPairs hB (hN 24 (by omega) (by omega) (by omega)) (hN 25 (by omega) (by omega) (by omega)) (hN 27 (by omega) (by omega) (by omega)) (hN 28 (by omega) (by omega) (by omega))
theorem bHoldPairs (h : BSt a b bb C turn deep si ss w) : Calls Tryz.prog 44 #[.pointer (some ⟨bb, 0, none⟩)] w fun e w' => e = .returned (.bool true) ∧ w' = w := by
  obtain ⟨f, oi, wi, fi, os, ws, fs, hF, hB, hI, hS, h0, h1, h2, h3, h12, h39, hN, li, ls, ha, hb⟩ := h.ex
  exact cHoldPairs hB (hN 22 (by omega) (by omega) (by omega)) (hN 24 (by omega) (by omega) (by omega))
theorem bGrowPairs (h : BSt a b bb C turn deep si ss w) : Calls Tryz.prog 152 #[.pointer (some ⟨bb, 0, none⟩)] w fun e w' => e = .returned (.tuple #[]) ∧ ∃ C', BSt a b bb C' turn deep si ss w' ∧ BFr C w C' w' := by
  obtain ⟨f, oi, wi, fi, os, ws, fs, hF, hB, hI, hS, h0, h1, h2, h3, h12, h39, hN, li, ls, ha, hb⟩ := h.ex
  refine (cGrowPairs hB (hN 26 (by omega) (by omega) (by omega)) (hN 29 (by omega) (by omega) (by omega))).mono ?_
  rintro e w' ⟨rfl, rfl⟩
  obtain ⟨f1, i1, s1, r1⟩ := BSt.upd_ (i := 26) (v := .slice none 0 0) (f' := f) hF hB hI hS (fun _ _ _ => rfl) (fun _ _ _ => rfl)
  have b1 := BSt.set_same hB (i := 26) (by omega) (hN 26 (by omega) (by omega) (by omega))
  obtain ⟨f2, i2, s2, r2⟩ := BSt.upd_ (i := 29) (v := .slice none 0 0) (f' := f) f1 b1 i1 s1 (fun _ _ _ => rfl) (fun _ _ _ => rfl)
  exact ⟨rfl, C, ⟨f, oi, wi, fi, os, ws, fs, f2, BSt.set_same b1 (by omega) (hN 29 (by omega) (by omega) (by omega)), i2, s2, h0, h1, h2, h3, h12, h39, hN, li, ls, ha, hb⟩, r1.trans r2⟩
theorem bMarkChanges (h : BSt a b bb C turn deep si ss w) : Calls Tryz.prog 143 #[.pointer (some ⟨bb, 0, none⟩)] w fun e w' => e = .returned (.tuple #[]) ∧ w' = w := by
  obtain ⟨f, oi, wi, fi, os, ws, fs, hF, hB, hI, hS, h0, h1, h2, h3, h12, h39, hN, li, ls, ha, hb⟩ := h.ex
  exact cMarkChanges hB (hN 42 (by omega) (by omega) (by omega)) (hN 43 (by omega) (by omega) (by omega)) (hN 45 (by omega) (by omega) (by omega)) (hN 46 (by omega) (by omega) (by omega))
theorem bHoldChanges (h : BSt a b bb C turn deep si ss w) : Calls Tryz.prog 46 #[.pointer (some ⟨bb, 0, none⟩)] w fun e w' => e = .returned (.bool true) ∧ w' = w := by
  obtain ⟨f, oi, wi, fi, os, ws, fs, hF, hB, hI, hS, h0, h1, h2, h3, h12, h39, hN, li, ls, ha, hb⟩ := h.ex
  exact cHoldChanges hB (hN 40 (by omega) (by omega) (by omega)) (hN 42 (by omega) (by omega) (by omega))
theorem bGrowChanges (h : BSt a b bb C turn deep si ss w) : Calls Tryz.prog 154 #[.pointer (some ⟨bb, 0, none⟩)] w fun e w' => e = .returned (.tuple #[]) ∧ ∃ C', BSt a b bb C' turn deep si ss w' ∧ BFr C w C' w' := by
  obtain ⟨f, oi, wi, fi, os, ws, fs, hF, hB, hI, hS, h0, h1, h2, h3, h12, h39, hN, li, ls, ha, hb⟩ := h.ex
  refine (cGrowChanges hB (hN 44 (by omega) (by omega) (by omega)) (hN 47 (by omega) (by omega) (by omega))).mono ?_
  rintro e w' ⟨rfl, rfl⟩
  obtain ⟨f1, i1, s1, r1⟩ := BSt.upd_ (i := 44) (v := .slice none 0 0) (f' := f) hF hB hI hS (fun _ _ _ => rfl) (fun _ _ _ => rfl)
  have b1 := BSt.set_same hB (i := 44) (by omega) (hN 44 (by omega) (by omega) (by omega))
  obtain ⟨f2, i2, s2, r2⟩ := BSt.upd_ (i := 47) (v := .slice none 0 0) (f' := f) f1 b1 i1 s1 (fun _ _ _ => rfl) (fun _ _ _ => rfl)
  exact ⟨rfl, C, ⟨f, oi, wi, fi, os, ws, fs, f2, BSt.set_same b1 (by omega) (hN 47 (by omega) (by omega) (by omega)), i2, s2, h0, h1, h2, h3, h12, h39, hN, li, ls, ha, hb⟩, r1.trans r2⟩
theorem bMarkOpens (h : BSt a b bb C turn deep si ss w) : Calls Tryz.prog 144 #[.pointer (some ⟨bb, 0, none⟩)] w fun e w' => e = .returned (.tuple #[]) ∧ w' = w := by
  obtain ⟨f, oi, wi, fi, os, ws, fs, hF, hB, hI, hS, h0, h1, h2, h3, h12, h39, hN, li, ls, ha, hb⟩ := h.ex
  exact cMarkOpens hB (hN 51 (by omega) (by omega) (by omega)) (hN 52 (by omega) (by omega) (by omega)) (hN 54 (by omega) (by omega) (by omega)) (hN 55 (by omega) (by omega) (by omega))
theorem bHoldOpens (h : BSt a b bb C turn deep si ss w) : Calls Tryz.prog 47 #[.pointer (some ⟨bb, 0, none⟩)] w fun e w' => e = .returned (.bool true) ∧ w' = w := by
  obtain ⟨f, oi, wi, fi, os, ws, fs, hF, hB, hI, hS, h0, h1, h2, h3, h12, h39, hN, li, ls, ha, hb⟩ := h.ex
  exact cHoldOpens hB (hN 49 (by omega) (by omega) (by omega)) (hN 51 (by omega) (by omega) (by omega))
theorem bGrowOpens (h : BSt a b bb C turn deep si ss w) : Calls Tryz.prog 155 #[.pointer (some ⟨bb, 0, none⟩)] w fun e w' => e = .returned (.tuple #[]) ∧ ∃ C', BSt a b bb C' turn deep si ss w' ∧ BFr C w C' w' := by
  obtain ⟨f, oi, wi, fi, os, ws, fs, hF, hB, hI, hS, h0, h1, h2, h3, h12, h39, hN, li, ls, ha, hb⟩ := h.ex
  refine (cGrowOpens hB (hN 53 (by omega) (by omega) (by omega)) (hN 56 (by omega) (by omega) (by omega))).mono ?_
  rintro e w' ⟨rfl, rfl⟩
  obtain ⟨f1, i1, s1, r1⟩ := BSt.upd_ (i := 53) (v := .slice none 0 0) (f' := f) hF hB hI hS (fun _ _ _ => rfl) (fun _ _ _ => rfl)
  have b1 := BSt.set_same hB (i := 53) (by omega) (hN 53 (by omega) (by omega) (by omega))
  obtain ⟨f2, i2, s2, r2⟩ := BSt.upd_ (i := 56) (v := .slice none 0 0) (f' := f) f1 b1 i1 s1 (fun _ _ _ => rfl) (fun _ _ _ => rfl)
  exact ⟨rfl, C, ⟨f, oi, wi, fi, os, ws, fs, f2, BSt.set_same b1 (by omega) (hN 56 (by omega) (by omega) (by omega)), i2, s2, h0, h1, h2, h3, h12, h39, hN, li, ls, ha, hb⟩, r1.trans r2⟩
theorem bMarkLists (h : BSt a b bb C turn deep si ss w) : Calls Tryz.prog 145 #[.pointer (some ⟨bb, 0, none⟩)] w fun e w' => e = .returned (.tuple #[]) ∧ w' = w := by
  obtain ⟨f, oi, wi, fi, os, ws, fs, hF, hB, hI, hS, h0, h1, h2, h3, h12, h39, hN, li, ls, ha, hb⟩ := h.ex
  exact cMarkLists hB (hN 60 (by omega) (by omega) (by omega)) (hN 61 (by omega) (by omega) (by omega)) (hN 63 (by omega) (by omega) (by omega)) (hN 64 (by omega) (by omega) (by omega))
theorem bHoldLists (h : BSt a b bb C turn deep si ss w) : Calls Tryz.prog 48 #[.pointer (some ⟨bb, 0, none⟩)] w fun e w' => e = .returned (.bool true) ∧ w' = w := by
  obtain ⟨f, oi, wi, fi, os, ws, fs, hF, hB, hI, hS, h0, h1, h2, h3, h12, h39, hN, li, ls, ha, hb⟩ := h.ex
  exact cHoldLists hB (hN 58 (by omega) (by omega) (by omega)) (hN 60 (by omega) (by omega) (by omega))
theorem bGrowLists (h : BSt a b bb C turn deep si ss w) : Calls Tryz.prog 156 #[.pointer (some ⟨bb, 0, none⟩)] w fun e w' => e = .returned (.tuple #[]) ∧ ∃ C', BSt a b bb C' turn deep si ss w' ∧ BFr C w C' w' := by
  obtain ⟨f, oi, wi, fi, os, ws, fs, hF, hB, hI, hS, h0, h1, h2, h3, h12, h39, hN, li, ls, ha, hb⟩ := h.ex
  refine (cGrowLists hB (hN 62 (by omega) (by omega) (by omega)) (hN 65 (by omega) (by omega) (by omega))).mono ?_
  rintro e w' ⟨rfl, rfl⟩
  obtain ⟨f1, i1, s1, r1⟩ := BSt.upd_ (i := 62) (v := .slice none 0 0) (f' := f) hF hB hI hS (fun _ _ _ => rfl) (fun _ _ _ => rfl)
  have b1 := BSt.set_same hB (i := 62) (by omega) (hN 62 (by omega) (by omega) (by omega))
  obtain ⟨f2, i2, s2, r2⟩ := BSt.upd_ (i := 65) (v := .slice none 0 0) (f' := f) f1 b1 i1 s1 (fun _ _ _ => rfl) (fun _ _ _ => rfl)
  exact ⟨rfl, C, ⟨f, oi, wi, fi, os, ws, fs, f2, BSt.set_same b1 (by omega) (hN 65 (by omega) (by omega) (by omega)), i2, s2, h0, h1, h2, h3, h12, h39, hN, li, ls, ha, hb⟩, r1.trans r2⟩
theorem bMarkAnswers (h : BSt a b bb C turn deep si ss w) : Calls Tryz.prog 146 #[.pointer (some ⟨bb, 0, none⟩)] w fun e w' => e = .returned (.tuple #[]) ∧ w' = w := by
  obtain ⟨f, oi, wi, fi, os, ws, fs, hF, hB, hI, hS, h0, h1, h2, h3, h12, h39, hN, li, ls, ha, hb⟩ := h.ex
  exact cMarkAnswers hB (hN 69 (by omega) (by omega) (by omega)) (hN 70 (by omega) (by omega) (by omega)) (hN 72 (by omega) (by omega) (by omega)) (hN 73 (by omega) (by omega) (by omega))
theorem bHoldAnswers (h : BSt a b bb C turn deep si ss w) : Calls Tryz.prog 49 #[.pointer (some ⟨bb, 0, none⟩)] w fun e w' => e = .returned (.bool true) ∧ w' = w := by
  obtain ⟨f, oi, wi, fi, os, ws, fs, hF, hB, hI, hS, h0, h1, h2, h3, h12, h39, hN, li, ls, ha, hb⟩ := h.ex
  exact cHoldAnswers hB (hN 67 (by omega) (by omega) (by omega)) (hN 69 (by omega) (by omega) (by omega))
theorem bGrowAnswers (h : BSt a b bb C turn deep si ss w) : Calls Tryz.prog 157 #[.pointer (some ⟨bb, 0, none⟩)] w fun e w' => e = .returned (.tuple #[]) ∧ ∃ C', BSt a b bb C' turn deep si ss w' ∧ BFr C w C' w' := by
  obtain ⟨f, oi, wi, fi, os, ws, fs, hF, hB, hI, hS, h0, h1, h2, h3, h12, h39, hN, li, ls, ha, hb⟩ := h.ex
  refine (cGrowAnswers hB (hN 71 (by omega) (by omega) (by omega)) (hN 74 (by omega) (by omega) (by omega))).mono ?_
  rintro e w' ⟨rfl, rfl⟩
  obtain ⟨f1, i1, s1, r1⟩ := BSt.upd_ (i := 71) (v := .slice none 0 0) (f' := f) hF hB hI hS (fun _ _ _ => rfl) (fun _ _ _ => rfl)
  have b1 := BSt.set_same hB (i := 71) (by omega) (hN 71 (by omega) (by omega) (by omega))
  obtain ⟨f2, i2, s2, r2⟩ := BSt.upd_ (i := 74) (v := .slice none 0 0) (f' := f) f1 b1 i1 s1 (fun _ _ _ => rfl) (fun _ _ _ => rfl)
  exact ⟨rfl, C, ⟨f, oi, wi, fi, os, ws, fs, f2, BSt.set_same b1 (by omega) (hN 74 (by omega) (by omega) (by omega)), i2, s2, h0, h1, h2, h3, h12, h39, hN, li, ls, ha, hb⟩, r1.trans r2⟩
theorem bMarkAnswerLists (h : BSt a b bb C turn deep si ss w) : Calls Tryz.prog 147 #[.pointer (some ⟨bb, 0, none⟩)] w fun e w' => e = .returned (.tuple #[]) ∧ w' = w := by
  obtain ⟨f, oi, wi, fi, os, ws, fs, hF, hB, hI, hS, h0, h1, h2, h3, h12, h39, hN, li, ls, ha, hb⟩ := h.ex
  exact cMarkAnswerLists hB (hN 78 (by omega) (by omega) (by omega)) (hN 79 (by omega) (by omega) (by omega)) (hN 81 (by omega) (by omega) (by omega)) (hN 82 (by omega) (by omega) (by omega))
theorem bHoldAnswerLists (h : BSt a b bb C turn deep si ss w) : Calls Tryz.prog 50 #[.pointer (some ⟨bb, 0, none⟩)] w fun e w' => e = .returned (.bool true) ∧ w' = w := by
  obtain ⟨f, oi, wi, fi, os, ws, fs, hF, hB, hI, hS, h0, h1, h2, h3, h12, h39, hN, li, ls, ha, hb⟩ := h.ex
  exact cHoldAnswerLists hB (hN 76 (by omega) (by omega) (by omega)) (hN 78 (by omega) (by omega) (by omega))
theorem bGrowAnswerLists (h : BSt a b bb C turn deep si ss w) : Calls Tryz.prog 158 #[.pointer (some ⟨bb, 0, none⟩)] w fun e w' => e = .returned (.tuple #[]) ∧ ∃ C', BSt a b bb C' turn deep si ss w' ∧ BFr C w C' w' := by
  obtain ⟨f, oi, wi, fi, os, ws, fs, hF, hB, hI, hS, h0, h1, h2, h3, h12, h39, hN, li, ls, ha, hb⟩ := h.ex
  refine (cGrowAnswerLists hB (hN 80 (by omega) (by omega) (by omega)) (hN 83 (by omega) (by omega) (by omega))).mono ?_
  rintro e w' ⟨rfl, rfl⟩
  obtain ⟨f1, i1, s1, r1⟩ := BSt.upd_ (i := 80) (v := .slice none 0 0) (f' := f) hF hB hI hS (fun _ _ _ => rfl) (fun _ _ _ => rfl)
  have b1 := BSt.set_same hB (i := 80) (by omega) (hN 80 (by omega) (by omega) (by omega))
  obtain ⟨f2, i2, s2, r2⟩ := BSt.upd_ (i := 83) (v := .slice none 0 0) (f' := f) f1 b1 i1 s1 (fun _ _ _ => rfl) (fun _ _ _ => rfl)
  exact ⟨rfl, C, ⟨f, oi, wi, fi, os, ws, fs, f2, BSt.set_same b1 (by omega) (hN 83 (by omega) (by omega) (by omega)), i2, s2, h0, h1, h2, h3, h12, h39, hN, li, ls, ha, hb⟩, r1.trans r2⟩
theorem bMarkCalls (h : BSt a b bb C turn deep si ss w) : Calls Tryz.prog 148 #[.pointer (some ⟨bb, 0, none⟩)] w fun e w' => e = .returned (.tuple #[]) ∧ w' = w := by
  obtain ⟨f, oi, wi, fi, os, ws, fs, hF, hB, hI, hS, h0, h1, h2, h3, h12, h39, hN, li, ls, ha, hb⟩ := h.ex
  exact cMarkCalls hB (hN 87 (by omega) (by omega) (by omega)) (hN 88 (by omega) (by omega) (by omega)) (hN 90 (by omega) (by omega) (by omega)) (hN 91 (by omega) (by omega) (by omega))
theorem bHoldCalls (h : BSt a b bb C turn deep si ss w) : Calls Tryz.prog 51 #[.pointer (some ⟨bb, 0, none⟩)] w fun e w' => e = .returned (.bool true) ∧ w' = w := by
  obtain ⟨f, oi, wi, fi, os, ws, fs, hF, hB, hI, hS, h0, h1, h2, h3, h12, h39, hN, li, ls, ha, hb⟩ := h.ex
  exact cHoldCalls hB (hN 85 (by omega) (by omega) (by omega)) (hN 87 (by omega) (by omega) (by omega))
theorem bGrowCalls (h : BSt a b bb C turn deep si ss w) : Calls Tryz.prog 159 #[.pointer (some ⟨bb, 0, none⟩)] w fun e w' => e = .returned (.tuple #[]) ∧ ∃ C', BSt a b bb C' turn deep si ss w' ∧ BFr C w C' w' := by
  obtain ⟨f, oi, wi, fi, os, ws, fs, hF, hB, hI, hS, h0, h1, h2, h3, h12, h39, hN, li, ls, ha, hb⟩ := h.ex
  refine (cGrowCalls hB (hN 89 (by omega) (by omega) (by omega)) (hN 92 (by omega) (by omega) (by omega))).mono ?_
  rintro e w' ⟨rfl, rfl⟩
  obtain ⟨f1, i1, s1, r1⟩ := BSt.upd_ (i := 89) (v := .slice none 0 0) (f' := f) hF hB hI hS (fun _ _ _ => rfl) (fun _ _ _ => rfl)
  have b1 := BSt.set_same hB (i := 89) (by omega) (hN 89 (by omega) (by omega) (by omega))
  obtain ⟨f2, i2, s2, r2⟩ := BSt.upd_ (i := 92) (v := .slice none 0 0) (f' := f) f1 b1 i1 s1 (fun _ _ _ => rfl) (fun _ _ _ => rfl)
  exact ⟨rfl, C, ⟨f, oi, wi, fi, os, ws, fs, f2, BSt.set_same b1 (by omega) (hN 92 (by omega) (by omega) (by omega)), i2, s2, h0, h1, h2, h3, h12, h39, hN, li, ls, ha, hb⟩, r1.trans r2⟩
theorem bMarkCallLists (h : BSt a b bb C turn deep si ss w) : Calls Tryz.prog 149 #[.pointer (some ⟨bb, 0, none⟩)] w fun e w' => e = .returned (.tuple #[]) ∧ w' = w := by
  obtain ⟨f, oi, wi, fi, os, ws, fs, hF, hB, hI, hS, h0, h1, h2, h3, h12, h39, hN, li, ls, ha, hb⟩ := h.ex
  exact cMarkCallLists hB (hN 96 (by omega) (by omega) (by omega)) (hN 97 (by omega) (by omega) (by omega)) (hN 99 (by omega) (by omega) (by omega)) (hN 100 (by omega) (by omega) (by omega))
theorem bHoldCallLists (h : BSt a b bb C turn deep si ss w) : Calls Tryz.prog 52 #[.pointer (some ⟨bb, 0, none⟩)] w fun e w' => e = .returned (.bool true) ∧ w' = w := by
  obtain ⟨f, oi, wi, fi, os, ws, fs, hF, hB, hI, hS, h0, h1, h2, h3, h12, h39, hN, li, ls, ha, hb⟩ := h.ex
  exact cHoldCallLists hB (hN 94 (by omega) (by omega) (by omega)) (hN 96 (by omega) (by omega) (by omega))
theorem bGrowCallLists (h : BSt a b bb C turn deep si ss w) : Calls Tryz.prog 160 #[.pointer (some ⟨bb, 0, none⟩)] w fun e w' => e = .returned (.tuple #[]) ∧ ∃ C', BSt a b bb C' turn deep si ss w' ∧ BFr C w C' w' := by
  obtain ⟨f, oi, wi, fi, os, ws, fs, hF, hB, hI, hS, h0, h1, h2, h3, h12, h39, hN, li, ls, ha, hb⟩ := h.ex
  refine (cGrowCallLists hB (hN 98 (by omega) (by omega) (by omega)) (hN 101 (by omega) (by omega) (by omega))).mono ?_
  rintro e w' ⟨rfl, rfl⟩
  obtain ⟨f1, i1, s1, r1⟩ := BSt.upd_ (i := 98) (v := .slice none 0 0) (f' := f) hF hB hI hS (fun _ _ _ => rfl) (fun _ _ _ => rfl)
  have b1 := BSt.set_same hB (i := 98) (by omega) (hN 98 (by omega) (by omega) (by omega))
  obtain ⟨f2, i2, s2, r2⟩ := BSt.upd_ (i := 101) (v := .slice none 0 0) (f' := f) f1 b1 i1 s1 (fun _ _ _ => rfl) (fun _ _ _ => rfl)
  exact ⟨rfl, C, ⟨f, oi, wi, fi, os, ws, fs, f2, BSt.set_same b1 (by omega) (hN 101 (by omega) (by omega) (by omega)), i2, s2, h0, h1, h2, h3, h12, h39, hN, li, ls, ha, hb⟩, r1.trans r2⟩
set_option maxRecDepth 100000 in
set_option maxHeartbeats 1600000 in
theorem bMarks (h : BSt true true bb C turn deep si ss w) (hsi : si ≤ 40000) (hss : ss ≤ 40000) : Calls Tryz.prog 130 #[.pointer (some ⟨bb, 0, none⟩)] w fun e w' => e = .returned (.tuple #[]) ∧ ∃ C', BSt false false bb C' turn deep si ss w' ∧ BFr C w C' w' := by
  have HS : Hid _ := h
  have HF : Hid _ := BFr.refl C w
  clear h
  go_enter Tryz.func130, Tryz.ntmps130
  go_wp2_with (first
    | (go_at_call 139; refine (bMarkInts HS.out hsi).mono ?_; clear HS; rintro e wx ⟨rfl, CX, HS1, HF1⟩; have HS : Hid _ := HS1; have HF2 : Hid _ := HF.out.trans HF1; clear HS1 HF1 HF; have HF := HF2; clear HF2)
    | (go_at_call 140; refine (bMarkTexts HS.out).mono ?_; rintro e wx ⟨rfl, rfl⟩)
    | (go_at_call 141; refine (bMarkPairs HS.out).mono ?_; rintro e wx ⟨rfl, rfl⟩)
    | (go_at_call 142; refine (bMarkSlots HS.out hss).mono ?_; clear HS; rintro e wx ⟨rfl, CX, HS1, HF1⟩; have HS : Hid _ := HS1; have HF2 : Hid _ := HF.out.trans HF1; clear HS1 HF1 HF; have HF := HF2; clear HF2)
    | (go_at_call 143; refine (bMarkChanges HS.out).mono ?_; rintro e wx ⟨rfl, rfl⟩)
    | (go_at_call 144; refine (bMarkOpens HS.out).mono ?_; rintro e wx ⟨rfl, rfl⟩)
    | (go_at_call 145; refine (bMarkLists HS.out).mono ?_; rintro e wx ⟨rfl, rfl⟩)
    | (go_at_call 146; refine (bMarkAnswers HS.out).mono ?_; rintro e wx ⟨rfl, rfl⟩)
    | (go_at_call 147; refine (bMarkAnswerLists HS.out).mono ?_; rintro e wx ⟨rfl, rfl⟩)
    | (go_at_call 148; refine (bMarkCalls HS.out).mono ?_; rintro e wx ⟨rfl, rfl⟩)
    | (go_at_call 149; refine (bMarkCallLists HS.out).mono ?_; rintro e wx ⟨rfl, rfl⟩))
  refine bodyPost_end (results_none rfl _ _ _) rfl ⟨rfl, _, HS.out, HF.out⟩
set_option maxRecDepth 100000 in
set_option maxHeartbeats 1600000 in
theorem bGrows (h : BSt a b bb C turn deep si ss w) (hsi : si ≤ 40000) (hss : ss ≤ 40000) : Calls Tryz.prog 131 #[.pointer (some ⟨bb, 0, none⟩)] w fun e w' => e = .returned (.tuple #[]) ∧ ∃ C', BSt true true bb C' turn deep si ss w' ∧ BFr C w C' w' := by
  have HS : Hid _ := h
  have HF : Hid _ := BFr.refl C w
  clear h
  go_enter Tryz.func131, Tryz.ntmps131
  go_wp2_with (first
    | (go_at_call 150; refine (bGrowInts HS.out hsi).mono ?_; clear HS; rintro e wx ⟨rfl, CX, HS1, HF1⟩; have HS : Hid _ := HS1; have HF2 : Hid _ := HF.out.trans HF1; clear HS1 HF1 HF; have HF := HF2; clear HF2)
    | (go_at_call 151; refine (bGrowTexts HS.out).mono ?_; clear HS; rintro e wx ⟨rfl, CX, HS1, HF1⟩; have HS : Hid _ := HS1; have HF2 : Hid _ := HF.out.trans HF1; clear HS1 HF1 HF; have HF := HF2; clear HF2)
    | (go_at_call 152; refine (bGrowPairs HS.out).mono ?_; clear HS; rintro e wx ⟨rfl, CX, HS1, HF1⟩; have HS : Hid _ := HS1; have HF2 : Hid _ := HF.out.trans HF1; clear HS1 HF1 HF; have HF := HF2; clear HF2)
    | (go_at_call 153; refine (bGrowSlots HS.out hss).mono ?_; clear HS; rintro e wx ⟨rfl, CX, HS1, HF1⟩; have HS : Hid _ := HS1; have HF2 : Hid _ := HF.out.trans HF1; clear HS1 HF1 HF; have HF := HF2; clear HF2)
    | (go_at_call 154; refine (bGrowChanges HS.out).mono ?_; clear HS; rintro e wx ⟨rfl, CX, HS1, HF1⟩; have HS : Hid _ := HS1; have HF2 : Hid _ := HF.out.trans HF1; clear HS1 HF1 HF; have HF := HF2; clear HF2)
    | (go_at_call 155; refine (bGrowOpens HS.out).mono ?_; clear HS; rintro e wx ⟨rfl, CX, HS1, HF1⟩; have HS : Hid _ := HS1; have HF2 : Hid _ := HF.out.trans HF1; clear HS1 HF1 HF; have HF := HF2; clear HF2)
    | (go_at_call 156; refine (bGrowLists HS.out).mono ?_; clear HS; rintro e wx ⟨rfl, CX, HS1, HF1⟩; have HS : Hid _ := HS1; have HF2 : Hid _ := HF.out.trans HF1; clear HS1 HF1 HF; have HF := HF2; clear HF2)
    | (go_at_call 157; refine (bGrowAnswers HS.out).mono ?_; clear HS; rintro e wx ⟨rfl, CX, HS1, HF1⟩; have HS : Hid _ := HS1; have HF2 : Hid _ := HF.out.trans HF1; clear HS1 HF1 HF; have HF := HF2; clear HF2)
    | (go_at_call 158; refine (bGrowAnswerLists HS.out).mono ?_; clear HS; rintro e wx ⟨rfl, CX, HS1, HF1⟩; have HS : Hid _ := HS1; have HF2 : Hid _ := HF.out.trans HF1; clear HS1 HF1 HF; have HF := HF2; clear HF2)
    | (go_at_call 159; refine (bGrowCalls HS.out).mono ?_; clear HS; rintro e wx ⟨rfl, CX, HS1, HF1⟩; have HS : Hid _ := HS1; have HF2 : Hid _ := HF.out.trans HF1; clear HS1 HF1 HF; have HF := HF2; clear HF2)
    | (go_at_call 160; refine (bGrowCallLists HS.out).mono ?_; clear HS; rintro e wx ⟨rfl, CX, HS1, HF1⟩; have HS : Hid _ := HS1; have HF2 : Hid _ := HF.out.trans HF1; clear HS1 HF1 HF; have HF := HF2; clear HF2))
  refine bodyPost_end (results_none rfl _ _ _) rfl ⟨rfl, _, HS.out, HF.out⟩
end
end Go.Proofs.YtaalohcldoakoaaGreatDoor
