/-
  The reader's methods by contract: setup, repeat, worker. (By the verifier; no statement.)
-/
import Derived.Test.YtbnpdfakniebnaaGreatDoorSpRY
namespace Go.Proofs.YtbnpdfakniebnaaGreatDoor
open Go.RowKit
section
variable {W0 w : World} {rb lb : Nat} {f : Bs} {r : RS} {m : RM} {mb : Nat} {s : Ln}
set_option maxRecDepth 100000 in
set_option maxHeartbeats 3200000 in
theorem cRepeat (h : RL W0 w rb lb f r m mb s) : Calls Tryz.prog 196 #[LP rb, LP lb] w (DP W0 rb lb f (r.rep s)) := by
  have HX0 : Hid _ := h
  have hE : Hid (r.rep s = ({ r with times := ((r.needW s).numberFrom 1 64).1, tag := 2, wants := true }, ((r.needW s).numberFrom 1 64).2.fin)) := rfl
  clear h
  unfold DP
  rw [hE.out]
  clear hE
  have hcn := cNeedW HX0.out
  generalize r.needW s = t at *
  go_enter Tryz.func196, Tryz.ntmps196
  go_wp2_with (first | (go_at_call 208; refine hcn.mono ?_; rintro r1 w1 ⟨rfl, hL⟩; have HX1 : Hid _ := hL; clear hL hcn) | (go_at_call 209; refine (cNumFrom HX1.out.ln.ls 1 64).mono ?_; rintro r1 w2 ⟨rfl, hL⟩; have HX2 : Hid _ := HX1.out.line hL; clear hL; obtain ⟨p0, p1, p2⟩ := HX2.out.at 13 (.int .i64 r.times) rfl; have HX2s : Hid _ := HX2.out.set 13 (.int .i64 (t.numberFrom 1 64).1)) | (go_at_call 156; refine (cEndL HX2s.out.ln.ls).mono ?_; rintro r1 w3 ⟨rfl, hL⟩; clear p0 p1 p2; have HX3 : Hid _ := HX2s.out.line hL; clear hL) | (go_at_call 210; refine (cInRepeat HX3.out.tabc).mono ?_; rintro r1 w4 ⟨mb2, rfl, ht, hb, hD⟩; have HX4 : Hid _ := HX3.out.deeds ht hD hb; clear ht hb hD; obtain ⟨p0, p1, p2⟩ := HX4.out.at 10 (.map (some mb)) rfl; have HX4s : Hid _ := HX4.out.set 10 (.map (some mb2)); obtain ⟨q0, q1, q2⟩ := HX4s.out.at 11 (.bool r.wants) rfl; have HX5s : Hid _ := HX4s.out.set 11 (.bool true)))
  refine bodyPost_end (results_none rfl _ _ _) rfl ?_
  exact ⟨rfl, m, mb2, HX5s.out⟩
set_option maxRecDepth 100000 in
set_option maxHeartbeats 6400000 in
theorem cSetup (h : RL W0 w rb lb f r m mb s) : Calls Tryz.prog 129 #[LP rb, LP lb] w (DP W0 rb lb f (r.setup s)) := by
  have HX0 : Hid _ := h
  have hE : Hid (r.setup s = ({ r with parts := s.number.1, workers := (s.number.2.named wWorkers).1, slots := ((s.number.2.named wWorkers).2.named wSlots).1, leases := (((s.number.2.named wWorkers).2.named wSlots).2.named wLeases).1, fails := (if (((s.number.2.named wWorkers).2.named wSlots).2.named wLeases).2.more then (((s.number.2.named wWorkers).2.named wSlots).2.named wLeases).2.named wFails else (r.fails, (((s.number.2.named wWorkers).2.named wSlots).2.named wLeases).2)).1, tag := 1, wants := false }, (if (((s.number.2.named wWorkers).2.named wSlots).2.named wLeases).2.more then (((s.number.2.named wWorkers).2.named wSlots).2.named wLeases).2.named wFails else (r.fails, (((s.number.2.named wWorkers).2.named wSlots).2.named wLeases).2)).2.fin)) := rfl
  clear h
  unfold DP
  rw [hE.out]
  clear hE
  have hn := @cNumber w w lb f s HX0.out.ln.ls
  generalize s.number.1 = a1 at *
  generalize s.number.2 = s1 at *
  have hn2 := fun W (hh : LnAt W lb f s1) => @cNamed W W lb f s1 hh.ls wWorkers
  generalize (s1.named wWorkers).1 = a2 at *
  generalize (s1.named wWorkers).2 = s2 at *
  have hn3 := fun W (hh : LnAt W lb f s2) => @cNamed W W lb f s2 hh.ls wSlots
  generalize (s2.named wSlots).1 = a3 at *
  generalize (s2.named wSlots).2 = s3 at *
  have hn4 := fun W (hh : LnAt W lb f s3) => @cNamed W W lb f s3 hh.ls wLeases
  generalize (s3.named wLeases).1 = a4 at *
  generalize (s3.named wLeases).2 = s4 at *
  have H2 : Hid _ := hn2
  have H3 : Hid _ := hn3
  have H4 : Hid _ := hn4
  clear hn2 hn3 hn4
  cases hm : s4.more with
  | false =>
    simp only [Bool.false_eq_true, if_false]
    go_enter Tryz.func129, Tryz.ntmps129
    go_wp2_with (first | (go_at_call 153; refine hn.mono ?_; rintro r1 w1 ⟨rfl, hL⟩; clear hn; have HX1 : Hid _ := HX0.out.line hL; clear hL; obtain ⟨p0, p1, p2⟩ := HX1.out.at 0 (.int .i64 r.parts) rfl; have HX1s : Hid _ := HX1.out.set 0 (.int .i64 a1)) | (go_at_call 154; refine (H2.out _ HX1s.out.ln).mono ?_; rintro r1 w2 ⟨rfl, hL⟩; clear H2 p0 p1 p2; have HX2 : Hid _ := HX1s.out.line hL; clear hL; obtain ⟨p0, p1, p2⟩ := HX2.out.at 1 (.int .i64 r.workers) rfl; have HX2s : Hid _ := HX2.out.set 1 (.int .i64 a2)) | (go_at_call 154; refine (H3.out _ HX2s.out.ln).mono ?_; rintro r1 w3 ⟨rfl, hL⟩; clear H3 p0 p1 p2; have HX3 : Hid _ := HX2s.out.line hL; clear hL; obtain ⟨p0, p1, p2⟩ := HX3.out.at 2 (.int .i64 r.slots) rfl; have HX3s : Hid _ := HX3.out.set 2 (.int .i64 a3)) | (go_at_call 154; refine (H4.out _ HX3s.out.ln).mono ?_; rintro r1 w4 ⟨rfl, hL⟩; clear H4 p0 p1 p2; have HX4 : Hid _ := HX3s.out.line hL; clear hL; obtain ⟨p0, p1, p2⟩ := HX4.out.at 3 (.int .i64 r.leases) rfl; have HX4s : Hid _ := HX4.out.set 3 (.int .i64 a4)) | (go_at_call 155; refine (cMore HX4s.out.ln).mono ?_; rintro r1 w5 ⟨rfl, rfl⟩; rw [hm]) | (go_at_call 156; refine (cEndL HX4s.out.ln.ls).mono ?_; rintro r1 w6 ⟨rfl, hL⟩; clear p0 p1 p2; have HX6 : Hid _ := HX4s.out.line hL; clear hL) | (go_at_call 157; refine (cFurther HX6.out.tabc).mono ?_; rintro r1 w7 ⟨mb2, rfl, ht, hb, hD⟩; have HX7 : Hid _ := HX6.out.deeds ht hD hb; clear ht hb hD; obtain ⟨p0, p1, p2⟩ := HX7.out.at 10 (.map (some mb)) rfl; have HX7s : Hid _ := HX7.out.set 10 (.map (some mb2)); obtain ⟨q0, q1, q2⟩ := HX7s.out.at 11 (.bool r.wants) rfl; have HX8s : Hid _ := HX7s.out.set 11 (.bool false)))
    refine bodyPost_end (results_none rfl _ _ _) rfl ?_
    exact ⟨rfl, m, mb2, HX8s.out⟩
  | true =>
    simp only [if_true]
    have hn5 := fun W (hh : LnAt W lb f s4) => @cNamed W W lb f s4 hh.ls wFails
    generalize (s4.named wFails).1 = a5 at *
    generalize (s4.named wFails).2 = s5 at *
    have H5 : Hid _ := hn5
    clear hn5
    go_enter Tryz.func129, Tryz.ntmps129
    go_wp2_with (first | (go_at_call 153; refine hn.mono ?_; rintro r1 w1 ⟨rfl, hL⟩; clear hn; have HX1 : Hid _ := HX0.out.line hL; clear hL; obtain ⟨p0, p1, p2⟩ := HX1.out.at 0 (.int .i64 r.parts) rfl; have HX1s : Hid _ := HX1.out.set 0 (.int .i64 a1)) | (go_at_call 154; refine (H2.out _ HX1s.out.ln).mono ?_; rintro r1 w2 ⟨rfl, hL⟩; clear H2 p0 p1 p2; have HX2 : Hid _ := HX1s.out.line hL; clear hL; obtain ⟨p0, p1, p2⟩ := HX2.out.at 1 (.int .i64 r.workers) rfl; have HX2s : Hid _ := HX2.out.set 1 (.int .i64 a2)) | (go_at_call 154; refine (H3.out _ HX2s.out.ln).mono ?_; rintro r1 w3 ⟨rfl, hL⟩; clear H3 p0 p1 p2; have HX3 : Hid _ := HX2s.out.line hL; clear hL; obtain ⟨p0, p1, p2⟩ := HX3.out.at 2 (.int .i64 r.slots) rfl; have HX3s : Hid _ := HX3.out.set 2 (.int .i64 a3)) | (go_at_call 154; refine (H4.out _ HX3s.out.ln).mono ?_; rintro r1 w4 ⟨rfl, hL⟩; clear H4 p0 p1 p2; have HX4 : Hid _ := HX3s.out.line hL; clear hL; obtain ⟨p0, p1, p2⟩ := HX4.out.at 3 (.int .i64 r.leases) rfl; have HX4s : Hid _ := HX4.out.set 3 (.int .i64 a4)) | (go_at_call 155; refine (cMore HX4s.out.ln).mono ?_; rintro r1 w5 ⟨rfl, rfl⟩; rw [hm]) | (go_at_call 154; refine (H5.out _ HX4s.out.ln).mono ?_; rintro r1 w6 ⟨rfl, hL⟩; clear H5 p0 p1 p2; have HX5 : Hid _ := HX4s.out.line hL; clear hL; obtain ⟨p0, p1, p2⟩ := HX5.out.at 5 (.int .i64 r.fails) rfl; have HX5s : Hid _ := HX5.out.set 5 (.int .i64 a5)) | (go_at_call 156; refine (cEndL HX5s.out.ln.ls).mono ?_; rintro r1 w6 ⟨rfl, hL⟩; clear p0 p1 p2; have HX6 : Hid _ := HX5s.out.line hL; clear hL) | (go_at_call 157; refine (cFurther HX6.out.tabc).mono ?_; rintro r1 w7 ⟨mb2, rfl, ht, hb, hD⟩; have HX7 : Hid _ := HX6.out.deeds ht hD hb; clear ht hb hD; obtain ⟨p0, p1, p2⟩ := HX7.out.at 10 (.map (some mb)) rfl; have HX7s : Hid _ := HX7.out.set 10 (.map (some mb2)); obtain ⟨q0, q1, q2⟩ := HX7s.out.at 11 (.bool r.wants) rfl; have HX8s : Hid _ := HX7s.out.set 11 (.bool false)))
    refine bodyPost_end (results_none rfl _ _ _) rfl ?_
    exact ⟨rfl, m, mb2, HX8s.out⟩
end
end Go.Proofs.YtbnpdfakniebnaaGreatDoor
