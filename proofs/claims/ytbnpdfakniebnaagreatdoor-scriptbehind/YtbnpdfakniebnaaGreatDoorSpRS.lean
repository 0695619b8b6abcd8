/-
  The reader's methods by contract: worker, source, turns, halt. (By the verifier; no statement.)
-/
import Derived.Test.YtbnpdfakniebnaaGreatDoorSpRZ
namespace Go.Proofs.YtbnpdfakniebnaaGreatDoor
open Go.RowKit
section
variable {W0 w : World} {rb lb : Nat} {f : Bs} {r : RS} {m : RM} {mb : Nat} {s : Ln}
set_option maxRecDepth 100000 in
set_option maxHeartbeats 3200000 in
theorem cWorker (h : RL W0 w rb lb f r m mb s) (hO : r.Ok) : Calls Tryz.prog 192 #[LP rb, LP lb] w (DP W0 rb lb f (r.worker s)) := by
  have HX0 : Hid _ := h
  have hl : (m.rows.map (·.1)).length = r.work.length := by have := h.rp.eqw; rw [show r.work = _ from this]; simp
  have HE : Hid (r.worker s = ({ r with work := r.work ++ [[]] }, s.fin.atMost ((r.work.length : Int) + 1) 8)) := rfl
  have hby : ((m.rows.map (·.1)).length + [nilS].length) * 24 ≤ 140737488355328 := by
    have := hO.wrk
    rw [hl]
    simp
    omega
  have HL : Hid ((m.rows.map (·.1) ++ [nilS]).length = r.work.length + 1) := by rw [Hid, List.length_append, hl]; rfl
  clear h hl
  unfold DP
  rw [HE.out]
  clear HE
  go_enter Tryz.func192, Tryz.ntmps192
  go_wp2_with (first | (go_at_call 156; refine (cEndL HX0.out.ln.ls).mono ?_; rintro r1 w1 ⟨rfl, hL⟩; have HX1 : Hid _ := HX0.out.line hL; clear hL; obtain ⟨p0, p1, p2⟩ := HX1.out.at 6 m.vw rfl; have HX1a : Hid _ := HX1.out.still ((Turned.refl [] _).alloc (.cells #[.slice none 0 0] 77 (0, 0)))) | (at_builtin; refine wpList_apO elS enS rfl _ _ rfl rfl HX1a.out.rp.wrk rfl (blk_cells1 (x := nilS) rfl) hby HX1a.out.tu.size ?_; intro v2 w2 ho ht _; have HX2 : Hid _ := HX1a.out.rows ht (HX1a.out.rp.wrk.rowX (by decide)) (HX1a.out.rp.worker ho ht); obtain ⟨g2, c2, hv2⟩ := ho.slice; rw [HL.out] at hv2; subst hv2; clear ho ht p0 p1 p2; obtain ⟨p0, p1, p2⟩ := HX2.out.at 6 m.vw rfl; have HX3 : Hid _ := HX2.out.set 6 (.slice g2 (r.work.length + 1) c2)) | (go_at_call 206; refine (cAtMost HX3.out.ln.ls _ _).mono ?_; rintro r1 w4 ⟨rfl, hL⟩; have HX4 : Hid _ := HX3.out.line hL; clear hL))
  refine bodyPost_end (results_none rfl _ _ _) rfl ?_
  exact ⟨rfl, { m with vw := .slice g2 (r.work.length + 1) c2, rows := m.rows ++ [(nilS, [])] }, mb, HX4.out⟩
set_option maxRecDepth 100000 in
set_option maxHeartbeats 6400000 in
theorem cSource (h : RL W0 w rb lb f r m mb s) (hO : r.Ok) (hn : s.ws.length ≤ 1000000000) : Calls Tryz.prog 191 #[LP rb, LP lb] w (DP W0 rb lb f (r.addSource s)) := by
  have HX0 : Hid _ := h
  have HE : Hid (r.addSource s = ({ r with source := r.source ++ s.pairs.1 }, s.pairs.2.atMost ((r.source.length : Int) + (s.pairs.1.length : Int)) 256)) := by
    rw [Hid, RS.addSource, List.length_append, Int.natCast_add]
  have hpl : s.pairs.1.length ≤ s.ws.length := s.pairs_len
  have hby : (r.source.length + s.pairs.1.length) * 16 ≤ 140737488355328 := by
    have := hO.src
    omega
  have HP : Hid (∀ W, Turned [] w W → Calls Tryz.prog 205 #[LP lb] W fun r w' => ∃ v, r = .returned v ∧ LR 157 2 encP W w' lb f s.pairs.2 v s.pairs.1 ∧ (s.pairs.1 = [] → v = .slice none 0 0)) := fun W hW => cPairs (HX0.out.still hW).ln hn
  obtain ⟨p0, p1, p2⟩ := h.at 4 m.vs rfl
  clear h hpl hO hn
  unfold DP
  rw [HE.out]
  clear HE
  generalize s.pairs.1 = M at *
  generalize s.pairs.2 = t at *
  go_enter Tryz.func191, Tryz.ntmps191
  go_wp2
  go_region_law (first | (go_simp; go_at_call 205; refine (HP.out _ ?_).mono ?_; (focus (repeat first | exact Turned.refl _ _ | refine Turned.drew ?_ | refine Turned.alloc ?_ _)); rintro r1 z ⟨v1, rfl, hLR, -⟩; obtain ⟨ua, uc, rfl⟩ := hLR.row.slice; have HZ : Hid (RX W0 z rb lb f (rdCells r m mb) (r.rg m mb) t) := (HX0.out.still (by (repeat first | exact Turned.refl _ _ | refine Turned.drew ?_ | refine Turned.alloc ?_ _))).line hLR.ls; have HV : Hid (VW encP z (.slice ua M.length uc) M) := hLR.row.view; clear hLR p0 p1 p2; obtain ⟨p0, p1, p2⟩ := HZ.out.at 4 m.vs rfl; try go_wp2_with fail) | (refine step_apO elP enP (B := W0.heap.size) (v := m.vs) (u := .slice ua M.length uc) (R := r.source) (M := M) rfl _ _ rfl ?_ (HZ.out.rp.src.still ?_) ?_ (HV.out.still ?_) hby ?_ ?_; (focus (simp [Act.eval]; done)); (focus (repeat first | exact Turned.refl _ _ | refine Turned.drew ?_ | refine Turned.alloc ?_ _)); (focus (simp [Act.eval]; done)); (focus (repeat first | exact Turned.refl _ _ | refine Turned.drew ?_ | refine Turned.alloc ?_ _)); (focus (exact (HZ.out.still (by (repeat first | exact Turned.refl _ _ | refine Turned.drew ?_ | refine Turned.alloc ?_ _))).tu.size)); intro v2 w2 ho ht hv; obtain ⟨g2, c2, rfl⟩ := ho.slice; have HY : Hid (RX W0 w2 rb lb f (rdCells r m mb) _ t) := (HZ.out.still (by (repeat first | exact Turned.refl _ _ | refine Turned.drew ?_ | refine Turned.alloc ?_ _))).rows ht ((HZ.out.still (by (repeat first | exact Turned.refl _ _ | refine Turned.drew ?_ | refine Turned.alloc ?_ _))).rp.src.rowX (by decide)) ((HZ.out.still (by (repeat first | exact Turned.refl _ _ | refine Turned.drew ?_ | refine Turned.alloc ?_ _))).rp.source ho ht hv); clear ho ht hv p0 p1 p2; obtain ⟨p0, p1, p2⟩ := HY.out.at 4 m.vs rfl; have HYs : Hid _ := HY.out.set 4 (.slice g2 (r.source ++ M).length c2)))
  all_goals
    have hq := HYs.out
    rw [List.length_append] at hq
    have HYt : Hid _ := hq
    clear hq HYs HY p0 p1 p2
    obtain ⟨p0, p1, p2⟩ := HYt.out.at 4 (.slice g2 (r.source.length + M.length) c2) rfl
    go_wp2_with (go_at_call 206; refine (cAtMost HYt.out.ln.ls _ _).mono ?_; rintro r1 w4 ⟨rfl, hL⟩; have HX4 : Hid _ := HYt.out.line hL; clear hL)
    refine bodyPost_end (results_none rfl _ _ _) rfl ?_
    exact ⟨rfl, { m with vs := .slice g2 (r.source.length + M.length) c2 }, mb, HX4.out⟩
set_option maxRecDepth 100000 in
set_option maxHeartbeats 6400000 in
theorem cTurns (h : RL W0 w rb lb f r m mb s) (hO : r.Ok) (hn : s.ws.length ≤ 1000000000) : Calls Tryz.prog 193 #[LP rb, LP lb] w (DP W0 rb lb f (r.addTurns s)) := by
  have HX0 : Hid _ := h
  have HE : Hid (r.addTurns s = ({ r with turns := r.turns ++ s.numbers.1 }, s.numbers.2.atMost ((r.turns.length : Int) + (s.numbers.1.length : Int)) 20000)) := by
    rw [Hid, RS.addTurns, List.length_append, Int.natCast_add]
  have hpl : s.numbers.1.length ≤ s.ws.length := s.numbers_len
  have hby : (r.turns.length + s.numbers.1.length) * 8 ≤ 140737488355328 := by
    have := hO.trn
    omega
  have HP : Hid (∀ W, Turned [] w W → Calls Tryz.prog 207 #[LP lb] W fun r w' => ∃ v, r = .returned v ∧ LR 3 1 encI W w' lb f s.numbers.2 v s.numbers.1) := fun W hW => cNumbers (HX0.out.still hW).ln hn
  obtain ⟨p0, p1, p2⟩ := h.at 7 m.vt rfl
  clear h hpl hO hn
  unfold DP
  rw [HE.out]
  clear HE
  generalize s.numbers.1 = M at *
  generalize s.numbers.2 = t at *
  go_enter Tryz.func193, Tryz.ntmps193
  go_wp2
  go_region_law (first | (go_simp; go_at_call 207; refine (HP.out _ ?_).mono ?_; (focus (repeat first | exact Turned.refl _ _ | refine Turned.drew ?_ | refine Turned.alloc ?_ _)); rintro r1 z ⟨v1, rfl, hLR⟩; obtain ⟨ua, uc, rfl⟩ := hLR.row.slice; have HZ : Hid (RX W0 z rb lb f (rdCells r m mb) (r.rg m mb) t) := (HX0.out.still (by (repeat first | exact Turned.refl _ _ | refine Turned.drew ?_ | refine Turned.alloc ?_ _))).line hLR.ls; have HV : Hid (VW encI z (.slice ua M.length uc) M) := hLR.row.view; clear hLR p0 p1 p2; obtain ⟨p0, p1, p2⟩ := HZ.out.at 7 m.vt rfl; try go_wp2_with fail) | (refine step_apO elI enI (B := W0.heap.size) (v := m.vt) (u := .slice ua M.length uc) (R := r.turns) (M := M) rfl _ _ rfl ?_ (HZ.out.rp.trn.still ?_) ?_ (HV.out.still ?_) hby ?_ ?_; (focus (simp [Act.eval]; done)); (focus (repeat first | exact Turned.refl _ _ | refine Turned.drew ?_ | refine Turned.alloc ?_ _)); (focus (simp [Act.eval]; done)); (focus (repeat first | exact Turned.refl _ _ | refine Turned.drew ?_ | refine Turned.alloc ?_ _)); (focus (exact (HZ.out.still (by (repeat first | exact Turned.refl _ _ | refine Turned.drew ?_ | refine Turned.alloc ?_ _))).tu.size)); intro v2 w2 ho ht hv; obtain ⟨g2, c2, rfl⟩ := ho.slice; have HY : Hid (RX W0 w2 rb lb f (rdCells r m mb) _ t) := (HZ.out.still (by (repeat first | exact Turned.refl _ _ | refine Turned.drew ?_ | refine Turned.alloc ?_ _))).rows ht ((HZ.out.still (by (repeat first | exact Turned.refl _ _ | refine Turned.drew ?_ | refine Turned.alloc ?_ _))).rp.trn.rowX (by decide)) ((HZ.out.still (by (repeat first | exact Turned.refl _ _ | refine Turned.drew ?_ | refine Turned.alloc ?_ _))).rp.turns ho ht hv); clear ho ht hv p0 p1 p2; obtain ⟨p0, p1, p2⟩ := HY.out.at 7 m.vt rfl; have HYs : Hid _ := HY.out.set 7 (.slice g2 (r.turns ++ M).length c2)))
  all_goals
    have hq := HYs.out
    rw [List.length_append] at hq
    have HYt : Hid _ := hq
    clear hq HYs HY p0 p1 p2
    obtain ⟨p0, p1, p2⟩ := HYt.out.at 7 (.slice g2 (r.turns.length + M.length) c2) rfl
    go_wp2_with (go_at_call 206; refine (cAtMost HYt.out.ln.ls _ _).mono ?_; rintro r1 w4 ⟨rfl, hL⟩; have HX4 : Hid _ := HYt.out.line hL; clear hL)
    refine bodyPost_end (results_none rfl _ _ _) rfl ?_
    exact ⟨rfl, { m with vt := .slice g2 (r.turns.length + M.length) c2 }, mb, HX4.out⟩
set_option maxRecDepth 100000 in
set_option maxHeartbeats 6400000 in
theorem cHalts (h : RL W0 w rb lb f r m mb s) (hO : r.Ok) (hn : s.ws.length ≤ 1000000000) : Calls Tryz.prog 194 #[LP rb, LP lb] w (DP W0 rb lb f (r.addHalt s)) := by
  have HX0 : Hid _ := h
  have HE : Hid (r.addHalt s = ({ r with halt := r.halt ++ s.numbers.1 }, s.numbers.2.atMost ((r.halt.length : Int) + (s.numbers.1.length : Int)) 20000)) := by
    rw [Hid, RS.addHalt, List.length_append, Int.natCast_add]
  have hpl : s.numbers.1.length ≤ s.ws.length := s.numbers_len
  have hby : (r.halt.length + s.numbers.1.length) * 8 ≤ 140737488355328 := by
    have := hO.hlt
    omega
  have HP : Hid (∀ W, Turned [] w W → Calls Tryz.prog 207 #[LP lb] W fun r w' => ∃ v, r = .returned v ∧ LR 3 1 encI W w' lb f s.numbers.2 v s.numbers.1) := fun W hW => cNumbers (HX0.out.still hW).ln hn
  obtain ⟨p0, p1, p2⟩ := h.at 8 m.vh rfl
  clear h hpl hO hn
  unfold DP
  rw [HE.out]
  clear HE
  generalize s.numbers.1 = M at *
  generalize s.numbers.2 = t at *
  go_enter Tryz.func194, Tryz.ntmps194
  go_wp2
  go_region_law (first | (go_simp; go_at_call 207; refine (HP.out _ ?_).mono ?_; (focus (repeat first | exact Turned.refl _ _ | refine Turned.drew ?_ | refine Turned.alloc ?_ _)); rintro r1 z ⟨v1, rfl, hLR⟩; obtain ⟨ua, uc, rfl⟩ := hLR.row.slice; have HZ : Hid (RX W0 z rb lb f (rdCells r m mb) (r.rg m mb) t) := (HX0.out.still (by (repeat first | exact Turned.refl _ _ | refine Turned.drew ?_ | refine Turned.alloc ?_ _))).line hLR.ls; have HV : Hid (VW encI z (.slice ua M.length uc) M) := hLR.row.view; clear hLR p0 p1 p2; obtain ⟨p0, p1, p2⟩ := HZ.out.at 8 m.vh rfl; try go_wp2_with fail) | (refine step_apO elI enI (B := W0.heap.size) (v := m.vh) (u := .slice ua M.length uc) (R := r.halt) (M := M) rfl _ _ rfl ?_ (HZ.out.rp.hlt.still ?_) ?_ (HV.out.still ?_) hby ?_ ?_; (focus (simp [Act.eval]; done)); (focus (repeat first | exact Turned.refl _ _ | refine Turned.drew ?_ | refine Turned.alloc ?_ _)); (focus (simp [Act.eval]; done)); (focus (repeat first | exact Turned.refl _ _ | refine Turned.drew ?_ | refine Turned.alloc ?_ _)); (focus (exact (HZ.out.still (by (repeat first | exact Turned.refl _ _ | refine Turned.drew ?_ | refine Turned.alloc ?_ _))).tu.size)); intro v2 w2 ho ht hv; obtain ⟨g2, c2, rfl⟩ := ho.slice; have HY : Hid (RX W0 w2 rb lb f (rdCells r m mb) _ t) := (HZ.out.still (by (repeat first | exact Turned.refl _ _ | refine Turned.drew ?_ | refine Turned.alloc ?_ _))).rows ht ((HZ.out.still (by (repeat first | exact Turned.refl _ _ | refine Turned.drew ?_ | refine Turned.alloc ?_ _))).rp.hlt.rowX (by decide)) ((HZ.out.still (by (repeat first | exact Turned.refl _ _ | refine Turned.drew ?_ | refine Turned.alloc ?_ _))).rp.halts ho ht hv); clear ho ht hv p0 p1 p2; obtain ⟨p0, p1, p2⟩ := HY.out.at 8 m.vh rfl; have HYs : Hid _ := HY.out.set 8 (.slice g2 (r.halt ++ M).length c2)))
  all_goals
    have hq := HYs.out
    rw [List.length_append] at hq
    have HYt : Hid _ := hq
    clear hq HYs HY p0 p1 p2
    obtain ⟨p0, p1, p2⟩ := HYt.out.at 8 (.slice g2 (r.halt.length + M.length) c2) rfl
    go_wp2_with (go_at_call 206; refine (cAtMost HYt.out.ln.ls _ _).mono ?_; rintro r1 w4 ⟨rfl, hL⟩; have HX4 : Hid _ := HYt.out.line hL; clear hL)
    refine bodyPost_end (results_none rfl _ _ _) rfl ?_
    exact ⟨rfl, { m with vh := .slice g2 (r.halt.length + M.length) c2 }, mb, HX4.out⟩
end
end Go.Proofs.YtbnpdfakniebnaaGreatDoor
