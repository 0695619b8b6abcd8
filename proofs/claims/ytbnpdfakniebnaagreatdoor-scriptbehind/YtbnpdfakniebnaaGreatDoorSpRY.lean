/-
  The reader's methods by contract: needWorker, calls, until, setup, repeat. (By the verifier; no statement.)
-/
import Derived.Test.YtbnpdfakniebnaaGreatDoorSpRX
namespace Go.Proofs.YtbnpdfakniebnaaGreatDoor
open Go.RowKit
section
variable {W0 w : World} {rb lb : Nat} {f : Bs} {r : RS} {m : RM} {mb : Nat} {s : Ln}
/-- What a line's deed leaves. -/
def DP (W0 : World) (rb lb : Nat) (f : Bs) (x : RS × Ln) (q : Ending) (w' : World) : Prop := q = .returned (.tuple #[]) ∧ ∃ m' mb', RL W0 w' rb lb f x.1 m' mb' x.2
set_option maxRecDepth 100000 in
set_option maxHeartbeats 3200000 in
theorem cUntil (h : RL W0 w rb lb f r m mb s) : Calls Tryz.prog 195 #[LP rb, LP lb] w (DP W0 rb lb f (r.untilL s)) := by
  have HX0 : Hid _ := h
  obtain ⟨p0, p1, p2⟩ := h.at 12 (.bool r.stood) rfl
  cases hst : r.stood with
  | true =>
    have hE : Hid (r.untilL s = ({ r with stood := true, til := (s.fault 220).number.1 }, (s.fault 220).number.2.fin)) := by
      rw [Hid]; unfold RS.untilL; rw [hst]; rfl
    rw [hst] at p1
    have hf := @cFaultS w w lb f s h.ln.ls 220
    clear h
    unfold DP
    rw [hE.out]
    go_enter Tryz.func195, Tryz.ntmps195
    go_wp2_with (first | (go_at_call 189; refine hf.mono ?_; rintro r1 w1 ⟨rfl, hL⟩; clear hf p0 p1 p2; have HX1 : Hid _ := HX0.out.line hL; clear hL; obtain ⟨p0, p1, p2⟩ := HX1.out.at 12 (.bool r.stood) rfl; have HX1s : Hid _ := HX1.out.set 12 (.bool true)) | (go_at_call 153; refine (cNumber HX1s.out.ln.ls).mono ?_; rintro r1 w2 ⟨rfl, hL⟩; clear p0 p1 p2; have HX2 : Hid _ := HX1s.out.line hL; clear hL; obtain ⟨p0, p1, p2⟩ := HX2.out.at 9 (.int .i64 r.til) rfl; have HX2s : Hid _ := HX2.out.set 9 (.int .i64 (s.fault 220).number.1)) | (go_at_call 156; refine (cEndL HX2s.out.ln.ls).mono ?_; rintro r1 w3 ⟨rfl, hL⟩; have HX3 : Hid _ := HX2s.out.line hL; clear hL))
    refine bodyPost_end (results_none rfl _ _ _) rfl ?_
    exact ⟨rfl, m, mb, HX3.out⟩
  | false =>
    have hE : Hid (r.untilL s = ({ r with stood := true, til := s.number.1 }, s.number.2.fin)) := by
      rw [Hid]; unfold RS.untilL; rw [hst]; rfl
    rw [hst] at p1
    clear h
    have HX1s : Hid _ := HX0.out.set 12 (.bool true)
    unfold DP
    rw [hE.out]
    go_enter Tryz.func195, Tryz.ntmps195
    go_wp2_with (first | (go_at_call 153; refine (cNumber HX1s.out.ln.ls).mono ?_; rintro r1 w2 ⟨rfl, hL⟩; clear p0 p1 p2; have HX2 : Hid _ := HX1s.out.line hL; clear hL; obtain ⟨p0, p1, p2⟩ := HX2.out.at 9 (.int .i64 r.til) rfl; have HX2s : Hid _ := HX2.out.set 9 (.int .i64 s.number.1)) | (go_at_call 156; refine (cEndL HX2s.out.ln.ls).mono ?_; rintro r1 w3 ⟨rfl, hL⟩; have HX3 : Hid _ := HX2s.out.line hL; clear hL))
    refine bodyPost_end (results_none rfl _ _ _) rfl ?_
    exact ⟨rfl, m, mb, HX3.out⟩
theorem RP.last {B : Nat} {w : World} {m : RM} {S : List (Int × Int)} {T H : List Int} {W : List (List Cl)} {D : List Cl} (h : RP B w m S T H W D) (hne : W ≠ []) : ∃ I p g c, m.rows = I ++ [p] ∧ W = I.map (fun p => p.2.map (·.1)) ++ [p.2.map (·.1)] ∧ m.vw = .slice (some ⟨g, 0, none⟩) (I.length + 1) c ∧ g < w.heap.size ∧ w.cell? ⟨g, I.length, none⟩ = some p.1.v ∧ p.1.n = p.2.length ∧ (∃ cs, w.heap[g]? = some (.cells cs 77 (0, 0))) := by
  have hr : m.rows ≠ [] := fun e => hne (by rw [h.eqw, e]; rfl)
  obtain ⟨I, p, hI⟩ : ∃ I p, m.rows = I ++ [p] := ⟨m.rows.dropLast, m.rows.getLast hr, (List.dropLast_concat_getLast hr).symm⟩
  have hl : (m.rows.map (·.1)).length = I.length + 1 := by rw [hI]; simp
  obtain ⟨b, o, c, hv, hb, hc⟩ := h.wrk.view.get enS (by decide) (i := I.length) (by omega)
  obtain ⟨g, c', hv'⟩ := h.wrk.at_ (by rw [hI]; simp)
  rw [hv'] at hv
  obtain ⟨⟨rfl, rfl⟩, rfl⟩ : (g = b ∧ 0 = o) ∧ c' = c := by
    simp only [Value.slice.injEq, Option.some.injEq, Addr.mk.injEq] at hv
    exact ⟨⟨hv.1.1, hv.1.2.1⟩, hv.2.2⟩
  rw [hl] at hv'
  have hgi : (m.rows.map (·.1))[I.length]'(by omega) = p.1 := by simp [hI]
  have hc0 := hc 0 p.1.v (by rw [hgi]; rfl)
  obtain ⟨a2, c2, h2⟩ := (h.rws p (by rw [hI]; simp)).slice
  refine ⟨I, p, g, c', hI, by rw [h.eqw, hI]; simp, hv', hb, by simpa using hc0, ?_, h.wrk.type (by rw [hv']; rfl)⟩
  simp only [SlV.v, Value.slice.injEq] at h2
  exact h2.2.1
set_option maxRecDepth 100000 in
set_option maxHeartbeats 3200000 in
theorem cNeedW (h : RL W0 w rb lb f r m mb s) : Calls Tryz.prog 208 #[LP rb, LP lb] w fun q w' => q = .returned (.tuple #[]) ∧ RL W0 w' rb lb f r m mb (r.needW s) := by
  obtain ⟨a, c, hv⟩ := h.rp.wrk.slice
  have hl : (m.rows.map (·.1)).length = r.work.length := by have := h.rp.eqw; rw [show r.work = _ from this]; simp
  rw [show (RG.m (r.rg m mb)) = m from rfl, hl] at hv
  obtain ⟨p0, p1, p2⟩ := h.at 6 m.vw rfl
  rw [hv] at p1
  have hfl := @cFaultS w w lb f s h.ln.ls 220
  have HX0 : Hid _ := h
  clear h hv hl
  by_cases hw : r.work = []
  · have hE : Hid (r.needW s = s.fault 220) := by rw [Hid, RS.needW, if_pos hw]
    rw [hw] at p1
    simp only [List.length_nil] at p1
    go_enter Tryz.func208, Tryz.ntmps208
    go_wp2_with (go_at_call 189; refine hfl.mono ?_; rintro r1 w1 ⟨rfl, hL⟩; have HX1 : Hid _ := HX0.out.line hL; clear hL)
    refine bodyPost_end (results_none rfl _ _ _) rfl ?_
    rw [hE.out]
    exact ⟨rfl, HX1.out⟩
  · have hE : Hid (r.needW s = s) := by rw [Hid, RS.needW, if_neg hw]
    have hp : ¬ ((r.work.length : Int) = 0) := by
      intro e
      exact hw (List.length_eq_zero_iff.1 (by omega))
    clear hw
    generalize r.work.length = n at *
    go_enter Tryz.func208, Tryz.ntmps208
    go_wp2
    refine bodyPost_end (results_none rfl _ _ _) rfl ?_
    rw [hE.out]
    exact ⟨rfl, HX0.out⟩
set_option maxRecDepth 100000 in
set_option maxHeartbeats 3200000 in
theorem cCallsN (h : RL W0 w rb lb f r m mb s) (hO : r.Ok) : Calls Tryz.prog 217 #[LP rb] w fun q w' => q = .returned (.int .i64 r.callsN) ∧ w' = w := by
  by_cases hw : r.work = []
  · obtain ⟨a, c, hv⟩ := h.rp.wrk.slice
    have hl : (m.rows.map (·.1)).length = r.work.length := by have := h.rp.eqw; rw [show r.work = _ from this]; simp
    rw [show (RG.m (r.rg m mb)) = m from rfl, hl, hw] at hv
    simp only [List.length_nil] at hv
    obtain ⟨p0, p1, p2⟩ := h.at 6 m.vw rfl
    rw [hv] at p1
    have hE : Hid (r.callsN = 0) := by rw [Hid, RS.callsN, hw]; rfl
    clear h hv hl hw hO
    go_enter Tryz.func217, Tryz.ntmps217
    go_wp2
    go_ret
    rw [hE.out]
    exact ⟨rfl, rfl⟩
  · obtain ⟨I, p, g, c, h1, h2, h3, h4, h5, h6, -⟩ := h.rp.last hw
    obtain ⟨p0, p1, p2⟩ := h.at 6 m.vw rfl
    have hE : Hid (r.callsN = (p.2.length : Int)) := by
      rw [Hid, RS.callsN, show r.work = _ from h2]
      simp
    have h7 : I.length + 1 ≤ 8 := by
      have := hO.wrk
      rw [show r.work = _ from h2] at this
      simpa using this
    rw [show m.vw = _ from h3] at p1
    rw [SlV.v, h6] at h5
    clear h h1 h2 h3 hw hO h6
    generalize I.length = n at *
    generalize p.2.length = k at *
    have e1 : ((n + 1 : Nat) : Int) = (n : Int) + 1 := by omega
    have e2 : IntKind.i64.wrap (n : Int) = (n : Int) := by rw [IntKind.wrap_i64]; omega
    go_enter Tryz.func217, Tryz.ntmps217
    go_wp2
    go_ret
    rw [hE.out]
    exact ⟨rfl, rfl⟩
end
end Go.Proofs.YtbnpdfakniebnaaGreatDoor
