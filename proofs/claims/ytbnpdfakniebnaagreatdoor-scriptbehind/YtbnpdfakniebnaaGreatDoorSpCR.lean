/-
  A call's line by contract. (By the verifier; no statement.)
-/
import Derived.Test.YtbnpdfakniebnaaGreatDoorSpCl
import Derived.Test.YtbnpdfakniebnaaGreatDoorSpErr
namespace Go.Proofs.YtbnpdfakniebnaaGreatDoor
open Go.RowKit
theorem RS.needW_ws (r : RS) (s : Ln) : (r.needW s).ws = s.ws := by
  unfold RS.needW
  split
  · exact Ln.fault_ws _ _
  · rfl
theorem RS.callsN_nonneg (r : RS) : 0 ≤ r.callsN := by unfold RS.callsN; omega
theorem RS.Ok.callsN {r : RS} (h : r.Ok) : r.callsN ≤ 64 := by
  unfold RS.callsN
  cases hl : r.work.getLast? with
  | none => simp
  | some l =>
    have := h.row l (List.mem_of_getLast? hl)
    simp
    omega
/-- A call that was read lies beside the reader. -/
structure CX (W0 w : World) (rb lb : Nat) (f : Bs) (r : RS) (m : RM) (mb : Nat) (t : Ln) (b : Nat) (c : Cl) (p : SlV) : Prop where
  rx : RL W0 w rb lb f r m mb t
  blk : w.heap[b]? = some (.cells #[.int .i64 c.k, .int .i64 c.a, .int .i64 c.b, .int .i64 c.c, p.v] 79 (0, 0))
  ge : W0.heap.size ≤ b
  row : OW 157 2 encP W0.heap.size w p.v c.ps
  nil : c.ps = [] → p.v = .slice none 0 0
  new : ∀ x ∈ ownL p.v, x ∉ ownL m.vs ++ m.calls.flatMap fun q => ownL q.2.v
  fresh : b ∉ ownL m.vb ++ m.rows.flatMap fun p => ownL p.1.v
section
variable {W0 w w1 : World} {rb lb : Nat} {f : Bs} {r : RS} {m : RM} {mb : Nat} {s t t2 : Ln} {b : Nat} {c : Cl} {p : SlV}
theorem CX.line (h : CX W0 w rb lb f r m mb t b c p) (h1 : LS w w1 lb f t2) : CX W0 w1 rb lb f r m mb t2 b c p := by
  obtain ⟨ls, hl⟩ := h.rx.ln.type
  refine ⟨h.rx.line h1, h1.tu.heap h.blk ?_, h.ge, h.row.off h1.tu fun x hx => ?_, h.nil, h.new, h.fresh⟩
  · rw [List.mem_singleton]; exact tyne h.blk hl (by decide)
  · rw [List.mem_singleton.1 hx]; exact ⟨ls, _, hl, by decide⟩
theorem CX.still (h : CX W0 w rb lb f r m mb t b c p) (h1 : Turned [] w w1) : CX W0 w1 rb lb f r m mb t b c p :=
  ⟨h.rx.still h1, h1.heap h.blk (by simp), h.ge, h.row.still h1, h.nil, h.new, h.fresh⟩
theorem cx_start (h : RL W0 w rb lb f r m mb s) (hp : LR 157 2 encP w w1 lb f t p.v c.ps) (hp0 : c.ps = [] → p.v = .slice none 0 0) :
    CX W0 (w1.alloc (.cells #[.int .i64 c.k, .int .i64 c.a, .int .i64 c.b, .int .i64 c.c, p.v] 79)) rb lb f r m mb t w1.heap.size c p := by
  have h1 := h.line hp.ls
  refine ⟨h1.still ((Turned.refl [] _).alloc _), blk_new _ _, h1.tu.size, (hp.row.lower h.tu.size).still ((Turned.refl [] _).alloc _), hp0, h.rp.apart hp.row, fun hm => ?_⟩
  rw [List.mem_append] at hm
  rcases hm with hm | hm
  · have := h1.rp.bdy.own_lt _ hm; omega
  · have := h1.rp.rows_lt _ hm; omega
set_option maxRecDepth 100000 in
set_option maxHeartbeats 6400000 in
theorem cCallR (h : RL W0 w rb lb f r m mb s) (hO : r.Ok) (hn : s.ws.length ≤ 1000000000) : Calls Tryz.prog dCall #[LP rb, LP lb] w (DP W0 rb lb f (r.call (kindB f) s)) := by
  have HX0 : Hid _ := h
  have HE : Hid (r.call (kindB f) s = (if ((readCall (kindB f) (r.needW s)).2.atMost (r.callsN + r.body.length + 1) 64).err = 0 then (if 0 < r.times then { r with body := r.body ++ [(readCall (kindB f) (r.needW s)).1] } else r.add (readCall (kindB f) (r.needW s)).1) else r, (readCall (kindB f) (r.needW s)).2.atMost (r.callsN + r.body.length + 1) 64)) := rfl
  have HK : Hid (((readCall (kindB f) (r.needW s)).2.atMost (r.callsN + r.body.length + 1) 64).err = 0 → r.work ≠ [] ∧ r.callsN + r.body.length + 1 ≤ 64) := fun h => ⟨(call_ok h).1, (call_ok h).2.1⟩
  have hws : (r.needW s).ws.length ≤ 1000000000 := by rw [r.needW_ws]; exact hn
  have HR : Hid (∀ W, TabC W → LnAt W lb f (r.needW s) → Calls Tryz.prog 216 #[LP lb] W fun q w' => ∃ v, q = .returned (clV (readCall (kindB f) (r.needW s)).1 v) ∧ LR 157 2 encP W w' lb f (readCall (kindB f) (r.needW s)).2 v (readCall (kindB f) (r.needW s)).1.ps ∧ ((readCall (kindB f) (r.needW s)).1.ps = [] → v = .slice none 0 0)) := fun W h1 h2 => cReadCall h1 h2 hws
  have hcw := cNeedW HX0.out
  have HOk : Hid r.Ok := hO
  have hc0 := r.callsN_nonneg
  have hc1 := hO.callsN
  have hb1 := hO.bdy
  clear h hn hws hO
  unfold DP
  generalize r.needW s = t1 at *
  generalize (readCall (kindB f) t1).1 = c at *
  generalize (readCall (kindB f) t1).2 = t2 at *
  have HCN : Hid (∀ W mm, RL W0 W rb lb f r mm mb t2 → Calls Tryz.prog 217 #[LP rb] W fun q w' => q = .returned (.int .i64 r.callsN) ∧ w' = W) := fun W mm h => cCallsN h HOk.out
  obtain ⟨va, vc, hvb⟩ := HX0.out.rp.bdy.slice
  have hbl : m.bd.length = r.body.length := by have := HX0.out.rp.eqb; rw [show r.body = _ from this]; simp
  rw [show (RG.m (r.rg m mb)) = m from rfl, hbl] at hvb
  have HVB : Hid (m.vb = _) := hvb
  clear hvb hbl
  generalize hcn : r.callsN = n at *
  generalize hbn : r.body.length = k at *
  have HN1 : Hid _ := hcn
  have HN2 : Hid _ := hbn
  clear hcn hbn
  rw [HE.out]
  clear HE
  have HA : Hid (∀ W bc p, CX W0 W rb lb f r m mb t2 bc c p → Calls Tryz.prog 206 #[LP lb, .int .i64 (n + (k : Int) + 1), .int .i64 64] W fun q w' => q = .returned (.tuple #[]) ∧ CX W0 w' rb lb f r m mb (t2.atMost (n + (k : Int) + 1) 64) bc c p) := fun W bc p h => (cAtMost h.rx.ln.ls _ _).mono fun _ _ ⟨h1, h2⟩ => ⟨h1, h.line h2⟩
  generalize t2.atMost (n + (k : Int) + 1) 64 = t3 at *
  have e1 : IntKind.i64.wrap (n + (k : Int)) = n + (k : Int) := by rw [IntKind.wrap_i64]; omega
  have e2 : IntKind.i64.wrap (n + (k : Int) + 1) = n + (k : Int) + 1 := by rw [IntKind.wrap_i64]; omega
  clear hc0 hc1 hb1

  by_cases herr : t3.err = 0
  · by_cases htm : 0 < r.times
    · have HP : Hid _ := HK.out herr
      rw [if_pos herr, if_pos htm]
      go_enter Tryz.func204, Tryz.ntmps204
      go_wp2_with (first | (go_at_call 208; refine hcw.mono ?_; rintro r1 w1 ⟨rfl, hL⟩; have HX1 : Hid _ := hL; clear hL hcw) | (go_at_call 216; refine (HR.out _ HX1.out.tabc HX1.out.ln).mono ?_; rintro r1 w2 ⟨v, rfl, hp, hp0⟩; obtain ⟨pa, pc, rfl⟩ := hp.row.slice; have HCX : Hid _ := cx_start (p := ⟨pa, c.ps.length, pc⟩) HX1.out hp hp0; clear hp hp0 HR))
      generalize hX : w2.alloc (.cells #[.int .i64 c.k, .int .i64 c.a, .int .i64 c.b, .int .i64 c.c, (SlV.v ⟨pa, c.ps.length, pc⟩)] 79) = X at *
      clear hX
      generalize w2.heap.size = bc at *
      obtain ⟨p0, p1, p2⟩ := HCX.out.rx.at 14 m.vb rfl
      rw [HVB.out] at p1
      go_region_law (first | (go_simp; go_at_call 217; refine (HCN.out _ m (HCX.out.still ?_).rx).mono ?_; (focus (repeat first | exact Turned.refl _ _ | refine Turned.drew ?_ | refine Turned.alloc ?_ _)); rintro r1 z ⟨rfl, rfl⟩; try go_wp2_with fail) | (go_simp; go_at_call 206; refine (HA.out _ _ _ (HCX.out.still ?_)).mono ?_; (focus (repeat first | exact Turned.refl _ _ | refine Turned.drew ?_ | refine Turned.alloc ?_ _)); rintro r1 z ⟨rfl, hz⟩; have HZ : Hid _ := hz; clear hz; try go_wp2_with fail))
      all_goals
        clear p0 p1 p2
        obtain ⟨b', o, c', hlb, -, -, hl2, hlz, -, -, -, -, -⟩ := HZ.out.rx.ln.cells
        rw [herr] at hl2
        obtain ⟨p0, p1, p2⟩ := HZ.out.rx.at 13 (.int .i64 r.times) rfl
        obtain ⟨p0, q1, q2⟩ := HZ.out.rx.at 14 m.vb rfl
        rw [HVB.out] at q1
        have hb := HZ.out.blk
        have bl := lt_of_heap hb
        have b0 := (cell_at hb 0).trans (show _ = some (Value.int .i64 c.k) from rfl)
        have b1 := (cell_at hb 1).trans (show _ = some (Value.int .i64 c.a) from rfl)
        have b2 := (cell_at hb 2).trans (show _ = some (Value.int .i64 c.b) from rfl)
        have b3 := (cell_at hb 3).trans (show _ = some (Value.int .i64 c.c) from rfl)
        have b4 := (cell_at hb 4).trans (show _ = some (Value.slice pa c.ps.length pc) from rfl)
        clear hb
        go_wp2
        have HOne : Hid (∀ (i : Nat) (u : Value), ([(c, (⟨pa, c.ps.length, pc⟩ : SlV))].flatMap encC)[i]? = some u → (#[Value.int .i64 c.k, .int .i64 c.a, .int .i64 c.b, .int .i64 c.c, .slice pa c.ps.length pc] : Array Value)[i]? = some u) := fun i u hu => by simpa [encC] using hu
        have hbd : m.bd.length = k := by have h1 := HZ.out.rx.rp.eqb; rw [← HN2.out, show r.body = _ from h1]; simp
        have hby : (m.bd.length + [(c, (⟨pa, c.ps.length, pc⟩ : SlV))].length) * 56 ≤ 140737488355328 := by have h1 := HP.out.2; have h2 := r.callsN_nonneg; rw [HN1.out] at h2; simp; omega
        have HBD : Hid _ := hbd
        have HW : Hid (OW 79 5 encC W0.heap.size z (.slice va k vc) m.bd) := by rw [Hid, ← HVB.out]; exact HZ.out.rx.rp.bdy
        have HYY : Hid (∀ (y w3 : World) (g2 : Option Addr) (c2 : Nat), Turned [] z y → OW 79 5 encC W0.heap.size w3 (.slice g2 (k + 1) c2) (m.bd ++ [(c, (⟨pa, c.ps.length, pc⟩ : SlV))]) → Turned (Value.slice va k vc).ownBlock.toList y w3 → ((Value.slice g2 (k + 1) c2).ownBlock = (Value.slice va k vc).ownBlock ∨ (Value.slice g2 (k + 1) c2).ownBlock = some y.heap.size) → RX W0 w3 rb lb f (rdCells r m mb) { (r.rg m mb) with m := { m with vb := .slice g2 (k + 1) c2, bd := m.bd ++ [(c, (⟨pa, c.ps.length, pc⟩ : SlV))] }, D := r.body ++ [c] } t3) := fun y w3 g2 c2 hy ho ht hv => by
          have h1 := HZ.out.still hy
          rw [← HVB.out] at ht hv
          exact h1.rx.rows ht (h1.rx.rp.bdy.rowX (by decide)) (h1.rx.rp.body h1.row h1.nil h1.new ho ht hv)
        clear hbd
        go_region_law (refine step_apO elC enC (B := W0.heap.size) (v := .slice va k vc) (u := .slice (some ⟨z.heap.size, 0, none⟩) 1 1) (R := m.bd) (M := [(c, (⟨pa, c.ps.length, pc⟩ : SlV))]) rfl _ _ rfl ?_ (HW.out.still ?_) ?_ (VW.block (R := [(c, (⟨pa, c.ps.length, pc⟩ : SlV))]) (c := 1) (blk_new _ _) HOne.out) hby ?_ ?_; (focus (simp [Act.eval]; done)); (focus (repeat first | exact Turned.refl _ _ | refine Turned.drew ?_ | refine Turned.alloc ?_ _)); (focus (simp [Act.eval]; done)); (focus (exact (HZ.out.still (by (repeat first | exact Turned.refl _ _ | refine Turned.drew ?_ | refine Turned.alloc ?_ _))).rx.tu.size)); intro v2 w3 ho ht hv; obtain ⟨g2, c2, hv2⟩ := ho.slice; rw [List.length_append, HBD.out] at hv2; subst hv2; have HY : Hid _ := HYY.out _ w3 g2 c2 (by (repeat first | exact Turned.refl _ _ | refine Turned.drew ?_ | refine Turned.alloc ?_ _)) ho ht hv; clear ho ht hv p0 p1 p2 q1 q2; obtain ⟨p0, p1, p2⟩ := HY.out.at 14 m.vb rfl)
        all_goals
          simp only [Exit.inBlock]
          refine bodyPost_end (results_none rfl _ _ _) rfl ?_
          exact ⟨rfl, { m with vb := .slice g2 (k + 1) c2, bd := m.bd ++ [(c, (⟨pa, c.ps.length, pc⟩ : SlV))] }, mb, HY.out.set 14 (.slice g2 (k + 1) c2)⟩
    · have HP : Hid _ := HK.out herr
      rw [if_pos herr, if_neg htm]
      go_enter Tryz.func204, Tryz.ntmps204
      go_wp2_with (first | (go_at_call 208; refine hcw.mono ?_; rintro r1 w1 ⟨rfl, hL⟩; have HX1 : Hid _ := hL; clear hL hcw) | (go_at_call 216; refine (HR.out _ HX1.out.tabc HX1.out.ln).mono ?_; rintro r1 w2 ⟨v, rfl, hp, hp0⟩; obtain ⟨pa, pc, rfl⟩ := hp.row.slice; have HCX : Hid _ := cx_start (p := ⟨pa, c.ps.length, pc⟩) HX1.out hp hp0; clear hp hp0 HR))
      generalize hX : w2.alloc (.cells #[.int .i64 c.k, .int .i64 c.a, .int .i64 c.b, .int .i64 c.c, (SlV.v ⟨pa, c.ps.length, pc⟩)] 79) = X at *
      clear hX
      generalize w2.heap.size = bc at *
      obtain ⟨p0, p1, p2⟩ := HCX.out.rx.at 14 m.vb rfl
      rw [HVB.out] at p1
      go_region_law (first | (go_simp; go_at_call 217; refine (HCN.out _ m (HCX.out.still ?_).rx).mono ?_; (focus (repeat first | exact Turned.refl _ _ | refine Turned.drew ?_ | refine Turned.alloc ?_ _)); rintro r1 z ⟨rfl, rfl⟩; try go_wp2_with fail) | (go_simp; go_at_call 206; refine (HA.out _ _ _ (HCX.out.still ?_)).mono ?_; (focus (repeat first | exact Turned.refl _ _ | refine Turned.drew ?_ | refine Turned.alloc ?_ _)); rintro r1 z ⟨rfl, hz⟩; have HZ : Hid _ := hz; clear hz; try go_wp2_with fail))
      all_goals
        clear p0 p1 p2
        obtain ⟨b', o, c', hlb, -, -, hl2, hlz, -, -, -, -, -⟩ := HZ.out.rx.ln.cells
        rw [herr] at hl2
        obtain ⟨p0, p1, p2⟩ := HZ.out.rx.at 13 (.int .i64 r.times) rfl
        have hb := HZ.out.blk
        have bl := lt_of_heap hb
        have b0 := (cell_at hb 0).trans (show _ = some (Value.int .i64 c.k) from rfl)
        have b1 := (cell_at hb 1).trans (show _ = some (Value.int .i64 c.a) from rfl)
        have b2 := (cell_at hb 2).trans (show _ = some (Value.int .i64 c.b) from rfl)
        have b3 := (cell_at hb 3).trans (show _ = some (Value.int .i64 c.c) from rfl)
        have b4 := (cell_at hb 4).trans (show _ = some (Value.slice pa c.ps.length pc) from rfl)
        have hadd := cAdd HZ.out.rx HP.out.1 HOk.out.wrk (by have := HOk.out.callsN; omega) HZ.out.row HZ.out.nil HZ.out.new
        clear hb
        go_wp2_with (go_at_call 218; refine hadd.mono ?_; rintro r1 w4 ⟨rfl, rows', hR⟩; have HF : Hid _ := hR; clear hR hadd)
        refine bodyPost_end (results_none rfl _ _ _) rfl ?_
        exact ⟨rfl, _, mb, HF.out⟩
  · rw [if_neg herr]
    have he' : ¬ ((t3.err : Int) = 0) := by omega
    go_enter Tryz.func204, Tryz.ntmps204
    go_wp2_with (first | (go_at_call 208; refine hcw.mono ?_; rintro r1 w1 ⟨rfl, hL⟩; have HX1 : Hid _ := hL; clear hL hcw) | (go_at_call 216; refine (HR.out _ HX1.out.tabc HX1.out.ln).mono ?_; rintro r1 w2 ⟨v, rfl, hp, hp0⟩; obtain ⟨pa, pc, rfl⟩ := hp.row.slice; have HCX : Hid _ := cx_start (p := ⟨pa, c.ps.length, pc⟩) HX1.out hp hp0; clear hp hp0 HR))
    generalize hX : w2.alloc (.cells #[.int .i64 c.k, .int .i64 c.a, .int .i64 c.b, .int .i64 c.c, (SlV.v ⟨pa, c.ps.length, pc⟩)] 79) = X at *
    clear hX
    generalize w2.heap.size = bc at *
    obtain ⟨p0, p1, p2⟩ := HCX.out.rx.at 14 m.vb rfl
    rw [HVB.out] at p1
    go_region_law (first | (go_simp; go_at_call 217; refine (HCN.out _ m (HCX.out.still ?_).rx).mono ?_; (focus (repeat first | exact Turned.refl _ _ | refine Turned.drew ?_ | refine Turned.alloc ?_ _)); rintro r1 z ⟨rfl, rfl⟩; try go_wp2_with fail) | (go_simp; go_at_call 206; refine (HA.out _ _ _ (HCX.out.still ?_)).mono ?_; (focus (repeat first | exact Turned.refl _ _ | refine Turned.drew ?_ | refine Turned.alloc ?_ _)); rintro r1 z ⟨rfl, hz⟩; have HZ : Hid _ := hz; clear hz; try go_wp2_with fail))
    all_goals
      clear p0 p1 p2
      obtain ⟨b', o, c', hlb, -, -, hl2, hlz, -, -, -, -, -⟩ := HZ.out.rx.ln.cells
      go_wp2
      refine bodyPost_end (results_none rfl _ _ _) rfl ?_
      exact ⟨rfl, m, mb, HZ.out.rx⟩
end
end Go.Proofs.YtbnpdfakniebnaaGreatDoor
