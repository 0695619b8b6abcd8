/-
  The example of 'known' in memory. (By the verifier; no statement.)
-/
import Derived.Test.YtbnpdfakniebnaaGreatDoorSpKnP
namespace Go.Proofs.YtbnpdfakniebnaaGreatDoor
open Go.RowKit
section
variable {α : Type} {T : TypeId} {k : Nat} {enc : α → List Value} {B : Nat} {w : World} {v : Value} {R : List α}
theorem OW.cellsAt (N : En k enc) (hk : 0 < k) (h : OW T k enc B w v R) (hR : R ≠ []) : ∃ g c, v = .slice (some ⟨g, 0, none⟩) R.length c ∧ g < w.heap.size ∧ ∀ (i : Nat) (hi : i < R.length) (j : Nat) (u : Value), (enc R[i])[j]? = some u → w.cell? ⟨g, i * k + j, none⟩ = some u := by
  obtain ⟨g, c, hv⟩ := h.at_ hR
  have hw := h.view
  have hpos := List.length_pos_iff.2 hR
  obtain ⟨b, o, c', hv', hb, -⟩ := hw.get N hk hpos
  have e := hv.symm.trans hv'
  simp only [Value.slice.injEq, Option.some.injEq, Addr.mk.injEq] at e
  obtain ⟨⟨rfl, rfl, -⟩, -, rfl⟩ := e
  refine ⟨_, _, hv, hb, fun i hi j u hu => ?_⟩
  obtain ⟨b2, o2, c2, hv2, -, hc⟩ := hw.get N hk hi
  have e := hv.symm.trans hv2
  simp only [Value.slice.injEq, Option.some.injEq, Addr.mk.injEq] at e
  obtain ⟨⟨rfl, rfl, -⟩, -, rfl⟩ := e
  have := hc j u hu
  rwa [Nat.zero_add] at this
end
theorem RP.sv {B : Nat} {w : World} {m : RM} {S : List (Int × Int)} {T H : List Int} {W : List (List Cl)} {D : List Cl} (h : RP B w m S T H W D) : SV w m S T H :=
  ⟨h.src.view, h.trn.view, h.hlt.view, h.wrk.view, fun p hp => (h.rws p hp).view, fun p hp q hq => (h.prs q (List.mem_append.2 (.inr (List.mem_flatMap.2 ⟨p, hp, hq⟩)))).1.view⟩
def knWk : List (List Cl) := [[⟨1, 5, 0, 0, []⟩, ⟨2, 7, 70, 0, []⟩, ⟨2, 7, 70, 0, []⟩], [⟨6, 0, 0, 0, []⟩, ⟨16, 0, 0, 100, []⟩]]
theorem kn_rows {rows : List (SlV × List (Cl × SlV))} (h : knWk = rows.map fun p => p.2.map (·.1)) : ∃ s0 s1 v0 v1 v2 v3 v4, rows = [(s0, [(⟨1, 5, 0, 0, []⟩, v0), (⟨2, 7, 70, 0, []⟩, v1), (⟨2, 7, 70, 0, []⟩, v2)]), (s1, [(⟨6, 0, 0, 0, []⟩, v3), (⟨16, 0, 0, 100, []⟩, v4)])] := by
  unfold knWk at h
  rcases rows with _ | ⟨⟨s0, q0⟩, _ | ⟨⟨s1, q1⟩, _ | ⟨x, l⟩⟩⟩
  · exact absurd (congrArg List.length h) (by simp)
  · exact absurd (congrArg List.length h) (by simp)
  · simp only [List.map_cons, List.map_nil, List.cons.injEq, and_true] at h
    obtain ⟨h0, h1⟩ := h
    rcases q0 with _ | ⟨⟨c0, v0⟩, _ | ⟨⟨c1, v1⟩, _ | ⟨⟨c2, v2⟩, _ | ⟨x, l⟩⟩⟩⟩
    · cases h0
    · cases h0
    · cases h0
    · rcases q1 with _ | ⟨⟨c3, v3⟩, _ | ⟨⟨c4, v4⟩, _ | ⟨x, l⟩⟩⟩
      · cases h1
      · cases h1
      · cases h0
        cases h1
        exact ⟨s0, s1, v0, v1, v2, v3, v4, rfl⟩
      · cases h1
    · cases h0
  · exact absurd (congrArg List.length h) (by simp)
set_option maxRecDepth 100000 in
/-- What 'known' reads, in memory. -/
theorem kn_mem {w0 w : World} {s e : Value} (h : PaP w0 w knA s e) : e = .nilIface ∧ ∃ (m : RM) (a1 a2 a3 : Option Addr) (c1 c2 c3 c4 c5 c6 gw g0 g1 : Nat), s = .agg #[.int .i64 1, .int .i64 2, .int .i64 40, .int .i64 2, .slice a1 1 c1, .int .i64 0, .slice (some ⟨gw, 0, none⟩) 2 c4, .slice a2 3 c2, .slice a3 0 c3, .int .i64 100] ∧ (m.vs = .slice a1 1 c1 ∧ m.vw = .slice (some ⟨gw, 0, none⟩) 2 c4 ∧ m.vt = .slice a2 3 c2 ∧ m.vh = .slice a3 0 c3) ∧ SV w m [(5, 50)] [0, 1, 0] [] ∧ SL m [(5, 50)] [0, 1, 0] [] ∧ (m.rows.map fun p => p.2.map (·.1)) = knWk ∧ (gw < w.heap.size ∧ w.cell? ⟨gw, 0, none⟩ = some (.slice (some ⟨g0, 0, none⟩) 3 c5) ∧ w.cell? ⟨gw, 1, none⟩ = some (.slice (some ⟨g1, 0, none⟩) 2 c6)) ∧ (g0 < w.heap.size ∧ w.cell? ⟨g0, 10, none⟩ = some (.int .i64 2) ∧ w.cell? ⟨g0, 12, none⟩ = some (.int .i64 70)) ∧ g1 < w.heap.size ∧ w.cell? ⟨g1, 8, none⟩ = some (.int .i64 100) := by
  obtain ⟨rfl, a1, c1, a2, c2, a3, c3, a4, c4, vb, rows, bd, rfl, hR, -⟩ := h.ok knA_ok
  have hi := knR_ints
  simp only [Prod.mk.injEq] at hi
  obtain ⟨i1, i2, i3, i4, i5, i6⟩ := hi
  rw [knR_source, knR_turns, knR_halt, knR_work] at hR
  rw [i1, i2, i3, i4, i5, i6, knR_source, knR_turns, knR_halt]
  obtain ⟨s0, s1, v0, v1, v2, v3, v4, rfl⟩ := kn_rows hR.eqw
  obtain ⟨gw, cw, ew, bw, hw⟩ := hR.wrk.cellsAt enS (by decide) (by simp)
  obtain ⟨g0, cc0, e0, b0, h0⟩ := (hR.rws _ (List.mem_cons_self)).cellsAt enC (by decide) (by simp)
  obtain ⟨g1, cc1, e1, b1, h1⟩ := (hR.rws _ (List.mem_cons_of_mem _ (List.mem_cons_self))).cellsAt enC (by decide) (by simp)
  have e0' : s0.v = .slice (some ⟨g0, 0, none⟩) 3 cc0 := e0
  have e1' : s1.v = .slice (some ⟨g1, 0, none⟩) 2 cc1 := e1
  have ew' : (Value.slice a4 2 c4) = .slice (some ⟨gw, 0, none⟩) 2 cw := ew
  simp only [Value.slice.injEq, true_and] at ew'
  obtain ⟨rfl, rfl⟩ := ew'
  refine ⟨rfl, _, a1, a2, a3, c1, c2, c3, c4, cc0, cc1, gw, g0, g1, rfl, ⟨rfl, rfl, rfl, rfl⟩, hR.sv, ⟨by decide, by decide, by decide, by simp, by simp, fun p hp q hq => ?_⟩, rfl, ⟨bw, ?_, ?_⟩, ⟨b0, ?_, ?_⟩, b1, ?_⟩
  · simp only [List.mem_cons, List.not_mem_nil, or_false] at hp
    rcases hp with rfl | rfl
    · simp only [List.mem_cons, List.not_mem_nil, or_false] at hq
      rcases hq with rfl | rfl | rfl <;> exact Nat.zero_le _
    · simp only [List.mem_cons, List.not_mem_nil, or_false] at hq
      rcases hq with rfl | rfl <;> exact Nat.zero_le _
  · rw [← e0']
    exact hw 0 (by simp) 0 s0.v rfl
  · rw [← e1']
    exact hw 1 (by simp) 0 s1.v rfl
  · exact h0 2 (by simp) 0 _ rfl
  · exact h0 2 (by simp) 2 _ rfl
  · exact h1 1 (by simp) 3 _ rfl
theorem knSI : SI 1 2 40 2 0 [(5, 50)] [0, 1, 0] [] 100 := ⟨by decide, by decide, by decide, by decide, by decide, by decide, by decide, by decide, by decide⟩
end Go.Proofs.YtbnpdfakniebnaaGreatDoor
