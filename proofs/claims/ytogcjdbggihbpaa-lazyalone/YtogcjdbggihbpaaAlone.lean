/- The law's walk, whole. -/
import Derived.Test.YtogcjdbggihbpaaLoopC
namespace Go.Proofs.Ytogcjdbggihbpaa
open Go.RowKit Go.Conc Go.MuLone
theorem hlaw : Try.f3.body.getD .skip = .seq (atc Try.f3.body [0]) (.seq (atc Try.f3.body [1, 0]) (.seq (atc Try.f3.body [1, 1, 0]) (.seq (atc Try.f3.body [1, 1, 1, 0]) (.seq (atc Try.f3.body [1, 1, 1, 1, 0]) (.seq (atc Try.f3.body [1, 1, 1, 1, 1, 0]) (.seq (atc Try.f3.body [1, 1, 1, 1, 1, 1, 0]) (.seq (.seq (atc Try.f3.body [1, 1, 1, 1, 1, 1, 1, 0, 0]) (.block 0 (.loop (atc Try.f3.body pA)))) ((atc Try.f3.body [1, 1, 1, 1, 1, 1, 1, 1]))))))))) := by kernel_rfl
theorem hrestA : (atc Try.f3.body [1, 1, 1, 1, 1, 1, 1, 1]) = .seq (atc Try.f3.body [1, 1, 1, 1, 1, 1, 1, 1, 0]) (.seq (atc Try.f3.body [1, 1, 1, 1, 1, 1, 1, 1, 1, 0]) (.seq (.seq (atc Try.f3.body [1, 1, 1, 1, 1, 1, 1, 1, 1, 1, 0, 0]) (.block 2 (.loop (atc Try.f3.body pB)))) ((atc Try.f3.body [1, 1, 1, 1, 1, 1, 1, 1, 1, 1, 1])))) := by kernel_rfl
theorem hrestB : (atc Try.f3.body [1, 1, 1, 1, 1, 1, 1, 1, 1, 1, 1]) = .seq (atc Try.f3.body [1, 1, 1, 1, 1, 1, 1, 1, 1, 1, 1, 0]) (.seq (atc Try.f3.body [1, 1, 1, 1, 1, 1, 1, 1, 1, 1, 1, 1, 0]) (.seq (atc Try.f3.body [1, 1, 1, 1, 1, 1, 1, 1, 1, 1, 1, 1, 1, 0]) (.seq (atc Try.f3.body [1, 1, 1, 1, 1, 1, 1, 1, 1, 1, 1, 1, 1, 1, 0]) (.seq (.seq (atc Try.f3.body [1, 1, 1, 1, 1, 1, 1, 1, 1, 1, 1, 1, 1, 1, 1, 0, 0]) (.block 5 (.loop (atc Try.f3.body pC)))) (.seq (atc Try.f3.body [1, 1, 1, 1, 1, 1, 1, 1, 1, 1, 1, 1, 1, 1, 1, 1, 0]) .ret))))) := by kernel_rfl

theorem ret4 {a : Act} {w : World} {R : Ending → World → Prop} (hs : a.tmps.size = 369) (hd : a.defers = []) (h4 : a.eval (.tmp 4) = .bool true) (hR : R (.returned (.bool true)) w) : bodyPost Try.prog Try.f3 R .ret a w := by
  refine ⟨hd, .bool true, ?_, hR⟩
  have h : a.tmps[4]'(by omega) = .bool true := by simpa [Act.eval, Array.getD, hs] using h4
  simp [results, Try.results3, go_sem, h, hs]
section
variable {W : World} {B : PB} {E : Nat → Nat → Nat} {F : Nat → Int} {L : Nat → Bool} {V Kd A : Nat → Int} {wB : World} {g2 c2 : Nat}
/-- From the second loop's end on. -/
theorem endB (C : CB W wB B E F L V Kd A g2 c2) {a : Act} {w : World} (hF : FB B a) (hS : SB wB B E F L V B.m w) : (atc Try.f3.body [1, 1, 1, 1, 1, 1, 1, 1, 1, 1, 1]).wp Try.prog (bodyPost Try.prog Try.f3 fun e w' => e = .returned (.bool true) ∧ Below W.heap.size W w') a w := by
  obtain ⟨σ, hG, hS⟩ := hS
  have hk2 := C.hk2
  have hBw := hS.below C.bel C.low
  have htab := hS.heap C.tab.tab (fun s k hs hk => (C.tab.nN s k hs hk).2.2.1)
  have hrow : ∀ k, k < B.k → w.cell? ⟨B.N + 1, k, none⟩ = some (.pointer (some ⟨E 11 k, 0, none⟩)) := fun k hk => hS.cell (C.tab.row k hk) (fun s k hs hk => (C.tab.nN s k hs hk).2.1)
  have hO : ∀ k, k < B.k → ∃ d m fv v e, w.heap[E 11 k]? = some (onceObj d m fv (bN ((σ k).t && decide (F k < 1))) v e) := fun k hk => by
    have ho := hS.own k hk 11 (by omega)
    obtain ⟨d, m, fv, v, e, he⟩ := once_done (σ k).t (F k) (L k) (V k) (tmk B.N (E 10 k))
    refine ⟨d, m, fv, v, e, ?_⟩
    rw [← he]
    exact ho
  rw [hrestB]
  refine wp_seq (p43 hF.size hF.defers hF.s0 hF.s12 hF.s17 htab fun a1 z1 z2 y0 y12 y17 y26 => ?_)
  refine wp_seq (p44 z1 z2 y0 y12 y17 y26 htab fun a2 z1 z2 y0 y12 y17 y26 y28 => ?_)
  refine wp_seq (p45 z1 z2 y0 y12 y17 y26 y28 (cMade (p := fun k => (σ k).t && decide (F k < 1)) htab hrow hO (by omega)) fun a3 w3 v z1 z2 y12 y26 y28 y29 hR => ?_)
  obtain ⟨hown, hB3⟩ := hR
  obtain ⟨ao, cap, hv⟩ := own_form hown
  subst hv
  refine wp_seq (p46 z1 z2 y12 y26 y28 y29 fun a4 z1 z2 y12 y26 y28 y29 y30 => ?_)
  refine wp_seq (wp_seq (p47 z1 z2 y12 y26 y28 y29 y30 fun a5 z1 z2 y12 y26 y28 y29 y30 y31 => wp_block ?_))
  have hcell : ∀ {p : Addr} {v : Value}, w.cell? p = some v → w3.cell? p = some v := fun {p v} h => (hB3.cell (World.block_lt_of_cell? w _ h)).trans h
  refine wp_loop (IC w3 B.g7 B.k B.c7 ao cap (fun k => (σ k).t && decide (F k < 1))) (muC B.k) ⟨rfl, ⟨z1, z2, y12, y26, y28, y29⟩, 0, by omega, y31, y30⟩ (roundC (Ec := fun i => E 9 i) (by omega) (fun i hi => ⟨hcell (C.r7.at hS hi), hcell ?_⟩) (fun i hi => ?_) (fun a6 hF6 y30 => ?_))
  · have := (hS.cells hi).2.2.2.2.1
    rw [(hG i hi).t] at this
    exact this
  · rcases hown.2 with ⟨_, h0⟩ | ⟨g, cap', cur, hv, _⟩
    · omega
    · injection hv with h1 _ _
      refine ⟨g, h1, fun y hy => ?_⟩
      have hc := hown.cells (g := g) (by rw [h1]; rfl) i y hy
      have hadd : (⟨g, 0, none⟩ : Addr).add i = ⟨g, i, none⟩ := by unfold Addr.add; split <;> simp_all
      rw [hadd] at hc
      exact hc
  · refine wp_seq (p54 hF6.size hF6.defers hF6.s26 hF6.s28 hF6.s29 y30 fun a7 w7 z1 z2 y4 hB7 => wp_ret (ret4 z1 z2 y4 ⟨rfl, ?_⟩))
    have h3 := hBw.size
    have h4 := hB3.size
    exact (hBw.trans (hB3.mono h3)).trans (hB7.mono (by omega))
end
/-- A slice of makers, a slice of calls. -/
theorem wAlone (W : World) (mb mo n mc : Nat) (F : Nat → Int) (L : Nat → Bool) (V : Nat → Int) (hn : 1 ≤ n) (hn2 : n ≤ 30) (la : Option Addr) (m lc : Nat) (hm2 : m ≤ 500) (Kd A : Nat → Int)
    (hL : 0 < m → ∃ lb lo, la = some ⟨lb, lo, none⟩ ∧ ∀ q, q < m → W.cell? ⟨lb, lo + q * 5, none⟩ = some (.int .i64 (Kd q)) ∧ W.cell? ⟨lb, lo + q * 5 + 1, none⟩ = some (.int .i64 (A q)))
    (hM : ∀ k, k < n → W.cell? ⟨mb, mo + k * 3, none⟩ = some (.int .i64 (F k)) ∧ W.cell? ⟨mb, mo + k * 3 + 1, none⟩ = some (.bool (L k)) ∧ W.cell? ⟨mb, mo + k * 3 + 2, none⟩ = some (.int .i64 (V k)))
    {a : Act} (hs : a.tmps.size = 369) (hd : a.defers = []) (h0 : a.eval (.tmp 0) = .slice (some ⟨mb, mo, none⟩) n mc) (h1 : a.eval (.tmp 1) = .slice la m lc) :
    (Try.f3.body.getD .skip).wp Try.prog (bodyPost Try.prog Try.f3 fun e w' => e = .returned (.bool true) ∧ Below W.heap.size W w') a W := by
  rw [hlaw]
  refine wp_seq (p0 hs hd h0 h1 fun a1 z1 z2 y0 y1 => ?_)
  refine wp_seq (p1 z1 z2 y0 y1 fun a2 w1 z1 z2 y0 y1 hW1 => ?_)
  refine wp_seq (p3 z1 z2 y0 y1 hn2 (by simp; omega) hm2 fun a3 z1 z2 y0 y1 => ?_)
  refine wp_seq (p5 z1 z2 y0 y1 fun a4 z1 z2 y0 y1 y5 => ?_)
  refine wp_seq (p6 z1 z2 y0 y1 y5 fun a5 z1 z2 y0 y1 y5 y6 => ?_)
  refine wp_seq (p7 z1 z2 y0 y1 y5 y6 fun a6 w2 z1 z2 y0 y1 y5 y6 y7 y8 y9 hw2 => ?_)
  subst hw2
  refine wp_seq (p8 z1 z2 y0 y1 y5 y6 y7 y8 y9 fun a7 z1 z2 y0 y1 y5 y6 y7 y8 y9 y10 y11 y12 => ?_)
  refine wp_seq (wp_seq (p9 z1 z2 y0 y1 y5 y6 y7 y8 y9 y10 y11 y12 fun a8 z1 z2 y0 y1 y5 y6 y7 y8 y9 y10 y11 y12 y13 => wp_block ?_))
  refine loopA (B := ⟨mb, mo, n, mc, la, m, lc, w1.heap.size⟩) (W := W) (F := F) (L := L) (V := V) hn2 hM (fun aA wr hF hH => ?_) ⟨0, Nat.zero_le _, ⟨z1, z2, y0, y1, y9⟩, y13, ?_⟩
  · show (atc Try.f3.body [1, 1, 1, 1, 1, 1, 1, 1]).wp Try.prog _ aA wr
    obtain ⟨e, ob, vs, xs, h7, h8, h5, h6, h10, h11, h12, hH⟩ := hH
    rw [hrestA]
    refine wp_seq (p18 hF.size hF.defers hF.s0 hF.s1 h5.symm h6.symm h7.symm h8.symm hF.s9 h10.symm h11.symm h12.symm hn hn2 fun a1 wB z1 z2 y0 y1 y5 y6 y7 y8 y9 y10 y11 y12 y17 y18 hT => ?_)
    obtain ⟨g0, c0, R0⟩ := row_of hH hT hn (t := 0) (by omega)
    obtain ⟨g1, c1, R1⟩ := row_of hH hT hn (t := 1) (by omega)
    obtain ⟨g2, c2, R2⟩ := row_of hH hT hn (t := 2) (by omega)
    obtain ⟨g3, c3, R3⟩ := row_of hH hT hn (t := 3) (by omega)
    obtain ⟨g4, c4, R4⟩ := row_of hH hT hn (t := 4) (by omega)
    obtain ⟨g5, c5, R5⟩ := row_of hH hT hn (t := 5) (by omega)
    obtain ⟨g6, c6, R6⟩ := row_of hH hT hn (t := 6) (by omega)
    obtain ⟨g7, c7, R7⟩ := row_of hH hT hn (t := 7) (by omega)
    refine wp_seq (p19 z1 z2 y0 y1 y5 y6 y7 y8 y9 y10 y11 y12 y17 y18 fun a2 z1 z2 y0 y1 y5 y6 y7 y8 y9 y10 y11 y12 y17 => ?_)
    refine wp_seq (wp_seq (p21 z1 z2 y0 y1 y5 y6 y7 y8 y9 y10 y11 y12 y17 fun a3 z1 z2 y0 y1 y5 y6 y7 y8 y9 y10 y11 y12 y17 y19 => wp_block ?_))
    have C : CB W wB ⟨mb, mo, n, mc, la, m, lc, g0, g1, g3, g4, g5, g6, g7, c0, c1, c3, c4, c5, c6, c7, w1.heap.size, wr.heap.size⟩ (EE e wr.heap.size) F L V Kd A g2 c2 :=
      ⟨hn, hn2, hm2, hL, hH.mid.below.trans (hT.below.mono hH.mid.below.size), low_start hH, tab_start hH hT R2, ⟨R0.cell, R0.ne⟩, ⟨R1.cell, R1.ne⟩, ⟨R3.cell, R3.ne⟩, ⟨R4.cell, R4.ne⟩, ⟨R5.cell, R5.ne⟩, ⟨R6.cell, R6.ne⟩, ⟨R7.cell, R7.ne⟩⟩
    refine loopB C (fun aB wb hFB hSB => ?_) ⟨0, Nat.zero_le _, ⟨z1, z2, y0, y1, y5.trans R3.eq, y6.trans R4.eq, y7.trans R0.eq, y8.trans R1.eq, y9, y10.trans R5.eq, y11.trans R6.eq, y12.trans R7.eq, y17⟩, y19, _, fun j hj => ⟨rfl, rfl, rfl, rfl, Nat.le_refl _⟩, st_start hH hT⟩
    exact endB C hFB hSB
  · unfold HA
    rw [y5, y6, y7, y8, y10, y11, y12]
    exact ⟨_, _, fun _ => .slice none 0 0, _, rfl, rfl, rfl, rfl, rfl, rfl, rfl, head_start W w1 hW1 F L V⟩
theorem wShort (W : World) (oa : Option Addr) (n oc : Nat) (la : Option Addr) (m lc : Nat) (h : 30 < n ∨ 500 < m ∨ n = 0) {a : Act} (hs : a.tmps.size = 369) (hd : a.defers = []) (h0 : a.eval (.tmp 0) = .slice oa n oc) (h1 : a.eval (.tmp 1) = .slice la m lc) :
    (Try.f3.body.getD .skip).wp Try.prog (bodyPost Try.prog Try.f3 fun e w' => e = .returned (.bool true) ∧ Below W.heap.size W w') a W := by
  rw [hlaw]
  refine wp_seq (p0 hs hd h0 h1 fun a1 z1 z2 y0 y1 => ?_)
  refine wp_seq (p1 z1 z2 y0 y1 fun a2 w1 z1 z2 y0 y1 hW1 => wp_seq ?_)
  by_cases c1 : 30 < n
  · exact p3a z1 z2 y0 y1 c1 fun a3 z1 z2 y4 => ret4 z1 z2 y4 ⟨rfl, hW1⟩
  · by_cases c2 : 500 < m
    · exact p3b z1 z2 y0 y1 (by omega) c2 fun a3 z1 z2 y4 => ret4 z1 z2 y4 ⟨rfl, hW1⟩
    · exact p3c z1 z2 y0 y1 (by omega) (by omega) fun a3 z1 z2 y4 => ret4 z1 z2 y4 ⟨rfl, hW1⟩
end Go.Proofs.Ytogcjdbggihbpaa
