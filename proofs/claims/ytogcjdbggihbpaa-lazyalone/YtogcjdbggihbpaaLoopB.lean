/- The law's second loop: every call, as the document's. -/
import Derived.Test.YtogcjdbggihbpaaStB
namespace Go.Proofs.Ytogcjdbggihbpaa
open Go.RowKit Go.Conc Go.MuLone
/-- A row of pointers that nothing turns. -/
structure RowAt (wB : World) (E : Nat → Nat → Nat) (n g s : Nat) : Prop where
  cell : ∀ j, j < n → wB.cell? ⟨g, j, none⟩ = some (ptr (E s j))
  ne : ∀ s' k, s' < 12 → k < n → g ≠ E s' k
/-- What the second loop stands on. -/
structure CB (W wB : World) (B : PB) (E : Nat → Nat → Nat) (F : Nat → Int) (L : Nat → Bool) (V Kd A : Nat → Int) (g2 c2 : Nat) : Prop where
  hk : 1 ≤ B.k
  hk2 : B.k ≤ 30
  hm : B.m ≤ 500
  hL : 0 < B.m → ∃ lb lo, B.la = some ⟨lb, lo, none⟩ ∧ ∀ q, q < B.m → W.cell? ⟨lb, lo + q * 5, none⟩ = some (.int .i64 (Kd q)) ∧ W.cell? ⟨lb, lo + q * 5 + 1, none⟩ = some (.int .i64 (A q))
  bel : Below W.heap.size W wB
  low : ∀ s k, s < 12 → k < B.k → W.heap.size ≤ E s k
  tab : Tab wB B.k B.N B.z g2 c2 E
  r0 : RowAt wB E B.k B.g0 0
  r1 : RowAt wB E B.k B.g1 1
  r3 : RowAt wB E B.k B.g3 4
  r4 : RowAt wB E B.k B.g4 6
  r5 : RowAt wB E B.k B.g5 7
  r6 : RowAt wB E B.k B.g6 8
  r7 : RowAt wB E B.k B.g7 9
def SB (wB : World) (B : PB) (E : Nat → Nat → Nat) (F : Nat → Int) (L : Nat → Bool) (V : Nat → Int) (q : Nat) (w : World) : Prop := ∃ σ, (∀ j, j < B.k → Good (σ j) q) ∧ St wB w B.k B.N E F L V σ
def IB (wB : World) (B : PB) (E : Nat → Nat → Nat) (F : Nat → Int) (L : Nat → Bool) (V : Nat → Int) (a : Act) (w : World) : Prop :=
  ∃ q : Nat, q ≤ B.m ∧ FB B a ∧ a.eval (.tmp 19) = .int .i64 q ∧ SB wB B E F L V q w
def muB (B : PB) (a : Act) (_ : World) : Nat := B.m - (intOf (a.eval (.tmp 19))).toNat
theorem FB.of_off {B : PB} {a a' : Act} (h : FB B a) (hs : a'.tmps.size = a.tmps.size) (hd : a'.defers = a.defers) (ho : ∀ s, s < 224 ∨ 224 + 89 ≤ s → a'.tmps[s]? = a.tmps[s]?) : FB B a' := by
  have ev : ∀ s, s < 224 → a'.eval (.tmp s) = a.eval (.tmp s) := fun s hs => by
    simp only [Act.eval, Array.getD_eq_getD_getElem?, ho s (.inl hs)]
  exact ⟨hs.trans h.size, hd.trans h.defers, (ev 0 (by decide)).trans h.s0, (ev 1 (by decide)).trans h.s1, (ev 5 (by decide)).trans h.s5, (ev 6 (by decide)).trans h.s6, (ev 7 (by decide)).trans h.s7, (ev 8 (by decide)).trans h.s8, (ev 9 (by decide)).trans h.s9, (ev 10 (by decide)).trans h.s10, (ev 11 (by decide)).trans h.s11, (ev 12 (by decide)).trans h.s12, (ev 17 (by decide)).trans h.s17⟩
theorem hpB : atc Try.f3.body pB = .seq (atc Try.f3.body (pB ++ [0])) (.seq (.block 3 (atc Try.f3.body (pB ++ [1, 0, 0]))) (atc Try.f3.body (pB ++ [1, 1]))) := by kernel_rfl
theorem hc3 : atc Try.f3.body (pB ++ [1, 0, 0]) = .seq (atc Try.f3.body (pB ++ [1, 0, 0, 0])) (.seq (atc Try.f3.body (pB ++ [1, 0, 0, 1, 0])) (.seq (atc Try.f3.body (pB ++ [1, 0, 0, 1, 1, 0])) (.seq (atc Try.f3.body (pB ++ [1, 0, 0, 1, 1, 1, 0])) (.seq (atc Try.f3.body (pB ++ [1, 0, 0, 1, 1, 1, 1, 0]))
    (.seq (.seq (atc Try.f3.body (pB ++ [1, 0, 0, 1, 1, 1, 1, 1, 0, 0])) (atc Try.f3.body (pB ++ [1, 0, 0, 1, 1, 1, 1, 1, 0, 1]))) (.seq (.region 41 (opsOf 41 Try.f3.body) true) (.cond (.tmp 312) (atc Try.f3.body (pB ++ [1, 0, 0, 1, 1, 1, 1, 1, 1, 1, 0])) .skip))))))) := by kernel_rfl
section
variable {W wB : World} {B : PB} {E : Nat → Nat → Nat} {F : Nat → Int} {L : Nat → Bool} {V Kd A : Nat → Int} {g2 c2 : Nat}
theorem RowAt.at {n g s : Nat} (h : RowAt wB E n g s) {w : World} {N : Nat} {σ : Nat → Sta} (hS : St wB w n N E F L V σ) {j : Nat} (hj : j < n) : w.cell? ⟨g, j, none⟩ = some (ptr (E s j)) := hS.cell (h.cell j hj) h.ne
theorem f41 (C : CB W wB B E F L V Kd A g2 c2) {w : World} {σ : Nat → Sta} {j q : Nat} (hj : j < B.k) (hG : Good (σ j) q) (hS : St wB w B.k B.N E F L V σ) {a : Act} (hF : FB B a) {v f : Int} (e20 : a.eval (.tmp 20) = .int .i64 j) (e21 : a.eval (.tmp 21) = .int .i64 v) (e22 : a.eval (.tmp 22) = .int .i64 f) (e23 : a.eval (.tmp 23) = .int .i64 v) (e24 : a.eval (.tmp 24) = .int .i64 f) :
    F41 ⟨v, f, j, B.k, B.g0, B.g1, g2, B.g3, B.g4, B.g5, B.g6, B.g7, B.c0, B.c1, c2, B.c3, B.c4, B.c5, B.c6, B.c7, B.z, E 0 j, E 1 j, E 2 j, E 4 j, E 6 j, E 7 j, E 8 j, E 9 j, (σ j).q && decide (F j < 1), (σ j).d, bN (σ j).q, (σ j).j, bN (σ j).t⟩ a w := by
  have hRd := reads' hS hj hG
  exact ⟨hj, hF.s5, hF.s6, hF.s7, hF.s8, hF.s9, hF.s10, hF.s11, hF.s12, e20, e21, e22, e23, e24, C.r3.at hS hj, C.r4.at hS hj, C.r5.at hS hj, C.r6.at hS hj, C.r7.at hS hj, C.r0.at hS hj, C.r1.at hS hj,
    hS.cell (C.tab.third j hj) (fun s k' hs hk => (C.tab.nN s k' hs hk).2.2.2.2), hS.cell C.tab.box (fun s k' hs hk => (C.tab.nN s k' hs hk).2.2.2.1), hRd.a5, hRd.b5, hRd.x3, hRd.a4, hRd.y3, hRd.b4, hRd.z3, hRd.c4, hRd.done, hRd.rdone⟩
/-- The comparison, and the round's end. -/
theorem tailB (C : CB W wB B E F L V Kd A g2 c2) {w : World} {a : Act} {Q : Exit → Act → World → Prop} {q j n0 : Nat} (hq : q < B.m) (hn0 : n0 = B.m - q) (hj : j < B.k) (hF : FB B a) (e19 : a.eval (.tmp 19) = .int .i64 q) (e20 : a.eval (.tmp 20) = .int .i64 j) {v f : Int} (e21 : a.eval (.tmp 21) = .int .i64 v) (e22 : a.eval (.tmp 22) = .int .i64 f) (e23 : a.eval (.tmp 23) = .int .i64 v) (e24 : a.eval (.tmp 24) = .int .i64 f)
    (hS : SB wB B E F L V (q + 1) w) :
    (Code.seq (.region 41 (opsOf 41 Try.f3.body) true) (.cond (.tmp 312) (atc Try.f3.body (pB ++ [1, 0, 0, 1, 1, 1, 1, 1, 1, 1, 0])) .skip)).wp Try.prog (Exit.inBlock 3 (Exit.then ((atc Try.f3.body (pB ++ [1, 1])).wp Try.prog (Exit.then (fun a' w' => IB wB B E F L V a' w' ∧ muB B a' w' < n0) Q)) (Exit.then (fun a' w' => IB wB B E F L V a' w' ∧ muB B a' w' < n0) Q))) a w := by
  obtain ⟨σ, hG, hS⟩ := hS
  have hm := C.hm
  refine wp_seq (reg41 (by rw [hF.size]; omega) (f41 C hj (hG j hj) hS.drew hF e20 e21 e22 e23 e24) fun a' h1 h2 h3 h4 => ?_)
  refine wp_cond_false h4 (wp_skip ?_)
  have hF' := hF.of_off h1 h2 h3
  have e19' : a'.eval (.tmp 19) = .int .i64 q := by
    rw [← e19]; simp only [Act.eval, Array.getD_eq_getD_getElem?, h3 19 (.inl (by omega))]
  refine s23 hF' e19' (by omega) fun a2 F2 e2 => ⟨⟨q + 1, by omega, F2, e2, σ, hG, hS.drew⟩, ?_⟩
  unfold muB
  rw [e2, hn0]
  simp only [intOf]
  omega
theorem roundB (C : CB W wB B E F L V Kd A g2 c2) {Q : Exit → Act → World → Prop} (hexit : ∀ a w, FB B a → SB wB B E F L V B.m w → Q (.exit 2) a w) (a : Act) (w : World) (hI : IB wB B E F L V a w) :
    (atc Try.f3.body pB).wp Try.prog (Exit.then (fun a' w' => IB wB B E F L V a' w' ∧ muB B a' w' < muB B a w) Q) a w := by
  obtain ⟨q, hqm, hF, e19, hS⟩ := hI
  have hn0 : muB B a w = B.m - q := by unfold muB; rw [e19]; simp [intOf]
  rw [hn0]
  rw [hpB]
  by_cases hq : q < B.m
  · obtain ⟨σ, hG, hSt⟩ := hS
    obtain ⟨lb, lo, hla, hcl⟩ := C.hL (by omega)
    obtain ⟨n1, n2⟩ := hcl q hq
    have hBr := hSt.below C.bel C.low
    have hlb : lb < W.heap.size := World.block_lt_of_cell? W _ n1
    have f1 := (hBr.cell (p := ⟨lb, lo + q * 5, none⟩) hlb).trans n1
    have f2 := (hBr.cell (p := ⟨lb, lo + q * 5 + 1, none⟩) hlb).trans n2
    obtain ⟨j, hj, hr⟩ := idx (A q) B.k C.hk
    have hk2 := C.hk2
    have hm := C.hm
    refine wp_seq (s22lt hF e19 hq fun a1 F1 x1 => ?_)
    refine wp_seq (wp_block ?_)
    rw [hc3]
    refine wp_seq (s24 F1 x1 hq hla C.hk hk2 f2 fun a2 F2 x2 y2 => ?_)
    refine wp_seq (s25 F2 x2 y2 hr hk2 (by omega) fun a3 F3 x3 y3 => ?_)
    refine wp_seq (s27 F3 x3 y3 hj (C.r3.at hSt hj) (C.r4.at hSt hj) fun a4 F4 x4 y4 => ?_)
    refine wp_seq (s29 F4 x4 y4 fun a5 F5 x5 y5 z1 z2 => ?_)
    refine wp_seq (s30 F5 x5 y5 z1 z2 fun a6 F6 x6 y6 z1 z2 z3 z4 => ?_)
    refine wp_seq (wp_seq (s31 F6 x6 y6 z1 z2 z3 z4 hq hla f1 fun a7 F7 x7 y7 z1 z2 z3 z4 z5 => ?_))
    by_cases k1 : Kd q = 1
    · rw [k1] at z5
      refine sw1 (e2 := E 7 j) (v := oV (out (F j) (L j) (V j) 1)) (f := oE (out (F j) (L j) (V j) 1)) F7 x7 y7 z1 z2 z3 z4 z5 hj (C.r3.at hSt hj) ((pair1 hSt hj (hG j hj)).mono ?_) fun a8 w8 F8 x8 y8 t1 t2 t3 t4 hR => tailB C hq rfl hj F8 x8 y8 t1 t2 t3 t4 hR
      rintro e' w' ⟨rfl, hP⟩
      refine ⟨rfl, hP.out.1 _ _ (C.r5.cell j hj) C.r5.ne, hP.out.2.mono ?_⟩
      rintro e' w2 ⟨rfl, τ, hgτ, hSτ⟩
      exact ⟨rfl, _, good_upd hG hgτ, hSτ⟩
    · by_cases k2 : Kd q = 2
      · rw [k2] at z5
        refine sw2 (e2 := E 8 j) (v := oV (rO (σ j).d (F j) (L j) (V j) (σ j).j)) (f := oE (rO (σ j).d (F j) (L j) (V j) (σ j).j)) F7 x7 y7 z1 z2 z3 z4 z5 hj (C.r4.at hSt hj) ((pair2 hSt hj (hG j hj) (by omega)).mono ?_) fun a8 w8 F8 x8 y8 t1 t2 t3 t4 hR => tailB C hq rfl hj F8 x8 y8 t1 t2 t3 t4 hR
        rintro e' w' ⟨rfl, hP⟩
        refine ⟨rfl, hP.out.1 _ _ (C.r6.cell j hj) C.r6.ne, hP.out.2.mono ?_⟩
        rintro e' w2 ⟨rfl, τ, hgτ, hSτ⟩
        exact ⟨rfl, _, good_upd hG hgτ, hSτ⟩
      · by_cases k3 : Kd q = 3
        · rw [k3] at z5
          refine sw3 (e2 := E 9 j) (v := oV (out (F j) (L j) (V j) 1)) (f := oE (out (F j) (L j) (V j) 1)) F7 x7 y7 z1 z2 z3 z4 z5 hj ((pair3 C.tab hSt hj (hG j hj)).mono ?_) fun a8 w8 F8 x8 y8 t1 t2 t3 t4 hR => tailB C hq rfl hj F8 x8 y8 t1 t2 t3 t4 hR
          rintro e' w' ⟨rfl, hP⟩
          refine ⟨rfl, hP.out.1 _ _ (C.r7.cell j hj) C.r7.ne, hP.out.2.mono ?_⟩
          rintro e' w2 ⟨rfl, τ, hgτ, hSτ⟩
          exact ⟨rfl, _, good_upd hG hgτ, hSτ⟩
        · exact sw0 F7 x7 y7 z1 z2 z3 z4 z5 k1 k2 k3 fun a8 F8 x8 y8 t1 t2 t3 t4 => tailB C hq rfl hj F8 x8 y8 t1 t2 t3 t4 ⟨σ, fun j' hj' => (hG j' hj').up, hSt⟩
  · have : q = B.m := by omega
    subst this
    exact wp_seq (s22ge hF e19 (by omega) fun a1 F1 => hexit a1 w F1 hS)
theorem loopB (C : CB W wB B E F L V Kd A g2 c2) {Q : Exit → Act → World → Prop} (hexit : ∀ a w, FB B a → SB wB B E F L V B.m w → Q (.exit 2) a w) {a : Act} {w : World} (hI : IB wB B E F L V a w) : (Code.loop (atc Try.f3.body pB)).wp Try.prog Q a w :=
  wp_loop (IB wB B E F L V) (muB B) hI (roundB C hexit)
end
end Go.Proofs.Ytogcjdbggihbpaa
