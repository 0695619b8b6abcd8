/- The law's first loop: what is laid for each maker. -/
import Derived.Test.YtogcjdbggihbpaaStA
namespace Go.Proofs.Ytogcjdbggihbpaa
open Go.RowKit Go.Conc Go.MuLone
def HA (W : World) (B : PA) (F : Nat → Int) (L : Nat → Bool) (V : Nat → Int) (k : Nat) (a : Act) (w : World) : Prop :=
  HeadAt W B.z w k F L V (a.eval (.tmp 5)) (a.eval (.tmp 6)) (a.eval (.tmp 7)) (a.eval (.tmp 8)) (a.eval (.tmp 10)) (a.eval (.tmp 11)) (a.eval (.tmp 12))
def IA (W : World) (B : PA) (F : Nat → Int) (L : Nat → Bool) (V : Nat → Int) (a : Act) (w : World) : Prop :=
  ∃ k : Nat, k ≤ B.n ∧ FA B a ∧ a.eval (.tmp 13) = .int .i64 k ∧ HA W B F L V k a w
def muA (B : PA) (a : Act) (_ : World) : Nat := B.n - (intOf (a.eval (.tmp 13))).toNat
theorem hpA : atc Try.f3.body pA = .seq (atc Try.f3.body (pA ++ [0])) (.seq (.block 1 (atc Try.f3.body (pA ++ [1, 0, 0]))) (atc Try.f3.body (pA ++ [1, 1]))) := by kernel_rfl
theorem hc1 : atc Try.f3.body (pA ++ [1, 0, 0]) = .seq (atc Try.f3.body (pA ++ [1, 0, 0, 0])) (.seq (.region 13 (opsOf 13 Try.f3.body) true) (atc Try.f3.body (pA ++ [1, 0, 0, 1, 1]))) := by kernel_rfl
theorem wp_last {P : Program} {c : Code} {Q : Exit → Act → World → Prop} {a : Act} {w : World} (h : c.wp P (Exit.then (Q .normal) Q) a w) : c.wp P Q a w :=
  wp_mono h (fun e a w h => by cases e <;> exact h)
theorem ev_of_off {a a' : Act} {D : List Nat} (h : ∀ s, s ∉ D → a'.tmps[s]? = a.tmps[s]?) {s : Nat} (hs : s ∉ D) : a'.eval (.tmp s) = a.eval (.tmp s) := by
  simp only [Act.eval, Array.getD_eq_getD_getElem?, h s hs]
section
variable {W : World} {B : PA} {F : Nat → Int} {L : Nat → Bool} {V : Nat → Int}
theorem roundA (hn : B.n ≤ 30) (hM : ∀ k, k < B.n → W.cell? ⟨B.mb, B.mo + k * 3, none⟩ = some (.int .i64 (F k)) ∧ W.cell? ⟨B.mb, B.mo + k * 3 + 1, none⟩ = some (.bool (L k)) ∧ W.cell? ⟨B.mb, B.mo + k * 3 + 2, none⟩ = some (.int .i64 (V k)))
    {Q : Exit → Act → World → Prop} (hexit : ∀ a w, FA B a → HA W B F L V B.n a w → Q (.exit 0) a w) (a : Act) (w : World) (hI : IA W B F L V a w) :
    (atc Try.f3.body pA).wp Try.prog (Exit.then (fun a' w' => IA W B F L V a' w' ∧ muA B a' w' < muA B a w) Q) a w := by
  obtain ⟨k, hkn, hF, e13, hH⟩ := hI
  have hn0 : muA B a w = B.n - k := by unfold muA; rw [e13]; simp [intOf]
  rw [hn0, hpA]
  by_cases hk : k < B.n
  · obtain ⟨e, ob, vs, xs, h7, h8, h5, h6, h10, h11, h12, hH⟩ := hH
    obtain ⟨m1, m2, m3⟩ := hM k hk
    have hbW : B.mb < W.heap.size := World.block_lt_of_cell? W _ m1
    have hB := hH.mid.below
    have HK3 : Hid (∀ wx : World, Below W.heap.size W wx → wx.cell? ⟨B.mb, B.mo + k * 3, none⟩ = some (.int .i64 (F k)) ∧ wx.cell? ⟨B.mb, B.mo + k * 3 + 1, none⟩ = some (.bool (L k)) ∧ wx.cell? ⟨B.mb, B.mo + k * 3 + 2, none⟩ = some (.int .i64 (V k))) :=
      fun wx h => ⟨(h.cell (p := ⟨B.mb, B.mo + k * 3, none⟩) hbW).trans m1, (h.cell (p := ⟨B.mb, B.mo + k * 3 + 1, none⟩) hbW).trans m2, (h.cell (p := ⟨B.mb, B.mo + k * 3 + 2, none⟩) hbW).trans m3⟩
    obtain ⟨d1, d2, d3⟩ := HK3.out w hB
    refine wp_seq (a10lt hF h5.symm h6.symm h7.symm h8.symm h10.symm h11.symm h12.symm e13 hk fun a1 F1 x5 x6 x7 x8 x10 x11 x12 x13 => ?_)
    refine wp_seq (wp_block ?_)
    rw [hc1]
    refine wp_seq (a12 F1 x5 x6 x7 x8 x10 x11 x12 x13 hk d1 d2 d3 (Nat.lt_of_lt_of_le hbW hB.size) hH.mid fun a2 w2 s14 s15 s16 F2 y5 y6 y7 y8 y10 y11 y12 y13 y14 y15 y16 hP3 => ?_)
    obtain ⟨x, y, t, e14, e15, e16, hM3⟩ := hP3
    refine wp_seq (reg13 (p := ⟨W, B.z, k, w2.heap.size, e, ob, upd (upd (upd (fun s => e s k) 0 x) 1 y) 2 t, upd (upd (upd (fun s => ob s k) 0 (oneObj (F k) (L k) (V k) 0)) 1 (oneObj (F k) (L k) (V k) 0)) 2 (oneObj (F k) (L k) (V k) 0), vs, xs, x, y, t, a2⟩)
      F2.size y7 y8 F2.s9 (y14.trans e14) (y15.trans e15) (y16.trans e16) (show k ≤ 1000 by omega) (hH.len (by omega)) (hH.len (by omega)) (hH.len (by omega)) rfl hM3 fun a3 w3 g1 g2 g3 hP => ?_)
    have g3' : ∀ s, s ∉ D13 → a3.eval (.tmp s) = a2.eval (.tmp s) := fun s hs => ev_of_off g3 hs
    have F3 : FA B a3 := ⟨g1.trans F2.size, g2.trans F2.defers, (g3' 0 (by decide)).trans F2.s0, (g3' 1 (by decide)).trans F2.s1, (g3' 9 (by decide)).trans F2.s9⟩
    refine wp_last (a14 F3 ((g3' 5 (by decide)).trans y5) ((g3' 6 (by decide)).trans y6) rfl rfl ((g3' 10 (by decide)).trans y10) ((g3' 11 (by decide)).trans y11) ((g3' 12 (by decide)).trans y12) ((g3' 13 (by decide)).trans y13)
      ((g3' 14 (by decide)).trans (y14.trans e14)) ((g3' 15 (by decide)).trans (y15.trans e15)) hk hn hH hP HK3 fun a4 w4 n5 n6 n10 n11 n12 F4 z5 z6 z7 z8 z10 z11 z12 z13 hHead => ?_)
    refine a11 F4 z5 z6 z7 z8 z10 z11 z12 z13 (by omega) fun a5 F5 t5 t6 t7 t8 t10 t11 t12 t13 => ⟨⟨k + 1, by omega, F5, t13, ?_⟩, ?_⟩
    · unfold HA; rw [t5, t6, t7, t8, t10, t11, t12]; exact hHead
    · unfold muA; rw [t13]; simp only [intOf]; omega
  · have : k = B.n := by omega
    subst this
    refine wp_seq (a10ge hF rfl rfl rfl rfl rfl rfl rfl e13 (by omega) fun a1 F1 x5 x6 x7 x8 x10 x11 x12 => hexit a1 w F1 ?_)
    unfold HA; rw [x5, x6, x7, x8, x10, x11, x12]; exact hH
theorem loopA (hn : B.n ≤ 30) (hM : ∀ k, k < B.n → W.cell? ⟨B.mb, B.mo + k * 3, none⟩ = some (.int .i64 (F k)) ∧ W.cell? ⟨B.mb, B.mo + k * 3 + 1, none⟩ = some (.bool (L k)) ∧ W.cell? ⟨B.mb, B.mo + k * 3 + 2, none⟩ = some (.int .i64 (V k)))
    {Q : Exit → Act → World → Prop} (hexit : ∀ a w, FA B a → HA W B F L V B.n a w → Q (.exit 0) a w) {a : Act} {w : World} (hI : IA W B F L V a w) : (Code.loop (atc Try.f3.body pA)).wp Try.prog Q a w :=
  wp_loop (IA W B F L V) (muA B) hI (roundA hn hM hexit)
end
end Go.Proofs.Ytogcjdbggihbpaa
