/- A list of kind Ints is written full. -/
import Derived.Test.YtjbhnpofdafmbaaGreatDoorJ17
import Derived.Test.YtjbhnpofdafmbaaGreatDoorJ15
import Derived.Test.YtjbhnpofdafmbaaGreatDoorJ13
namespace Go.Proofs.YtjbhnpofdafmbaaGreatDoor
open Go.RowKit
set_option maxRecDepth 100000 in
set_option maxHeartbeats 1600000 in
theorem markInts_r20 {K : Act → World → Prop} {Q : Exit → Act → World → Prop} {a : Act} {w : World} {g n cap i : Nat} {mark : Int} {zs : List Int} (hs : a.tmps.size = 188) (hd : a.defers = []) (x7 : a.eval (.tmp 7) = .slice (some ⟨g, 0, none⟩) n cap) (x8 : a.eval (.tmp 8) = vi mark) (x9 : a.eval (.tmp 9) = vi (i : Nat)) (hmk : small mark) (hi : i < n) (hn : n ≤ 4500) (hl : IRow w 3 1 (.slice (some ⟨g, 0, none⟩) n cap) n zs)
    (hEnd : ∀ a' zs', a'.tmps.size = a.tmps.size → a'.defers = a.defers → (∀ s : Nat, s < 10 → a'.eval (.tmp s) = a.eval (.tmp s)) → IRow (w.setCell ⟨g, i, none⟩ (.int .i64 (mark + 3 * (i : Int)))) 3 1 (.slice (some ⟨g, 0, none⟩) n cap) n zs' → K a' (w.setCell ⟨g, i, none⟩ (.int .i64 (mark + 3 * (i : Int))))) :
    (Code.region 20 (opsOf 20 Tryz.f139.body) false).wp Tryz.prog (Exit.then K Q) a w := by
  obtain ⟨cc, rfl, hcc⟩ := expand188 hs hd
  have y7 : cc 7 = .slice (some ⟨g, 0, none⟩) n cap := (hcc 7).trans x7
  have y8 : cc 8 = .int .i64 mark := (hcc 8).trans x8
  have y9 : cc 9 = .int .i64 (i : Nat) := (hcc 9).trans x9
  have HE : Hid _ := hEnd
  have hm0 := hmk.1
  have hm1 := hmk.2
  have c0 : w.cell? ⟨g, i, none⟩ = some (.int .i64 (zs.getD (i) 0)) := IRow.cell hl (j := i) (by omega)
  have z := World.ownsRow.frozenAt hl
  have hgl : g < w.heap.size := (hl.lt g rfl).2
  have r0 := row_set hl (i) (mark + 3 * (i : Int))
  have HR : Hid _ := r0
  clear r0
  clear hEnd hcc hs hd x7 x8 x9 hl hmk
  have hlt : (i : Int) < (n : Int) := by omega
  conv => arg 2; whnf
  unfold lit188 at *
  simp only [y7, y8, y9] at *
  go_wp2
  show K _ _
  refine HE.out _ _ rfl rfl (fun s hs => ?_) HR.out
  match s, hs with
  | 0, _ => rfl
  | 1, _ => rfl
  | 2, _ => rfl
  | 3, _ => rfl
  | 4, _ => rfl
  | 5, _ => rfl
  | 6, _ => rfl
  | 7, _ => rfl
  | 8, _ => rfl
  | 9, _ => rfl
  | n + 10, hs => exact absurd hs (by simp)
/-- The list is written full. -/
theorem markInts_inner {K : Act → World → Prop} {Q : Exit → Act → World → Prop} {a : Act} {w : World} {l : Value} {n : Nat} {mark : Int} {zs : List Int} (hs : a.tmps.size = 188) (hd : a.defers = []) (x7 : a.eval (.tmp 7) = l) (x8 : a.eval (.tmp 8) = vi mark) (hmk : small mark) (hn : n ≤ 4500) (hl : IRow w 3 1 l n zs)
    (hEnd : ∀ a' w' zs', a'.tmps.size = a.tmps.size → a'.defers = a.defers → (∀ s : Nat, s < 9 → a'.eval (.tmp s) = a.eval (.tmp s)) → IRow w' 3 1 l n zs' → Turned l.ownBlock.toList w w' → K a' w') :
    ((Code.region 17 (opsOf 17 Tryz.f139.body) false).seq (Code.block 2 (Code.loop (((Code.region 18 (opsOf 18 Tryz.f139.body) false).seq (Code.cond (.tmp 136) .skip (.exit 2))).seq ((Code.block 3 (Code.region 20 (opsOf 20 Tryz.f139.body) false)).seq (Code.region 19 (opsOf 19 Tryz.f139.body) false)))))).wp Tryz.prog (Exit.then K Q) a w := by
  obtain ⟨la, lc, rfl⟩ := Row.shape hl
  refine wp_seq ?_
  refine markInts_r17 hs ?_
  intro a1 s1 d1 k1 e9
  refine wp_block ?_
  refine wp_loop (fun a' w' => ∃ (i : Nat) (zs' : List Int), i ≤ n ∧ a'.tmps.size = 188 ∧ a'.defers = [] ∧ (∀ s : Nat, s < 9 → a'.eval (.tmp s) = a.eval (.tmp s)) ∧ a'.eval (.tmp 9) = vi (i : Nat) ∧ IRow w' 3 1 (.slice la n lc) n zs' ∧ Turned (Value.slice la n lc).ownBlock.toList w w') (fun a' _ => n - (intOf (a'.eval (.tmp 9))).toNat) ?_ ?_
  · exact ⟨0, zs, Nat.zero_le _, s1.trans hs, d1.trans hd, fun s h => k1 s (by omega) (by omega), e9, hl, Turned.refl _ _⟩
  · rintro a2 w2 ⟨i, zs2, hi, hs2, hd2, hk2, x9, hr2, hS2⟩
    have x72 : a2.eval (.tmp 7) = .slice la n lc := (hk2 7 (by omega)).trans x7
    have x82 : a2.eval (.tmp 8) = vi mark := (hk2 8 (by omega)).trans x8
    refine wp_seq ?_
    refine wp_seq ?_
    refine markInts_r18 hs2 x9 x72 ?_
    intro a3 s3 d3 k3 e3
    by_cases hlt : i < n
    · refine wp_cond_true (e3.trans (by simp; omega)) ?_
      refine wp_skip ?_
      obtain ⟨g, cap, cur, e, hg, -⟩ := Row.form hr2 (by omega)
      simp only [Value.slice.injEq, true_and] at e
      obtain ⟨rfl, rfl⟩ := e
      refine wp_seq ?_
      refine wp_block ?_
      refine wp_fall ?_
      refine markInts_r20 (s3.trans hs2) (d3.trans hd2) ((k3 7 (by omega)).trans x72) ((k3 8 (by omega)).trans x82) ((k3 9 (by omega)).trans x9) hmk hlt hn hr2 ?_
      intro a4 zs4 s4 d4 k4 hr4
      show (Code.region 19 (opsOf 19 Tryz.f139.body) false).wp _ _ _ _
      refine markInts_r19 (k := i) (s4.trans (s3.trans hs2)) (d4.trans (d3.trans hd2)) ((k4 9 (by omega)).trans ((k3 9 (by omega)).trans x9)) (by omega) ?_
      intro a5 s5 d5 k5 e5
      refine ⟨⟨i + 1, zs4, by omega, s5.trans (s4.trans (s3.trans hs2)), d5.trans (d4.trans (d3.trans hd2)), fun s h => (k5 s (by omega) (by omega)).trans ((k4 s (by omega)).trans ((k3 s (by omega)).trans (hk2 s h))), e5, hr4, hS2.trans ?_⟩, ?_⟩
      · exact ((Turned.refl _ w2).set (.inl (by simp [Value.ownBlock])) _ _)
      · rw [e5, x9]
        simp [intOf]
        omega
    · have : i = n := by omega
      subst this
      refine wp_cond_false (e3.trans (by simp)) ?_
      refine wp_exit ?_
      exact hEnd a3 w2 zs2 (s3.trans (hs2.trans hs.symm)) (d3.trans (hd2.trans hd.symm)) (fun s h => (k3 s (by omega)).trans (hk2 s h)) hr2 hS2
end Go.Proofs.YtjbhnpofdafmbaaGreatDoor
/- The two ways of a round of the book's mark (kind Ints). -/
namespace Go.Proofs.YtjbhnpofdafmbaaGreatDoor
open Go.RowKit
set_option maxHeartbeats 1600000 in
/-- A list that isn't due waits on. -/
theorem markInts_kept {Q : Exit → Act → World → Prop} {a : Act} {w w0 : World} {bb : Nat} {C C0 : Own} {f f0 : Nat → Value} {ot ot' : List Ot} {kept wn : List Wt} {fr : List Fh} {Wv Nv Mv Dv : Value} {j : Nat} {q : Wt} (hs : a.tmps.size = 188) (hd : a.defers = []) (x0 : a.eval (.tmp 0) = pv bb 0) (x3 : a.eval (.tmp 3) = Nv) (x5 : a.eval (.tmp 5) = Dv) (x6 : a.eval (.tmp 6) = vi (j : Nat)) (x7 : a.eval (.tmp 7) = q.l) (x8 : a.eval (.tmp 8) = vi q.mark)
    (hq : wn[j]? = some q) (hwl : wn.length ≤ 100000) (hF : Fit C w bb) (hB : BK w bb f)
    (hO : KOut C w kcInts f ((ot ++ ot').map (·.o)) ((ot ++ ot').map (·.c)) (kept.map (·.l)) (kept.map (·.c)) (fr.map (·.l)) ((kept.map (·.mark)).map vi) ((kept.map (·.due)).map vi) ((fr.map (·.mark)).map vi))
    (hR : KRows C w kcInts (ot ++ ot') (kept ++ wn.drop j) fr) (hW : RowAt C w 1 .old 29 Wv (wn.map (·.l))) (hN : RowAt C w 1 .old 29 Nv (wn.map (·.c))) (hM : RowAt C w 1 .old 3 Mv ((wn.map (·.mark)).map vi)) (hD : RowAt C w 1 .old 3 Dv ((wn.map (·.due)).map vi))
    (hT : KFr 1 bb C0 w0 C w) (hf : ∀ i, i < 4 ∨ 12 ≤ i → f i = f0 i) (hlen : kept.length + fr.length = j) (hlo : ot'.length = fr.length)
    (hEnd : ∀ a' w', a'.tmps.size = 188 → a'.defers = [] → (∀ s : Nat, s < 10 → a'.eval (.tmp s) = a.eval (.tmp s)) → MarkAt kcInts bb C0 w0 f0 ot wn Wv Nv Mv Dv (j + 1) w' → Q (.exit 1) a' w') :
    ((Code.region 12 (opsOf 12 Tryz.f139.body) false).seq ((Code.region 13 (opsOf 13 Tryz.f139.body) true).seq ((Code.region 14 (opsOf 14 Tryz.f139.body) false).seq ((Code.region 15 (opsOf 15 Tryz.f139.body) true).seq (Code.exit 1))))).wp Tryz.prog Q a w := by
  obtain ⟨hjl, hqe⟩ := List.getElem?_eq_some_iff.1 hq
  have hdrop : wn.drop j = q :: wn.drop (j + 1) := by rw [← hqe]; exact List.drop_eq_getElem_cons hjl
  have hqm : q ∈ kept ++ wn.drop j := by rw [hdrop]; simp
  obtain ⟨p1, p2, p3, p4, p5, p6, p7⟩ := hR.pW q hqm
  have hkl : kept.length ≤ 100000 := by omega
  obtain ⟨gN, cN, cuN, eN, -, -⟩ := Row.form hN.1 (by simp; omega)
  obtain ⟨gD, cD, cuD, eD, -, -⟩ := Row.form hD.1 (by simp; omega)
  refine wp_seq ?_
  refine markInts_r12 hs x0 x7 (Row.slice p1) hF hB hO (by simp; omega) ?_
  intro a1 w1 C1 v1 s1 d1 k1 hF1 hS1 hB1 hO1
  have hN1 := hN.step hF hS1 (by simp) (by simp)
  have hD1 := hD.step hF hS1 (by simp) (by simp)
  have hW1 := hW.step hF hS1 (by simp) (by simp)
  have hM1 := hM.step hF hS1 (by simp) (by simp)
  have hR1 := hR.step hF hS1 (by simp) (by simp)
  have cN1 : w1.cell? ⟨gN, j, none⟩ = some q.c := by
    have h1 := hN1.1
    rw [eN] at h1
    have := World.ownsRow.cellAt (by simpa using h1) j (by simp; omega)
    rw [this]
    simp [hq]
  refine wp_seq ?_
  refine markInts_r13 (s1.trans hs) ((k1 0 (by omega)).trans x0) ((k1 3 (by omega)).trans (x3.trans eN)) ((k1 6 (by omega)).trans x6) (by simp; omega) cN1 (Row.slice p2) hF1 hB1 hO1 (by simp; omega) ?_
  intro a2 w2 C2 v2 s2 d2 k2 hF2 hS2 hB2 hO2
  have hN2 := hN1.step hF1 hS2 (by simp) (by simp)
  have hD2 := hD1.step hF1 hS2 (by simp) (by simp)
  have hW2 := hW1.step hF1 hS2 (by simp) (by simp)
  have hM2 := hM1.step hF1 hS2 (by simp) (by simp)
  have hR2 := hR1.step hF1 hS2 (by simp) (by simp)
  refine wp_seq ?_
  refine markInts_r14 (s2.trans (s1.trans hs)) ((k2 0 (by omega)).trans ((k1 0 (by omega)).trans x0)) ((k2 8 (by omega)).trans ((k1 8 (by omega)).trans x8)) hF2 hB2 hO2 (by simp; omega) ?_
  intro a3 w3 C3 v3 s3 d3 k3 hF3 hS3 hB3 hO3
  have hN3 := hN2.step hF2 hS3 (by simp) (by simp)
  have hD3 := hD2.step hF2 hS3 (by simp) (by simp)
  have hW3 := hW2.step hF2 hS3 (by simp) (by simp)
  have hM3 := hM2.step hF2 hS3 (by simp) (by simp)
  have hR3 := hR2.step hF2 hS3 (by simp) (by simp)
  have cD3 : w3.cell? ⟨gD, j, none⟩ = some (vi q.due) := by
    have h1 := hD3.1
    rw [eD] at h1
    have := World.ownsRow.cellAt (by simpa using h1) j (by simp; omega)
    rw [this]
    simp [hq]
  have kk : ∀ s : Nat, s < 10 → a3.eval (.tmp s) = a.eval (.tmp s) := fun s h => (k3 s h).trans ((k2 s h).trans (k1 s h))
  refine wp_seq ?_
  refine markInts_r15 (s3.trans (s2.trans (s1.trans hs))) ((kk 0 (by omega)).trans x0) ((kk 5 (by omega)).trans (x5.trans eD)) ((kk 6 (by omega)).trans x6) (by simp; omega) cD3 hF3 hB3 hO3 (by simp; omega) ?_
  intro a4 w4 C4 v4 s4 d4 k4 hF4 hS4 hB4 hO4
  have hN4 := hN3.step hF3 hS4 (by simp) (by simp)
  have hD4 := hD3.step hF3 hS4 (by simp) (by simp)
  have hW4 := hW3.step hF3 hS4 (by simp) (by simp)
  have hM4 := hM3.step hF3 hS4 (by simp) (by simp)
  have hR4 := hR3.step hF3 hS4 (by simp) (by simp)
  refine wp_exit ?_
  refine hEnd a4 w4 (s4.trans (s3.trans (s2.trans (s1.trans hs)))) (d4.trans (d3.trans (d2.trans (d1.trans hd)))) (fun s h => (k4 s h).trans (kk s h)) ?_
  have fT : ∀ {t : Tg} (x : Nat × Tg), x = (1, t) → x.1 = 1 := fun x h => by rw [h]
  refine ⟨C4, _, ot', kept ++ [q], fr, hF4, hB4, by simpa using hO4, ?_, hW4, hN4, hM4, hD4, (((hT.trans (KFr.of hS1 fT)).trans (KFr.of hS2 fT)).trans (KFr.of hS3 fT)).trans (KFr.of hS4 fT), ?_, by simp; omega, hlo⟩
  · rw [hdrop] at hR4
    simpa using hR4
  · intro i hi
    have hi' : i < 4 ∨ 12 ≤ i := hi
    rw [upd_other _ _ (by omega), upd_other _ _ (by omega), upd_other _ _ (by omega), upd_other _ _ (by omega)]
    exact hf i hi'
set_option maxHeartbeats 1600000 in
/-- A list that is due is written full, and kept. -/
theorem markInts_due {Q : Exit → Act → World → Prop} {a : Act} {w w0 : World} {bb : Nat} {C C0 : Own} {f f0 : Nat → Value} {ot ot' : List Ot} {kept wn : List Wt} {fr : List Fh} {Wv Nv Mv Dv : Value} {j : Nat} {q : Wt} {w1 : World} (hs : a.tmps.size = 188) (hd : a.defers = []) (x0 : a.eval (.tmp 0) = pv bb 0) (x3 : a.eval (.tmp 3) = Nv) (x6 : a.eval (.tmp 6) = vi (j : Nat)) (x7 : a.eval (.tmp 7) = q.l) (x8 : a.eval (.tmp 8) = vi q.mark)
    (hq : wn[j]? = some q) (hwl : wn.length ≤ 100000) (hF : Fit C w bb) (hB : BK w bb f)
    (hO : KOut C w kcInts f ((ot ++ ot').map (·.o)) ((ot ++ ot').map (·.c)) (kept.map (·.l)) (kept.map (·.c)) (fr.map (·.l)) ((kept.map (·.mark)).map vi) ((kept.map (·.due)).map vi) ((fr.map (·.mark)).map vi))
    (hR : KRows C w kcInts (ot ++ ot') (kept ++ wn.drop j) fr) (hW : RowAt C w 1 .old 29 Wv (wn.map (·.l))) (hN : RowAt C w 1 .old 29 Nv (wn.map (·.c))) (hM : RowAt C w 1 .old 3 Mv ((wn.map (·.mark)).map vi)) (hD : RowAt C w 1 .old 3 Dv ((wn.map (·.due)).map vi))
    (hT : KFr 1 bb C0 w0 C w) (hf : ∀ i, i < 4 ∨ 12 ≤ i → f i = f0 i) (hlen : kept.length + fr.length = j) (hlo : ot'.length = fr.length) (hol : ot.length ≤ 100000) (h0 : f0 0 = .bool false) (h1 : f0 1 = .bool false)
    (HC : Calls Tryz.prog 95 #[q.l, q.c] w fun e w'' => e = .returned (.bool true) ∧ w'' = w1) (ht1 : Turned [] w w1)
    (hEnd : ∀ a' w', a'.tmps.size = 188 → a'.defers = [] → (∀ s : Nat, s < 9 → a'.eval (.tmp s) = a.eval (.tmp s)) → MarkAt kcInts bb C0 w0 f0 ot wn Wv Nv Mv Dv (j + 1) w' → Q .normal a' w') :
    ((Code.region 16 (opsOf 16 Tryz.f139.body) false).seq (((Code.region 17 (opsOf 17 Tryz.f139.body) false).seq (Code.block 2 (Code.loop (((Code.region 18 (opsOf 18 Tryz.f139.body) false).seq (Code.cond (.tmp 136) .skip (.exit 2))).seq ((Code.block 3 (Code.region 20 (opsOf 20 Tryz.f139.body) false)).seq (Code.region 19 (opsOf 19 Tryz.f139.body) false)))))).seq ((Code.region 21 (opsOf 21 Tryz.f139.body) false).seq ((Code.region 22 (opsOf 22 Tryz.f139.body) true).seq ((Code.region 23 (opsOf 23 Tryz.f139.body) false).seq (Code.region 24 (opsOf 24 Tryz.f139.body) false)))))).wp Tryz.prog Q a w := by
  obtain ⟨hjl, hqe⟩ := List.getElem?_eq_some_iff.1 hq
  have hdrop : wn.drop j = q :: wn.drop (j + 1) := by rw [← hqe]; exact List.drop_eq_getElem_cons hjl
  rw [hdrop] at hR
  obtain ⟨p1, p2, p3, p4, p5, p6, p7⟩ := hR.pW q (by simp)
  obtain ⟨gN, cN, cuN, eN, -, -⟩ := Row.form hN.1 (by simp; omega)
  have cN0 : w.cell? ⟨gN, j, none⟩ = some q.c := by
    have h1 := hN.1
    rw [eN] at h1
    have := World.ownsRow.cellAt (by simpa using h1) j (by simp; omega)
    rw [this]
    simp [hq]
  have hS1a : Stp (fun _ => False) bb C w C w1 := Stp.of ht1 (by simp)
  have hF1a : Fit C w1 bb := hF.of ht1
  have hB1a : BK w1 bb f := hB.keep ht1 (by simp)
  refine wp_seq ?_
  refine markInts_r16 hs x0 x7 x6 (x3.trans eN) (by simp; omega) cN0 (Row.slice p2) hB hB1a ((hf 0 (by omega)).trans h0) ((hf 1 (by omega)).trans h1) HC ?_
  intro a1 s1 d1 k1
  have hS1 : Stp (fun _ => False) bb C w C (w1.setCell ⟨bb, 1, none⟩ (.bool false)) := hS1a.trans (Stp.of (l := [bb]) ((Turned.refl [bb] w1).set (.inl (by simp)) _ _) (by intro x hx; exact .inl (by simpa using hx)))
  have hF1 : Fit C (w1.setCell ⟨bb, 1, none⟩ (.bool false)) bb := hF1a.of ((Turned.refl [bb] w1).set (.inl (by simp)) 1 (.bool false))
  have hB1 := hB1a.put (i := 1) (by omega) (.bool false)
  have hO1 := hO.step (f' := upd f 1 (.bool false)) hF hS1 (fun _ => .inl (fun h => h)) (fun i _ => upd_other _ _ (by show 4 + i ≠ 1; omega))
  have hR1 := hR.step hF hS1 (fun h => h) (fun _ h => h)
  have hN1 := hN.step hF hS1 (by simp) (fun h => h)
  have hD1 := hD.step hF hS1 (by simp) (fun h => h)
  have hW1 := hW.step hF hS1 (by simp) (fun h => h)
  have hM1 := hM.step hF hS1 (by simp) (fun h => h)
  have p11 := hS1.row hF p1 p4 (by simp) (fun h => h)
  have hf1 : ∀ i, i < 4 ∨ 12 ≤ i → upd f 1 (.bool false) i = f0 i := fun i hi => by
    by_cases e : i = 1
    · subst e
      rw [upd_same]
      exact h1.symm
    · rw [upd_other _ _ e]
      exact hf i hi
  generalize hw2 : w1.setCell ⟨bb, 1, none⟩ (.bool false) = w2 at *
  generalize upd f 1 (.bool false) = f2 at *
  refine wp_seq ?_
  refine markInts_inner (s1.trans hs) (d1.trans hd) ((k1 7 (by omega)).trans x7) ((k1 8 (by omega)).trans x8) p6 p3 p11 ?_
  intro a3 w3 zs3 s3 d3 k3 hl3 ht3
  have hS3 : Stp (fun x => x = (1, .lst q.id)) bb C w2 C w3 := Stp.of ht3 (fun x hx => .inr (.inr ⟨_, p4 x (by simpa using hx), rfl⟩))
  have hF3 : Fit C w3 bb := hF1.of ht3
  have hB3 : BK w3 bb f2 := hB1.keep ht3 (by
    intro hx
    have := p4 bb (by simpa using hx)
    rw [hF.bk] at this
    injection this with this
    injection this with _ this
    cases this)
  have hO3 := hO1.step (f' := f2) hF1 hS3 (fun tg => by cases tg <;> simp) (fun _ _ => rfl)
  have hR3 := hR1.marked hF1 hS3
  have hN3 := hN1.step hF1 hS3 (by simp) (by simp)
  have hD3 := hD1.step hF1 hS3 (by simp) (by simp)
  have hW3 := hW1.step hF1 hS3 (by simp) (by simp)
  have hM3 := hM1.step hF1 hS3 (by simp) (by simp)
  have kk : ∀ s : Nat, s < 9 → a3.eval (.tmp s) = a.eval (.tmp s) := fun s h => (k3 s h).trans (k1 s (by omega))
  have ss : a3.tmps.size = 188 := s3.trans (s1.trans hs)
  have dd : a3.defers = [] := d3.trans (d1.trans hd)
  refine wp_seq ?_
  refine markInts_r21 ss ((kk 0 (by omega)).trans x0) ((kk 7 (by omega)).trans x7) (Row.slice hl3) hF3 hB3 hO3 (by simp; omega) ?_
  intro a4 w4 C4 v4 s4 d4 k4 hF4 hS4 hB4 hO4
  have hR4 := hR3.step hF3 hS4 (by simp) (by simp)
  have hN4 := hN3.step hF3 hS4 (by simp) (by simp)
  have hD4 := hD3.step hF3 hS4 (by simp) (by simp)
  have hW4 := hW3.step hF3 hS4 (by simp) (by simp)
  have hM4 := hM3.step hF3 hS4 (by simp) (by simp)
  have hl4 := hS4.row hF3 hl3 p4 (by simp) (by simp)
  have p44 := hS4.has hF3 p4
  refine wp_seq ?_
  refine markInts_r22 (s4.trans ss) ((k4 0 (by omega)).trans ((kk 0 (by omega)).trans x0)) ((k4 7 (by omega)).trans ((kk 7 (by omega)).trans x7)) hl4 (by omega) hF4 hB4 hO4 (by simp; omega) ?_
  intro a5 w5 C5 v5 nt s5 d5 k5 hF5 hS5 hB5 hO5 hnt5 hnk5
  have hR5 := hR4.step hF4 hS5 (by simp) (by simp)
  have hN5 := hN4.step hF4 hS5 (by simp) (by simp)
  have hD5 := hD4.step hF4 hS5 (by simp) (by simp)
  have hW5 := hW4.step hF4 hS5 (by simp) (by simp)
  have hM5 := hM4.step hF4 hS5 (by simp) (by simp)
  have hl5 := hS5.row hF4 hl4 p44 (by simp) (by simp)
  have p45 := hS5.has hF4 p44
  have k50 : ∀ s : Nat, s < 9 → a5.eval (.tmp s) = a.eval (.tmp s) := fun s h => (k5 s (by omega)).trans ((k4 s (by omega)).trans (kk s h))
  refine wp_seq ?_
  refine markInts_r23 (s5.trans (s4.trans ss)) ((k50 0 (by omega)).trans x0) ((k50 7 (by omega)).trans x7) (Row.slice hl5) hF5 hB5 hO5 (by simp; omega) ?_
  intro a6 w6 C6 v6 s6 d6 k6 hF6 hS6 hB6 hO6
  have hR6 := hR5.step hF5 hS6 (by simp) (by simp)
  have hN6 := hN5.step hF5 hS6 (by simp) (by simp)
  have hD6 := hD5.step hF5 hS6 (by simp) (by simp)
  have hW6 := hW5.step hF5 hS6 (by simp) (by simp)
  have hM6 := hM5.step hF5 hS6 (by simp) (by simp)
  have hl6 := hS6.row hF5 hl5 p45 (by simp) (by simp)
  have p46 := hS6.has hF5 p45
  have hnt6 := hS6.row hF5 hnt5 hnk5 (by simp) (by simp)
  have hnk6 := hS6.has hF5 hnk5
  refine wp_fall ?_
  refine markInts_r24 (s6.trans (s5.trans (s4.trans ss))) ((k6 0 (by omega)).trans ((k50 0 (by omega)).trans x0)) ((k6 8 (by omega)).trans ((k50 8 (by omega)).trans x8)) hF6 hB6 hO6 (by simp; omega) ?_
  intro a7 w7 C7 v7 s7 d7 k7 hF7 hS7 hB7 hO7
  have hR7 := hR6.step hF6 hS7 (by simp) (by simp)
  have hN7 := hN6.step hF6 hS7 (by simp) (by simp)
  have hD7 := hD6.step hF6 hS7 (by simp) (by simp)
  have hW7 := hW6.step hF6 hS7 (by simp) (by simp)
  have hM7 := hM6.step hF6 hS7 (by simp) (by simp)
  have hl7 := hS7.row hF6 hl6 p46 (by simp) (by simp)
  have p47 := hS7.has hF6 p46
  have hnt7 := hS7.row hF6 hnt6 hnk6 (by simp) (by simp)
  have hnk7 := hS7.has hF6 hnk6
  refine hEnd a7 w7 (s7.trans (s6.trans (s5.trans (s4.trans ss)))) (d7.trans (d6.trans (d5.trans (d4.trans dd)))) (fun s h => (k7 s (by omega)).trans ((k6 s (by omega)).trans (k50 s h))) ?_
  have fT : ∀ {t : Tg} (x : Nat × Tg), x = (1, t) → x.1 = 1 := fun x h => by rw [h]
  have hRR := KRows.moved (fun x hx => fun e => (hR.pO x hx).2.2.2.2.2 q (by simp) e.symm) hR.ids hR7 hl7 hnt7 p3 p47 hnk7 p6
  refine ⟨C7, _, ot' ++ [⟨q.l, nt, q.n, zs3, q.id⟩], kept, fr ++ [⟨q.l, q.n, zs3, q.mark, q.id⟩], hF7, hB7, by simpa using hO7, by simpa using hRR, hW7, hN7, hM7, hD7, (((((hT.trans (KFr.of hS1 (fun _ h => h.elim))).trans (KFr.of hS3 fT)).trans (KFr.of hS4 fT)).trans (KFr.of hS5 fT)).trans (KFr.of hS6 fT)).trans (KFr.of hS7 fT), ?_, by simp; omega, by simp; omega⟩
  intro i hi
  have hi' : i < 4 ∨ 12 ≤ i := hi
  rw [upd_other _ _ (by omega), upd_other _ _ (by omega), upd_other _ _ (by omega), upd_other _ _ (by omega)]
  exact hf1 i hi'
end Go.Proofs.YtjbhnpofdafmbaaGreatDoor
/- The book's mark (kind Ints): the lists that are due are written full, the others wait on. -/
namespace Go.Proofs.YtjbhnpofdafmbaaGreatDoor
open Go.RowKit
set_option maxHeartbeats 1600000 in
set_option maxRecDepth 100000 in
/-- One round. -/
theorem markInts_round {Q : Exit → Act → World → Prop} {a : Act} {w w0 : World} {bb : Nat} {C0 : Own} {f0 : Nat → Value} {ot : List Ot} {wn : List Wt} {Wv Nv Mv Dv : Value} {j : Nat} {turn : Int} (hs : a.tmps.size = 188) (hd : a.defers = []) (x0 : a.eval (.tmp 0) = pv bb 0) (x2 : a.eval (.tmp 2) = Wv) (x3 : a.eval (.tmp 3) = Nv) (x4 : a.eval (.tmp 4) = Mv) (x5 : a.eval (.tmp 5) = Dv) (x6 : a.eval (.tmp 6) = vi (j : Nat))
    (hj : j ≤ wn.length) (hwl : wn.length ≤ 100000) (hol : ot.length ≤ 100000) (h0 : f0 0 = .bool false) (h1 : f0 1 = .bool false) (h2 : f0 2 = .int .i64 turn) (HM : MarkAt kcInts bb C0 w0 f0 ot wn Wv Nv Mv Dv j w)
    (HC : ∀ (w : World) (q : Wt), IRow w 3 1 q.l q.n q.zs → IRow w 3 1 q.c q.n q.zs → q.n ≤ 4500 → ∃ w1, Calls Tryz.prog 95 #[q.l, q.c] w (fun e w'' => e = .returned (.bool true) ∧ w'' = w1) ∧ Turned [] w w1)
    (hGo : j < wn.length → ∀ a' w', a'.tmps.size = 188 → a'.defers = [] → (∀ s : Nat, s < 6 → a'.eval (.tmp s) = a.eval (.tmp s)) → a'.eval (.tmp 6) = vi ((j + 1 : Nat) : Int) → MarkAt kcInts bb C0 w0 f0 ot wn Wv Nv Mv Dv (j + 1) w' → Q .normal a' w')
    (hEnd : j = wn.length → ∀ a', a'.tmps.size = 188 → a'.defers = [] → Q (.exit 0) a' w) :
    (((Code.region 7 (opsOf 7 Tryz.f139.body) false).seq (Code.cond (.tmp 44) .skip (.exit 0))).seq ((Code.block 1 ((Code.region 9 (opsOf 9 Tryz.f139.body) false).seq ((Code.region 10 (opsOf 10 Tryz.f139.body) false).seq (((Code.region 11 (opsOf 11 Tryz.f139.body) true).seq (Code.cond (.tmp 63) ((Code.region 12 (opsOf 12 Tryz.f139.body) false).seq ((Code.region 13 (opsOf 13 Tryz.f139.body) true).seq ((Code.region 14 (opsOf 14 Tryz.f139.body) false).seq ((Code.region 15 (opsOf 15 Tryz.f139.body) true).seq (Code.exit 1))))) .skip)).seq ((Code.region 16 (opsOf 16 Tryz.f139.body) false).seq (((Code.region 17 (opsOf 17 Tryz.f139.body) false).seq (Code.block 2 (Code.loop (((Code.region 18 (opsOf 18 Tryz.f139.body) false).seq (Code.cond (.tmp 136) .skip (.exit 2))).seq ((Code.block 3 (Code.region 20 (opsOf 20 Tryz.f139.body) false)).seq (Code.region 19 (opsOf 19 Tryz.f139.body) false)))))).seq ((Code.region 21 (opsOf 21 Tryz.f139.body) false).seq ((Code.region 22 (opsOf 22 Tryz.f139.body) true).seq ((Code.region 23 (opsOf 23 Tryz.f139.body) false).seq (Code.region 24 (opsOf 24 Tryz.f139.body) false)))))))))).seq (Code.region 8 (opsOf 8 Tryz.f139.body) false))).wp Tryz.prog Q a w := by
  obtain ⟨C, f, ot', kept, fr, hF, hB, hO, hR, hW, hN, hM, hD, hT, hf, hlen, hlo⟩ := HM.ex
  obtain ⟨aW, cW, eW⟩ := Row.shape hW.1
  refine wp_seq ?_
  refine wp_seq ?_
  refine markInts_r7 (ra := aW) (rc := cW) (m := wn.length) hs x6 (x2.trans (eW.trans (by simp))) ?_
  intro a1 s1 d1 k1 e1
  by_cases hlt : j < wn.length
  · refine wp_cond_true (e1.trans (by simp; omega)) ?_
    refine wp_skip ?_
    obtain ⟨q, hq⟩ : ∃ q, wn[j]? = some q := ⟨wn[j], List.getElem?_eq_getElem hlt⟩
    obtain ⟨hjl, hqe⟩ := List.getElem?_eq_some_iff.1 hq
    have hdrop : wn.drop j = q :: wn.drop (j + 1) := by rw [← hqe]; exact List.drop_eq_getElem_cons hjl
    obtain ⟨p1, p2, p3, p4, p5, p6, p7⟩ := hR.pW q (by rw [hdrop]; simp)
    obtain ⟨gW, cW', cuW, eW', -, -⟩ := Row.form hW.1 (by simp; omega)
    obtain ⟨gM, cM, cuM, eM, -, -⟩ := Row.form hM.1 (by simp; omega)
    obtain ⟨gD, cD, cuD, eD, -, -⟩ := Row.form hD.1 (by simp; omega)
    have cellW : w.cell? ⟨gW, j, none⟩ = some q.l := by
      have h1 := hW.1
      rw [eW'] at h1
      rw [World.ownsRow.cellAt (by simpa using h1) j (by simp; omega)]
      simp [hq]
    have cellM : w.cell? ⟨gM, j, none⟩ = some (vi q.mark) := by
      have h1 := hM.1
      rw [eM] at h1
      rw [World.ownsRow.cellAt (by simpa using h1) j (by simp; omega)]
      simp [hq]
    have cellD : w.cell? ⟨gD, j, none⟩ = some (vi q.due) := by
      have h1 := hD.1
      rw [eD] at h1
      rw [World.ownsRow.cellAt (by simpa using h1) j (by simp; omega)]
      simp [hq]
    refine wp_seq ?_
    refine wp_block ?_
    refine wp_seq ?_
    refine markInts_r9 (s1.trans hs) ((k1 6 (by omega)).trans x6) ((k1 2 (by omega)).trans (x2.trans eW')) (by simp; omega) cellW (Row.slice p1) ?_
    intro a2 s2 d2 k2 e2
    refine wp_seq ?_
    refine markInts_r10 (s2.trans (s1.trans hs)) ((k2 6 (by omega) (by omega)).trans ((k1 6 (by omega)).trans x6)) ((k2 4 (by omega) (by omega)).trans ((k1 4 (by omega)).trans (x4.trans eM))) (by simp; omega) cellM ?_
    intro a3 s3 d3 k3 e3
    have kk : ∀ s : Nat, s < 7 → a3.eval (.tmp s) = a.eval (.tmp s) := fun s h => (k3 s (by omega) (by omega)).trans ((k2 s (by omega) (by omega)).trans (k1 s (by omega)))
    have ss : a3.tmps.size = 188 := s3.trans (s2.trans (s1.trans hs))
    have dd : a3.defers = [] := d3.trans (d2.trans (d1.trans hd))
    refine wp_seq ?_
    refine wp_seq ?_
    refine markInts_r11 ss ((kk 0 (by omega)).trans x0) ((kk 6 (by omega)).trans x6) ((kk 5 (by omega)).trans (x5.trans eD)) (by simp; omega) cellD hB ((hf 2 (by show 2 < 4 ∨ _; omega)).trans h2) ?_
    intro a4 s4 d4 k4 e4
    have hSd : Stp (fun _ => False) bb C w C w.drew := Stp.of (l := []) (Turned.refl [] w).drew (by simp)
    have hFd : Fit C w.drew bb := hF.of (Turned.refl [] w).drew
    have hBd : BK w.drew bb f := hB.keep (Turned.refl [] w).drew (by simp)
    have hOd := hO.step hF hSd (fun _ => .inl (fun h => h)) (fun _ _ => rfl)
    have hRd := hR.step hF hSd (fun h => h) (fun _ h => h)
    have hNd := hN.step hF hSd (by simp) (fun h => h)
    have hDd := hD.step hF hSd (by simp) (fun h => h)
    have hWd := hW.step hF hSd (by simp) (fun h => h)
    have hMd := hM.step hF hSd (by simp) (fun h => h)
    have hTd := hT.trans (KFr.of hSd (fun _ h => h.elim))
    have y0 := (k4 0 (by omega)).trans ((kk 0 (by omega)).trans x0)
    have y3 := (k4 3 (by omega)).trans ((kk 3 (by omega)).trans x3)
    have y5 := (k4 5 (by omega)).trans ((kk 5 (by omega)).trans x5)
    have y6 := (k4 6 (by omega)).trans ((kk 6 (by omega)).trans x6)
    have y7 := (k4 7 (by omega)).trans ((k3 7 (by omega) (by omega)).trans e2)
    have y8 := (k4 8 (by omega)).trans e3
    have next : ∀ a' w', a'.tmps.size = 188 → a'.defers = [] → (∀ s : Nat, s < 9 → a'.eval (.tmp s) = a4.eval (.tmp s)) → MarkAt kcInts bb C0 w0 f0 ot wn Wv Nv Mv Dv (j + 1) w' → (Code.region 8 (opsOf 8 Tryz.f139.body) false).wp Tryz.prog Q a' w' := fun a' w' s' d' k' hM' => by
      refine wp_fall ?_
      refine markInts_r8 (k := j) s' d' ((k' 6 (by omega)).trans y6) (by omega) ?_
      intro a6 s6 d6 k6 e6
      exact hGo hlt a6 w' (s6.trans s') (d6.trans d') (fun s h => (k6 s (by omega) (by omega)).trans ((k' s (by omega)).trans ((k4 s (by omega)).trans (kk s (by omega))))) e6 hM'
    by_cases hdue : turn < q.due
    · refine wp_cond_true (e4.trans (by simp [hdue])) ?_
      refine markInts_kept (s4.trans ss) (d4.trans dd) y0 y3 y5 y6 y7 y8 hq hwl hFd hBd hOd hRd hWd hNd hMd hDd hTd hf hlen hlo ?_
      intro a5 w5 s5 d5 k5 hM5
      exact next a5 w5 s5 d5 (fun s h => k5 s (by omega)) hM5
    · refine wp_cond_false (e4.trans (by simp [hdue])) ?_
      refine wp_skip ?_
      obtain ⟨w1, hc1, hc2⟩ := HC w.drew q (hRd.pW q (by rw [hdrop]; simp)).1 (hRd.pW q (by rw [hdrop]; simp)).2.1 p3
      refine markInts_due (s4.trans ss) (d4.trans dd) y0 y3 y6 y7 y8 hq hwl hFd hBd hOd hRd hWd hNd hMd hDd hTd hf hlen hlo hol h0 h1 hc1 hc2 ?_
      intro a5 w5 s5 d5 k5 hM5
      exact next a5 w5 s5 d5 k5 hM5
  · refine wp_cond_false (e1.trans (by simp; omega)) ?_
    refine wp_exit ?_
    exact hEnd (by omega) a1 (s1.trans hs) (d1.trans hd)
/-- What marking leaves. -/
structure MarkedInts (w : World) (bb : Nat) (C : Own) (f : Nat → Value) (ot : List Ot) (wn : List Wt) (w' : World) : Prop where
  ex : ∃ C' f' ot' wn' fr, Fit C' w' bb ∧ BK w' bb f' ∧ FullInts C' w' f' (ot ++ ot') wn' fr ∧ KFr 1 bb C w C' w' ∧ (∀ i, i < 4 ∨ 12 ≤ i → f' i = f i) ∧ wn'.length + fr.length = wn.length ∧ ot'.length = fr.length
set_option maxHeartbeats 1600000 in
set_option maxRecDepth 100000 in
theorem cMarkInts {w : World} {bb : Nat} {C : Own} {f : Nat → Value} {ot : List Ot} {wn : List Wt} {turn : Int} (hF : Fit C w bb) (hB : BK w bb f) (hK : FullInts C w f ot wn []) (hwl : wn.length ≤ 100000) (hol : ot.length ≤ 100000) (h0 : f 0 = .bool false) (h1 : f 1 = .bool false) (h2 : f 2 = .int .i64 turn)
    (HC : ∀ (w : World) (q : Wt), IRow w 3 1 q.l q.n q.zs → IRow w 3 1 q.c q.n q.zs → q.n ≤ 4500 → ∃ w1, Calls Tryz.prog 95 #[q.l, q.c] w (fun e w'' => e = .returned (.bool true) ∧ w'' = w1) ∧ Turned [] w w1) :
    Calls Tryz.prog 139 #[.pointer (some ⟨bb, 0, none⟩)] w fun e w' => e = .returned (.tuple #[]) ∧ MarkedInts w bb C f ot wn w' := by
  obtain ⟨hO, hR⟩ := hK
  obtain ⟨aW, cW, eW⟩ := Row.shape hO.rW.1
  obtain ⟨aN, cN, eN⟩ := Row.shape hO.rN.1
  obtain ⟨aM, cM, eM⟩ := Row.shape hO.rM.1
  obtain ⟨aD, cD, eD⟩ := Row.shape hO.rD.1
  simp only [List.length_map] at eW eN eM eD
  have eW' : f 6 = .slice aW wn.length cW := eW
  have eN' : f 7 = .slice aN wn.length cN := eN
  have eM' : f 9 = .slice aM wn.length cM := eM
  have eD' : f 10 = .slice aD wn.length cD := eD
  have q2 := hB.cell (i := 6) (by omega)
  have q3 := hB.cell (i := 7) (by omega)
  have q5 := hB.cell (i := 9) (by omega)
  have q6 := hB.cell (i := 10) (by omega)
  rw [eW'] at q2
  rw [eN'] at q3
  rw [eM'] at q5
  rw [eD'] at q6
  have z := hB.froz
  by_cases hm : wn.length = 0
  · have hz : ((wn.length : Int) == 0) = true := by simp [hm]
    go_enter Tryz.func139, Tryz.ntmps139
    go_wp2
    refine bodyPost_ret (results_none rfl _ _ _) rfl ⟨rfl, C, f, [], wn, [], hF, hB, ⟨by simpa using hO, by simpa using hR⟩, KFr.refl _ _ _ _, fun _ _ => rfl, by simp, rfl⟩
  · have hz : ((wn.length : Int) == 0) = false := by simp; intro h; exact hm (by simp [h])
    have hS : Turned [bb] w ((((w.setCell ⟨bb, 6, none⟩ (.slice none 0 0)).setCell ⟨bb, 7, none⟩ (.slice none 0 0)).setCell ⟨bb, 9, none⟩ (.slice none 0 0)).setCell ⟨bb, 10, none⟩ (.slice none 0 0)) := ((((Turned.refl [bb] w).set (.inl (by simp)) _ _).set (.inl (by simp)) _ _).set (.inl (by simp)) _ _).set (.inl (by simp)) _ _
    have hB5 := (((hB.put (i := 6) (by omega) (.slice none 0 0)).put (i := 7) (by omega) (.slice none 0 0)).put (i := 9) (by omega) (.slice none 0 0)).put (i := 10) (by omega) (.slice none 0 0)
    have HS : Hid _ := hS
    have HB5 : Hid _ := hB5
    clear hS hB5
    go_enter Tryz.func139, Tryz.ntmps139
    go_wp2
    rename_i Q0
    generalize ((((w.setCell ⟨bb, 6, none⟩ (.slice none 0 0)).setCell ⟨bb, 7, none⟩ (.slice none 0 0)).setCell ⟨bb, 9, none⟩ (.slice none 0 0)).setCell ⟨bb, 10, none⟩ (.slice none 0 0)) = w5 at *
    have hSt : Stp (fun _ => False) bb C w C w5 := Stp.of HS.out (by intro x hx; exact .inl (by simpa using hx))
    have hk0 : ∀ t, C bb ≠ some (1, t) := fun t ht => by rw [hF.bk] at ht; injection ht with ht; injection ht with ht _; cases ht
    have hF5 : Fit (retag 1 C) w5 bb := ⟨fun g hg => Nat.lt_of_lt_of_le (hF.dom g (fun h => hg (retag_none.2 h))) HS.out.size, (retag_other hk0).trans hF.bk⟩
    have hT5 : KFr 1 bb C w (retag 1 C) w5 := (KFr.of hSt (fun _ h => h.elim)).trans ⟨rfl, rfl, rfl, Nat.le_refl _, fun g _ _ ht => ⟨rfl, retag_other ht⟩, fun g _ ht => retag_same ht⟩
    have rO := hO.rO.step hF hSt (by simp) (fun h => h)
    have rT := hO.rT.step hF hSt (by simp) (fun h => h)
    have rW := hO.rW.step hF hSt (by simp) (fun h => h)
    have rN := hO.rN.step hF hSt (by simp) (fun h => h)
    have rF := hO.rF.step hF hSt (by simp) (fun h => h)
    have rM := hO.rM.step hF hSt (by simp) (fun h => h)
    have rD := hO.rD.step hF hSt (by simp) (fun h => h)
    have rR := hO.rR.step hF hSt (by simp) (fun h => h)
    have hR5 := (hR.step hF hSt (fun h => h) (fun _ h => h)).retag (κ := 1)
    have HMA : MarkAt kcInts bb C w f ot wn (.slice aW wn.length cW) (.slice aN wn.length cN) (.slice aM wn.length cM) (.slice aD wn.length cD) 0 w5 := by
      refine ⟨retag 1 C, _, [], [], [], hF5, HB5.out, ⟨?_, ?_, ?_, ?_, ?_, ?_, ?_, ?_⟩, by simpa using hR5, ?_, ?_, ?_, ?_, hT5, ?_, by simp, rfl⟩
      · rw [upd_other _ _ (by first | decide | nofun), upd_other _ _ (by first | decide | nofun), upd_other _ _ (by first | decide | nofun), upd_other _ _ (by first | decide | nofun)]
        exact ⟨by simpa using rO.1, retag_has rO.2 (by simp)⟩
      · rw [upd_other _ _ (by first | decide | nofun), upd_other _ _ (by first | decide | nofun), upd_other _ _ (by first | decide | nofun), upd_other _ _ (by first | decide | nofun)]
        exact ⟨by simpa using rT.1, retag_has rT.2 (by simp)⟩
      · rw [upd_other _ _ (by first | decide | nofun), upd_other _ _ (by first | decide | nofun), upd_other _ _ (by first | decide | nofun), upd_same]
        exact RowAt.nil _ _ _ _ _
      · rw [upd_other _ _ (by first | decide | nofun), upd_other _ _ (by first | decide | nofun), upd_same]
        exact RowAt.nil _ _ _ _ _
      · rw [upd_other _ _ (by first | decide | nofun), upd_other _ _ (by first | decide | nofun), upd_other _ _ (by first | decide | nofun), upd_other _ _ (by first | decide | nofun)]
        exact ⟨by simpa using rF.1, retag_has rF.2 (by simp)⟩
      · rw [upd_other _ _ (by first | decide | nofun), upd_same]
        exact RowAt.nil _ _ _ _ _
      · rw [upd_same]
        exact RowAt.nil _ _ _ _ _
      · rw [upd_other _ _ (by first | decide | nofun), upd_other _ _ (by first | decide | nofun), upd_other _ _ (by first | decide | nofun), upd_other _ _ (by first | decide | nofun)]
        exact ⟨by simpa using rR.1, retag_has rR.2 (by simp)⟩
      · rw [← eW']; exact ⟨rW.1, retag_old rW.2 (by simp)⟩
      · rw [← eN']; exact ⟨rN.1, retag_old rN.2 (by simp)⟩
      · rw [← eM']; exact ⟨rM.1, retag_old rM.2 (by simp)⟩
      · rw [← eD']; exact ⟨rD.1, retag_old rD.2 (by simp)⟩
      · intro i hi
        have hi' : i < 4 ∨ 12 ≤ i := hi
        rw [upd_other _ _ (by omega), upd_other _ _ (by omega), upd_other _ _ (by omega), upd_other _ _ (by omega)]
    clear rO rT rW rN rF rM rD rR hR5 hT5 hF5 hk0 hSt HS HB5 z q2 q3 q5 q6 hR hO hB
    refine (show (Code.loop (((Code.region 7 (opsOf 7 Tryz.f139.body) false).seq (Code.cond (.tmp 44) .skip (.exit 0))).seq ((Code.block 1 ((Code.region 9 (opsOf 9 Tryz.f139.body) false).seq ((Code.region 10 (opsOf 10 Tryz.f139.body) false).seq (((Code.region 11 (opsOf 11 Tryz.f139.body) true).seq (Code.cond (.tmp 63) ((Code.region 12 (opsOf 12 Tryz.f139.body) false).seq ((Code.region 13 (opsOf 13 Tryz.f139.body) true).seq ((Code.region 14 (opsOf 14 Tryz.f139.body) false).seq ((Code.region 15 (opsOf 15 Tryz.f139.body) true).seq (Code.exit 1))))) .skip)).seq ((Code.region 16 (opsOf 16 Tryz.f139.body) false).seq (((Code.region 17 (opsOf 17 Tryz.f139.body) false).seq (Code.block 2 (Code.loop (((Code.region 18 (opsOf 18 Tryz.f139.body) false).seq (Code.cond (.tmp 136) .skip (.exit 2))).seq ((Code.block 3 (Code.region 20 (opsOf 20 Tryz.f139.body) false)).seq (Code.region 19 (opsOf 19 Tryz.f139.body) false)))))).seq ((Code.region 21 (opsOf 21 Tryz.f139.body) false).seq ((Code.region 22 (opsOf 22 Tryz.f139.body) true).seq ((Code.region 23 (opsOf 23 Tryz.f139.body) false).seq (Code.region 24 (opsOf 24 Tryz.f139.body) false)))))))))).seq (Code.region 8 (opsOf 8 Tryz.f139.body) false)))).wp Tryz.prog _ _ w5 from ?_)
    generalize hact : (Act.mk _ _) = a0
    have s0 : a0.tmps.size = 188 := by rw [← hact]; rfl
    have d0 : a0.defers = [] := by rw [← hact]
    have y0 : a0.eval (.tmp 0) = pv bb 0 := by rw [← hact]; rfl
    have y2 : a0.eval (.tmp 2) = .slice aW wn.length cW := by rw [← hact]; rfl
    have y3 : a0.eval (.tmp 3) = .slice aN wn.length cN := by rw [← hact]; rfl
    have y4 : a0.eval (.tmp 4) = .slice aM wn.length cM := by rw [← hact]; rfl
    have y5 : a0.eval (.tmp 5) = .slice aD wn.length cD := by rw [← hact]; rfl
    have y6 : a0.eval (.tmp 6) = vi ((0 : Nat) : Int) := by rw [← hact]; rfl
    clear hact
    refine wp_loop (fun a' w' => ∃ j : Nat, j ≤ wn.length ∧ a'.tmps.size = 188 ∧ a'.defers = [] ∧ a'.eval (.tmp 0) = pv bb 0 ∧ a'.eval (.tmp 2) = .slice aW wn.length cW ∧ a'.eval (.tmp 3) = .slice aN wn.length cN ∧ a'.eval (.tmp 4) = .slice aM wn.length cM ∧ a'.eval (.tmp 5) = .slice aD wn.length cD ∧ a'.eval (.tmp 6) = vi (j : Nat) ∧ MarkAt kcInts bb C w f ot wn (.slice aW wn.length cW) (.slice aN wn.length cN) (.slice aM wn.length cM) (.slice aD wn.length cD) j w') (fun a' _ => wn.length - (intOf (a'.eval (.tmp 6))).toNat) ⟨0, Nat.zero_le _, s0, d0, y0, y2, y3, y4, y5, y6, HMA⟩ ?_
    rintro a' w' ⟨j, hj, s', d', e0, e2, e3, e4, e5, e6, hMA⟩
    refine markInts_round s' d' e0 e2 e3 e4 e5 e6 hj hwl hol h0 h1 h2 hMA HC ?_ ?_
    · intro hlt a2 w2 s2 d2 k2 f6 hM2
      refine ⟨⟨j + 1, by omega, s2, d2, (k2 0 (by omega)).trans e0, (k2 2 (by omega)).trans e2, (k2 3 (by omega)).trans e3, (k2 4 (by omega)).trans e4, (k2 5 (by omega)).trans e5, f6, hM2⟩, ?_⟩
      rw [f6, e6]
      simp [intOf]
      omega
    · intro hje a2 s2 d2
      subst hje
      obtain ⟨C', f', ot', kept, fr, m1, m2, m3, m4, -, -, -, -, m5, m6, m7, m8⟩ := hMA.ex
      have hMk : MarkedInts w bb C f ot wn w' := ⟨C', f', ot', kept, fr, m1, m2, ⟨m3, by simpa using m4⟩, m5, m6, by omega, m8⟩
      have hfin : bodyPost Tryz.prog Tryz.f139 (fun e w' => e = .returned (.tuple #[]) ∧ MarkedInts w bb C f ot wn w') .normal a2 w' := bodyPost_end (results_none rfl _ _ _) d2 ⟨rfl, hMk⟩
      exact hfin
end Go.Proofs.YtjbhnpofdafmbaaGreatDoor
/- A frame, spelled out. -/
namespace Go.Proofs.YtjbhnpofdafmbaaGreatDoor
open Go.RowKit
def lit189 (c : Nat → Value) : Array Value := #[c 0, c 1, c 2, c 3, c 4, c 5, c 6, c 7, c 8, c 9, c 10, c 11, c 12, c 13, c 14, c 15, c 16, c 17, c 18, c 19, c 20, c 21, c 22, c 23, c 24, c 25, c 26, c 27, c 28, c 29, c 30, c 31, c 32, c 33, c 34, c 35, c 36, c 37, c 38, c 39, c 40, c 41, c 42, c 43, c 44, c 45, c 46, c 47, c 48, c 49, c 50, c 51, c 52, c 53, c 54, c 55, c 56, c 57, c 58, c 59, c 60, c 61, c 62, c 63, c 64, c 65, c 66, c 67, c 68, c 69, c 70, c 71, c 72, c 73, c 74, c 75, c 76, c 77, c 78, c 79, c 80, c 81, c 82, c 83, c 84, c 85, c 86, c 87, c 88, c 89, c 90, c 91, c 92, c 93, c 94, c 95, c 96, c 97, c 98, c 99, c 100, c 101, c 102, c 103, c 104, c 105, c 106, c 107, c 108, c 109, c 110, c 111, c 112, c 113, c 114, c 115, c 116, c 117, c 118, c 119, c 120, c 121, c 122, c 123, c 124, c 125, c 126, c 127, c 128, c 129, c 130, c 131, c 132, c 133, c 134, c 135, c 136, c 137, c 138, c 139, c 140, c 141, c 142, c 143, c 144, c 145, c 146, c 147, c 148, c 149, c 150, c 151, c 152, c 153, c 154, c 155, c 156, c 157, c 158, c 159, c 160, c 161, c 162, c 163, c 164, c 165, c 166, c 167, c 168, c 169, c 170, c 171, c 172, c 173, c 174, c 175, c 176, c 177, c 178, c 179, c 180, c 181, c 182, c 183, c 184, c 185, c 186, c 187, c 188]
set_option maxRecDepth 100000 in
theorem lit189_eq (c : Nat → Value) : lit189 c = ((List.range 189).map c).toArray := by rfl
theorem expand189 {a : Act} (hs : a.tmps.size = 189) (hd : a.defers = []) : ∃ c : Nat → Value, a = ⟨lit189 c, []⟩ ∧ ∀ s, c s = a.eval (.tmp s) := by
  refine ⟨fun s => a.tmps.getD s undef, ?_, fun s => rfl⟩
  obtain ⟨t, d⟩ := a
  simp only at hs hd
  subst hd
  congr 1
  rw [lit189_eq]
  refine Array.ext (by simp [hs]) fun i h1 h2 => ?_
  simp [Array.getD, h1]
end Go.Proofs.YtjbhnpofdafmbaaGreatDoor
