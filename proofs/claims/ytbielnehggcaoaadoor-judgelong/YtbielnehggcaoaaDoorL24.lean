/-
  fits by contract: is a list an order of deeds? (By the verifier; no statement.)
-/
import Derived.Test.YtbielnehggcaoaaDoorL23
import Derived.Laws.MakeOwn
namespace Go.Proofs.YtbielnehggcaoaaDoor
open Go.RowKit
theorem infoBl : (Tryd.prog.info? 4).map (fun i => (i.zero, i.size, i.bytes)) = some (some (.bool false), 1, 1) := by kernel_rfl
theorem run_mkBl (n : Nat) (h : n ≤ 1000000) (w : World) :
    (Instr.makeSlice 84 (.int .i64 (n : Nat)) (.int .i64 (n : Nat))).run Tryd.prog w = .ok (.slice (some ⟨w.heap.size, 0, none⟩) n n) (w.alloc (.cells (madeCells #[.bool false] n) 4 (0, 0))) := by
  obtain ⟨i, hi, hzz⟩ := Option.map_eq_some_iff.1 infoBl
  simp only [Prod.mk.injEq] at hzz
  obtain ⟨hz, hs, hb⟩ := hzz
  have hr := run_make (P := Tryd.prog) w 84 4 i _ (by kernel_rfl) hi hz .i64 .i64 ((n : Nat) : Int) ((n : Nat) : Int) (by omega) (Int.le_refl _) (by rw [hb]; omega) (by omega)
  simp only [Int.toNat_natCast, hs, Nat.mul_one] at hr
  exact hr
theorem made_bl (n i : Nat) (h : i < n) : (madeCells #[Value.bool false] n)[i]? = some (.bool false) := by
  unfold madeCells
  simp [h, Nat.mod_one]
/-- The law's own state in the midst of an order. -/
structure FtS (w : World) (D : List Dd) (m cg gb : Nat) (S : Pl) (v : Int → Int) (x : World) : Prop where
  tu : Turned [] w x
  cells : ∃ hc, x.heap[cg]? = some (.cells hc 3 (0, 0)) ∧ ∀ i : Nat, i < m → hc[i]? = some (.int .i64 (v i))
  ins : ∃ hb, x.heap[gb]? = some (.cells hb 4 (0, 0)) ∧ ∀ i : Nat, i < D.length → hb[i]? = some (.bool (S i))
  base : w.heap.size ≤ cg ∧ w.heap.size ≤ gb
section
variable {w : World} {D : List Dd} {m cg gb : Nat} {S : Pl} {v : Int → Int} {x : World}
theorem FtS.still {y : World} (h : FtS w D m cg gb S v x) (ht : Turned [] x y) : FtS w D m cg gb S v y := by
  obtain ⟨hc, c1, c2⟩ := h.cells
  obtain ⟨hb, b1, b2⟩ := h.ins
  exact ⟨h.tu.trans ht, ⟨hc, ht.heap c1 (by simp), c2⟩, ⟨hb, ht.heap b1 (by simp), b2⟩, h.base⟩
theorem FtS.ne (h : FtS w D m cg gb S v x) : cg ≠ gb := by
  obtain ⟨hc, c1, c2⟩ := h.cells
  obtain ⟨hb, b1, b2⟩ := h.ins
  exact tyne c1 b1 (by decide)
theorem FtS.mark (h : FtS w D m cg gb S v x) {k : Nat} (hk : k < D.length) : FtS w D m cg gb (S.upd k) v (x.setCell ⟨gb, k, none⟩ (.bool true)) := by
  obtain ⟨hc, c1, c2⟩ := h.cells
  obtain ⟨hb, b1, b2⟩ := h.ins
  have ht : Turned [gb] x (x.setCell ⟨gb, k, none⟩ (.bool true)) := (Turned.refl [gb] x).set (by simp) _ _
  refine ⟨h.tu.inner ht (by simp; exact h.base.2), ⟨hc, ht.heap c1 (by simpa using h.ne), c2⟩, ⟨_, blk_set b1 k _, fun i hi => ?_⟩, h.base⟩
  have hs : k < hb.size := by
    have := b2 k hk
    exact (Array.getElem?_eq_some_iff.1 this).1
  rw [set_at hs]
  by_cases e : k = i
  · rw [if_pos e, e]; simp [Pl.upd]
  · rw [if_neg e, b2 i hi]
    have : ¬ i = k := fun e2 => e e2.symm
    simp [Pl.upd, this]
theorem FtS.write (h : FtS w D m cg gb S v x) {c : Nat} (hc : c < m) (u : Int) : FtS w D m cg gb S (updV v c u) (x.setCell ⟨cg, c, none⟩ (.int .i64 u)) := by
  obtain ⟨hcs, c1, c2⟩ := h.cells
  obtain ⟨hb, b1, b2⟩ := h.ins
  have ht : Turned [cg] x (x.setCell ⟨cg, c, none⟩ (.int .i64 u)) := (Turned.refl [cg] x).set (by simp) _ _
  refine ⟨h.tu.inner ht (by simp; exact h.base.1), ⟨_, blk_set c1 c _, fun i hi => ?_⟩, ⟨hb, ht.heap b1 (by simpa using h.ne.symm), b2⟩, h.base⟩
  have hs : c < hcs.size := (Array.getElem?_eq_some_iff.1 (c2 c hc)).1
  rw [set_at hs]
  unfold updV
  by_cases e : c = i
  · rw [if_pos e, e]; simp
  · rw [if_neg e, c2 i hi, if_neg (by omega)]
theorem FtS.facts (h : FtS w D m cg gb S v x) : cg < x.heap.size ∧ gb < x.heap.size ∧ (∀ i : Nat, i < m → x.cell? ⟨cg, i, none⟩ = some (.int .i64 (v i)) ∧ x.frozen? ⟨cg, i, none⟩ = false) ∧ ∀ i : Nat, i < D.length → x.cell? ⟨gb, i, none⟩ = some (.bool (S i)) ∧ x.frozen? ⟨gb, i, none⟩ = false := by
  obtain ⟨hc, c1, c2⟩ := h.cells
  obtain ⟨hb, b1, b2⟩ := h.ins
  exact ⟨lt_of_heap c1, lt_of_heap b1, fun i hi => ⟨by rw [cell_at c1]; exact c2 i hi, froz_at c1 i⟩, fun i hi => ⟨by rw [cell_at b1]; exact b2 i hi, froz_at b1 i⟩⟩
end
/-- The outer loop's state. -/
structure FX (w : World) (D : List Dd) (m cg gb : Nat) (v0 : Int → Int) (os : List Int) (i : Value) (x : World) : Prop where
  ex : ∃ t S v, t ≤ os.length ∧ i = .int .i64 (t : Nat) ∧ FtS w D m cg gb S v x ∧ fitGo D (bitsP 0) v0 os = fitGo D S v (os.drop t)
theorem bitsP0 : bitsP 0 = fun _ => false := by
  funext i
  unfold bitsP
  simp
theorem may_split {D : List Dd} {S : Pl} {k : Nat} (hS : S k = false) : may D S k = (List.range D.length).all fun j => !wasA (dAt D j).e (dAt D k).b || S j := by
  unfold may
  rw [hS]
  rfl
theorem all_range_succ {p : Nat → Bool} {j : Nat} : (List.range (j + 1)).all p = ((List.range j).all p && p j) := by
  rw [List.range_succ, List.all_append]
  simp
set_option maxRecDepth 100000 in
set_option maxHeartbeats 12800000 in
theorem cFit {w : World} {D : List Dd} {F os : List Int} {fv ov : Value} {ad : Option Addr} {cap : Nat} (hF : IV w fv F) (hD : DsAt w ad D) (hO : IV w ov os) (hne : F ≠ []) (hFl : F.length ≤ 1000) (hDl : D.length ≤ 1000) (hOl : os.length ≤ 1000000) (hr : ∀ i, i < D.length → (dAt D i).right F.length) :
    Calls Tryd.prog 16 #[fv, .slice ad D.length cap, ov] w fun r w' => r = .returned (.bool (fitGo D (bitsP 0) (v0F F) os)) ∧ Turned [] w w' := by
  have HF : Hid (IV w fv F) := hF
  have HD : Hid (DsAt w ad D) := hD
  have HO : Hid (IV w ov os) := hO
  have HR : Hid (∀ i, i < D.length → (dAt D i).right F.length) := hr
  have HNe : Hid (F ≠ []) := hne
  obtain ⟨fa, fc, rfl, -, -⟩ := hF.ex
  obtain ⟨oa, oc, rfl, -, -⟩ := hO.ex
  have hmk := fun w => run_mkBl D.length (by omega) w
  clear hF hD hO hr hne
  go_enter Tryd.func16, Tryd.ntmps16
  go_wp2_with (at_builtin; refine wpList_apInts (v := .slice none 0 0) (u := .slice fa F.length fc) (l := []) (ms := F) (B := w.heap.size) rfl _ _ rfl rfl rfl (IR.nil _ _) rfl HF.out (by simp) (by omega) (Nat.le_refl _) ?_; intro v1 w1 hr1 ht1 ho1; have HI1 : Hid (IR w.heap.size w1 v1 F) := hr1; have HT1 : Hid (Turned [] w w1) := ht1; clear hr1 ht1 ho1)
  obtain ⟨cg, cc0, hc, rfl, hcb, hch, hcs⟩ := held_of HI1.out HNe.out
  have HFS : Hid (FtS w D F.length cg w1.heap.size (bitsP 0) (v0F F) (w1.alloc (.cells (madeCells #[.bool false] D.length) 4 (0, 0)))) := by
    refine ⟨HT1.out.alloc _, ⟨hc, blk_old hch _, hcs⟩, ⟨_, blk_new w1 _, fun i hi => ?_⟩, hcb, HT1.out.size⟩
    rw [made_bl _ _ hi, bitsP0]
  clear hmk hch hcs hcb HI1 HNe
  generalize w1.alloc (Obj.cells (madeCells #[Value.bool false] D.length) 4 (0, 0)) = x0 at HFS ⊢
  generalize w1.heap.size = gb at HFS ⊢
  clear HT1
  go_loopw [9] (fun i wx => FX w D F.length cg gb (v0F F) os i wx) (fun i _ => os.length - (intOf i).toNat)
  case atStart => exact ⟨0, _, _, Nat.zero_le _, rfl, HFS.out, rfl⟩
  case round =>
    obtain ⟨t, S, v, ht, rfl, hS, hG⟩ := hrel.ex
    have HS : Hid _ := hS
    have HG : Hid _ := hG
    clear hrel hS hG HFS
    by_cases hlt : t < os.length
    · obtain ⟨ob, oo, oc2, eo, hob, hox⟩ := (HO.out.still HS.out.tu).get hlt
      simp only [Value.slice.injEq] at eo
      obtain ⟨rfl, -, rfl⟩ := eo
      have HDr : Hid (os.drop t = os.getD t 0 :: os.drop (t + 1)) := by
        rw [Hid, List.drop_eq_getElem_cons hlt]
        simp [hlt]
      generalize os.getD t 0 = k at *
      have HB : Hid (fitGo D (bitsP 0) (v0F F) os = (decide (0 ≤ k) && (decide (k < D.length) && (may D S k.toNat && ((dAt D k.toNat).fits (v (dAt D k.toNat).a) && fitGo D (S.upd k.toNat) (stepV D v k.toNat) (os.drop (t + 1))))))) := by
        rw [Hid, HG.out, HDr.out]
        rfl
      by_cases g1 : k < 0
      · have d1 : decide (k < 0) = true := decide_eq_true g1
        have HE : Hid (fitGo D (bitsP 0) (v0F F) os = false) := by rw [Hid, HB.out, decide_eq_false (by omega)]; rfl
        go_wp2
        go_ret
        exact ⟨by rw [HE.out]; rfl, HS.out.tu⟩
      · have d1 : decide (k < 0) = false := decide_eq_false g1
        by_cases g2 : (D.length : Int) ≤ k
        · have d2 : decide ((D.length : Int) ≤ k) = true := decide_eq_true g2
          have HE : Hid (fitGo D (bitsP 0) (v0F F) os = false) := by rw [Hid, HB.out, decide_eq_false (show ¬ k < D.length by omega)]; simp
          go_wp2
          go_ret
          exact ⟨by rw [HE.out]; rfl, HS.out.tu⟩
        · have d2 : decide ((D.length : Int) ≤ k) = false := decide_eq_false g2
          obtain ⟨kk, rfl⟩ : ∃ kk : Nat, k = kk := ⟨k.toNat, by omega⟩
          have hkk : kk < D.length := by omega
          have HB2 : Hid (fitGo D (bitsP 0) (v0F F) os = (may D S kk && ((dAt D kk).fits (v (dAt D kk).a) && fitGo D (S.upd kk) (stepV D v kk) (os.drop (t + 1))))) := by
            have := HB.out
            rw [decide_eq_true (by omega), decide_eq_true (by omega), Int.toNat_natCast] at this
            exact this
          clear HB HDr HG g1 g2
          obtain ⟨fl1, fl2, fcell, fins⟩ := HS.out.facts
          obtain ⟨i1, i2⟩ := fins kk hkk
          cases d3 : S kk with
          | true =>
            rw [d3] at i1
            have HE : Hid (fitGo D (bitsP 0) (v0F F) os = false) := by
              rw [Hid, HB2.out]
              unfold may
              rw [d3]
              rfl
            clear fcell fins
            go_wp2
            go_ret
            exact ⟨by rw [HE.out]; rfl, HS.out.tu⟩
          | false =>
            rw [d3] at i1
            have HMs : Hid (may D S kk = (List.range D.length).all fun j => !wasA (dAt D j).e (dAt D kk).b || S j) := may_split d3
            obtain ⟨b, o, rfl⟩ : ∃ b o, ad = some ⟨b, o, none⟩ := by
              obtain ⟨b, o, e, _⟩ := HD.out.all kk _ (List.getElem?_eq_getElem hkk)
              exact ⟨b, o, e⟩
            have HDa : Hid (∀ y, Turned [] w y → ∀ j, j < D.length → b < y.heap.size ∧ DAt y b o j (dAt D j)) := fun y hy j hj => by
              have hd : D[j]? = some (dAt D j) := by unfold dAt; simp [hj]
              obtain ⟨b', o', e, hb, h⟩ := (HD.out.still hy).deed hd
              cases e
              exact ⟨hb, h⟩
            clear fcell fins
            go_wp2
            rename_i K hK
            have HK : Hid _ := hK
            clear hK i1 i2 fl1 fl2 hob hox
            obtain ⟨w2, hw2⟩ : ∃ w2, w2 = wr := ⟨_, rfl⟩
            have HS2 : Hid (FtS w D F.length cg gb S v w2) := by rw [Hid, hw2]; exact HS.out
            rw [← hw2]
            clear hw2 HS
            go_loopw [11] (fun j wx => ∃ jj : Nat, jj ≤ D.length ∧ j = .int .i64 jj ∧ Hid (((List.range jj).all fun j => !wasA (dAt D j).e (dAt D kk).b || S j) = true) ∧ Hid (FtS w D F.length cg gb S v wx)) (fun j _ => D.length - (intOf j).toNat)
            case atStart => exact ⟨0, Nat.zero_le _, rfl, rfl, HS2⟩
            case round =>
              obtain ⟨jj, hjj, rfl, HA, HS3⟩ := hrel
              by_cases hlt2 : jj < D.length
              · obtain ⟨-, el2, -, eins⟩ := HS3.out.facts
                obtain ⟨e1, -⟩ := eins jj hlt2
                obtain ⟨bl, dj⟩ := HDa.out wr HS3.out.tu jj hlt2
                obtain ⟨-, dk⟩ := HDa.out wr HS3.out.tu kk hkk
                have j1 := dj.h1
                have k0 := dk.h0
                clear dj dk eins
                have HAs : Hid (((List.range (jj + 1)).all fun j => !wasA (dAt D j).e (dAt D kk).b || S j) = (!wasA (dAt D jj).e (dAt D kk).b || S jj)) := by rw [Hid, all_range_succ, HA.out]; rfl
                cases d4 : S jj with
                | true =>
                  rw [d4] at e1
                  have HA2 : Hid (((List.range (jj + 1)).all fun j => !wasA (dAt D j).e (dAt D kk).b || S j) = true) := by rw [Hid, HAs.out, d4]; simp
                  go_wp2
                  go_quiet (fail)
                  go_wp2
                  go_roundw
                  case rel => exact ⟨jj + 1, by omega, by go_num, HA2, HS3.out.still ((Turned.refl [] _).drewN _)⟩
                  case measure => simp [intOf]; omega
                | false =>
                  rw [d4] at e1
                  rcases (by omega : (dAt D jj).e = 0 ∨ ((dAt D jj).e ≠ 0 ∧ ¬ (dAt D jj).e < (dAt D kk).b) ∨ ((dAt D jj).e ≠ 0 ∧ (dAt D jj).e < (dAt D kk).b)) with g | ⟨g, g'⟩ | ⟨g, g'⟩
                  · have HA2 : Hid (((List.range (jj + 1)).all fun j => !wasA (dAt D j).e (dAt D kk).b || S j) = true) := by rw [Hid, HAs.out]; unfold wasA; rw [decide_eq_false (fun h => h g)]; rfl
                    rw [g] at j1
                    go_wp2
                    go_quiet (fail)
                    go_wp2
                    go_roundw
                    case rel => exact ⟨jj + 1, by omega, by go_num, HA2, HS3.out.still ((Turned.refl [] _).drewN _)⟩
                    case measure => simp [intOf]; omega
                  · have HA2 : Hid (((List.range (jj + 1)).all fun j => !wasA (dAt D j).e (dAt D kk).b || S j) = true) := by rw [Hid, HAs.out]; unfold wasA; rw [decide_eq_false g']; simp
                    have g1 : ((dAt D jj).e != 0) = true := by simpa using g
                    have g2 : decide ((dAt D jj).e < (dAt D kk).b) = false := decide_eq_false g'
                    clear g g'
                    go_wp2
                    go_quiet (fail)
                    go_wp2
                    go_roundw
                    case rel => exact ⟨jj + 1, by omega, by go_num, HA2, HS3.out.still ((Turned.refl [] _).drewN _)⟩
                    case measure => simp [intOf]; omega
                  · have HE : Hid (fitGo D (bitsP 0) (v0F F) os = false) := by
                      rw [Hid, HB2.out, HMs.out]
                      have : ((List.range D.length).all fun j => !wasA (dAt D j).e (dAt D kk).b || S j) = false := by
                        rw [List.all_eq_false]
                        refine ⟨jj, List.mem_range.2 hlt2, ?_⟩
                        rw [d4]
                        unfold wasA
                        rw [decide_eq_true g, decide_eq_true g']
                        simp
                      rw [this]
                      rfl
                    have g1 : ((dAt D jj).e != 0) = true := by simpa using g
                    have g2 : decide ((dAt D jj).e < (dAt D kk).b) = true := decide_eq_true g'
                    go_wp2
                    go_quiet (fail)
                    go_wp2
                    go_ret
                    exact ⟨by rw [HE.out]; rfl, HS3.out.tu.drewN _⟩
              · have e : jj = D.length := by omega
                subst e
                have HMay : Hid (may D S kk = true) := by rw [Hid, HMs.out]; exact HA.out
                clear HA
                go_wp2
                refine HK.out _ _ ?_
                clear HK
                obtain ⟨f1, f2, -, fi⟩ := HS3.out.facts
                obtain ⟨i1, i2⟩ := fi kk hkk
                clear fi
                refine wp_seq_k fun K14 hK => ?_
                have H14 : Hid _ := hK
                clear hK
                go_wp2
                refine H14.out _ _ ?_
                clear H14 K14 f1 f2 i1 i2
                have HS4 : Hid (FtS w D F.length cg gb (S.upd kk) v (wr.setCell ⟨gb, kk, none⟩ (.bool true))) := HS3.out.mark hkk
                generalize wr.setCell ⟨gb, kk, none⟩ (.bool true) = y at HS4 ⊢
                clear HS3
                obtain ⟨bl, dk⟩ := HDa.out y HS4.out.tu kk hkk
                obtain ⟨k0, k1, k2, k3, k4, k5, k6, k7⟩ := dk
                have HRt : Hid (Dd.right F.length (dAt D kk)) := HR.out kk hkk
                generalize hd : dAt D kk = d at k0 k1 k2 k3 k4 k5 k6 k7 HRt HB2
                have Hd : Hid (dAt D kk = d) := hd
                clear hd
                refine wp_seq_k fun K15 hK => ?_
                have H15 : Hid _ := hK
                clear hK
                go_wp2
                refine H15.out _ _ ?_
                clear H15 K15 bl k0 k1 k2 k3 k4 k5 k6 k7
                have HS5 : Hid (FtS w D F.length cg gb (S.upd kk) v (y.alloc (.cells (dcs d).toArray 27 (0, 0)))) := HS4.out.still ((Turned.refl [] y).alloc _)
                have HBx : Hid ((y.alloc (.cells (dcs d).toArray 27 (0, 0))).heap[y.heap.size]? = some (.cells (dcs d).toArray 27 (0, 0))) := blk_new y _
                generalize y.alloc (.cells (dcs d).toArray 27 (0, 0)) = y2 at HS5 HBx ⊢
                generalize y.heap.size = db at HBx ⊢
                clear HS4 y
                obtain ⟨r1, r2, r3, r4, -, -⟩ := HRt.out
                obtain ⟨ix, hix⟩ : ∃ ix : Nat, d.a = ix := ⟨d.a.toNat, by omega⟩
                have hixl : ix < F.length := by omega
                obtain ⟨bl, -, -, -, b3, -, -, -, -⟩ := cells8 HBx.out
                rw [hix] at b3
                obtain ⟨cl, -, ci, -⟩ := HS5.out.facts
                obtain ⟨ci1, ci2⟩ := ci ix hixl
                clear ci
                refine wp_seq_k fun K16 hK => ?_
                have H16 : Hid _ := hK
                clear hK
                go_wp2
                refine H16.out _ _ ?_
                clear H16 K16
                refine wp_seq_k fun K17 hK => ?_
                have H17 : Hid _ := hK
                clear hK
                go_wp2
                refine H17.out _ _ ?_
                clear H17 K17 bl b3 cl
                refine wp_seq (fit_sw (d := d) (v := v ix) (db := db) rfl rfl r1 r2 rfl rfl rfl rfl rfl HBx.out ?_)
                intro a2 n2 hs2 hd2 hoff q14 q15 q16
                refine fit_tail (d := d) (v := v ix) (ix := ix) (m := F.length) (db := db) (cg := cg) (cc0 := cc0) (nx := d.next (v ix)) (old := v ix) hs2 hd2 hix hixl (hoff 7 (by decide)) (hoff 12 (by decide)) q14 q15 q16 HBx.out ci1 ci2 ?_ ?_
                · intro hft a3 hs3 hd3 h3
                  have HS6 : Hid (FtS w D F.length cg gb (S.upd kk) (updV v ix (d.next (v ix))) ((y2.drewN n2).setCell ⟨cg, ix, none⟩ (.int .i64 (d.next (v ix))))) := (HS5.out.still ((Turned.refl [] y2).drewN n2)).write hixl _
                  have HG6 : Hid (fitGo D (bitsP 0) (v0F F) os = fitGo D (S.upd kk) (updV v ix (d.next (v ix))) (os.drop (t + 1))) := by
                    have e1 : stepV D v kk = updV v ix (d.next (v ix)) := by
                      unfold stepV
                      rw [Hd.out, hix]
                    rw [Hid, HB2.out, HMay.out, hix, hft, e1]
                    rfl
                  generalize (y2.drewN n2).setCell ⟨cg, ix, none⟩ (.int .i64 (d.next (v ix))) = y3 at HS6 ⊢
                  obtain ⟨cc, hcc, hce⟩ := expand184 hs3 hd3
                  have z0 : cc 0 = .slice fa F.length fc := (hce 0).trans ((h3 0 (by decide)).trans (hoff 0 (by decide)))
                  have z1 : cc 1 = .slice (some ⟨b, o, none⟩) D.length cap := (hce 1).trans ((h3 1 (by decide)).trans (hoff 1 (by decide)))
                  have z2 : cc 2 = .slice (some ⟨ob, oo, none⟩) os.length oc := (hce 2).trans ((h3 2 (by decide)).trans (hoff 2 (by decide)))
                  have z3 : cc 3 = undef := (hce 3).trans ((h3 3 (by decide)).trans (hoff 3 (by decide)))
                  have z4 : cc 4 = undef := (hce 4).trans ((h3 4 (by decide)).trans (hoff 4 (by decide)))
                  have z5 : cc 5 = undef := (hce 5).trans ((h3 5 (by decide)).trans (hoff 5 (by decide)))
                  have z7 : cc 7 = .slice (some ⟨cg, 0, none⟩) F.length cc0 := (hce 7).trans ((h3 7 (by decide)).trans (hoff 7 (by decide)))
                  have z8 : cc 8 = .slice (some ⟨gb, 0, none⟩) D.length D.length := (hce 8).trans ((h3 8 (by decide)).trans (hoff 8 (by decide)))
                  have z9 : cc 9 = .int .i64 (t : Nat) := (hce 9).trans ((h3 9 (by decide)).trans (hoff 9 (by decide)))
                  have z17 : cc 17 = undef := (hce 17).trans ((h3 17 (by decide)).trans (hoff 17 (by decide)))
                  have z18 : cc 18 = .slice fa F.length fc := (hce 18).trans ((h3 18 (by decide)).trans (hoff 18 (by decide)))
                  have z19 : cc 19 = .slice (some ⟨cg, 0, none⟩) F.length cc0 := (hce 19).trans ((h3 19 (by decide)).trans (hoff 19 (by decide)))
                  have z20 : cc 20 = .slice (some ⟨b, o, none⟩) D.length cap := (hce 20).trans ((h3 20 (by decide)).trans (hoff 20 (by decide)))
                  have z21 : cc 21 = .int .i64 (D.length : Nat) := (hce 21).trans ((h3 21 (by decide)).trans (hoff 21 (by decide)))
                  have z22 : cc 22 = .slice (some ⟨gb, 0, none⟩) D.length D.length := (hce 22).trans ((h3 22 (by decide)).trans (hoff 22 (by decide)))
                  have z165 : cc 165 = undef := (hce 165).trans ((h3 165 (by decide)).trans (hoff 165 (by decide)))
                  have z166 : cc 166 = undef := (hce 166).trans ((h3 166 (by decide)).trans (hoff 166 (by decide)))
                  have z167 : cc 167 = undef := (hce 167).trans ((h3 167 (by decide)).trans (hoff 167 (by decide)))
                  have z168 : cc 168 = undef := (hce 168).trans ((h3 168 (by decide)).trans (hoff 168 (by decide)))
                  have z169 : cc 169 = undef := (hce 169).trans ((h3 169 (by decide)).trans (hoff 169 (by decide)))
                  have z170 : cc 170 = undef := (hce 170).trans ((h3 170 (by decide)).trans (hoff 170 (by decide)))
                  have z171 : cc 171 = undef := (hce 171).trans ((h3 171 (by decide)).trans (hoff 171 (by decide)))
                  have z172 : cc 172 = undef := (hce 172).trans ((h3 172 (by decide)).trans (hoff 172 (by decide)))
                  have z173 : cc 173 = undef := (hce 173).trans ((h3 173 (by decide)).trans (hoff 173 (by decide)))
                  have z174 : cc 174 = undef := (hce 174).trans ((h3 174 (by decide)).trans (hoff 174 (by decide)))
                  have z175 : cc 175 = undef := (hce 175).trans ((h3 175 (by decide)).trans (hoff 175 (by decide)))
                  have z176 : cc 176 = undef := (hce 176).trans ((h3 176 (by decide)).trans (hoff 176 (by decide)))
                  have z177 : cc 177 = undef := (hce 177).trans ((h3 177 (by decide)).trans (hoff 177 (by decide)))
                  have z178 : cc 178 = undef := (hce 178).trans ((h3 178 (by decide)).trans (hoff 178 (by decide)))
                  have z179 : cc 179 = undef := (hce 179).trans ((h3 179 (by decide)).trans (hoff 179 (by decide)))
                  have z180 : cc 180 = undef := (hce 180).trans ((h3 180 (by decide)).trans (hoff 180 (by decide)))
                  have z181 : cc 181 = undef := (hce 181).trans ((h3 181 (by decide)).trans (hoff 181 (by decide)))
                  have z182 : cc 182 = undef := (hce 182).trans ((h3 182 (by decide)).trans (hoff 182 (by decide)))
                  have z183 : cc 183 = undef := (hce 183).trans ((h3 183 (by decide)).trans (hoff 183 (by decide)))
                  clear hce h3 hoff hs3 hd3 hs2 hd2 q14 q15 q16 ci1 ci2 HS5 HBx
                  subst hcc
                  simp only [Exit.inBlock, Exit.then, lit184, z0, z1, z2, z3, z4, z5, z7, z8, z9, z17, z18, z19, z20, z21, z22, z165, z166, z167, z168, z169, z170, z171, z172, z173, z174, z175, z176, z177, z178, z179, z180, z181, z182, z183]
                  go_wp2
                  go_roundw
                  case rel => exact ⟨t + 1, _, _, by omega, by go_num, HS6.out, HG6.out⟩
                  case measure => simp [intOf]; omega
                · intro hft a3 hd3 h6
                  have HE : Hid (fitGo D (bitsP 0) (v0F F) os = false) := by
                    rw [Hid, HB2.out, hix, hft]
                    simp
                  simp only [Exit.inBlock, Exit.then]
                  exact bodyPost_ret (P := Tryd.prog) (fn := Tryd.f16) (R := fun r w' => r = .returned (.bool (fitGo D (bitsP 0) (v0F F) os)) ∧ Turned [] w w') (results_tmp rfl _ _ _) hd3 ⟨by rw [HE.out]; exact congrArg Ending.returned h6, HS5.out.tu.drewN n2⟩
    · have e : t = os.length := by omega
      subst e
      have HAl : Hid (fitGo D (bitsP 0) (v0F F) os = (List.range D.length).all fun j => decide ((dAt D j).e = 0) || S j) := by
        rw [Hid, HG.out, List.drop_length]
        rfl
      clear HG
      obtain ⟨w2, hw2⟩ : ∃ w2, w2 = wr := ⟨_, rfl⟩
      have HS2 : Hid (FtS w D F.length cg gb S v w2) := by rw [Hid, hw2]; exact HS.out
      rw [← hw2]
      clear hw2 HS
      go_wp2
      go_loopw [17] (fun j wx => ∃ jj : Nat, jj ≤ D.length ∧ j = .int .i64 jj ∧ Hid (((List.range jj).all fun j => decide ((dAt D j).e = 0) || S j) = true) ∧ Hid (FtS w D F.length cg gb S v wx)) (fun j _ => D.length - (intOf j).toNat)
      case atStart => exact ⟨0, Nat.zero_le _, rfl, rfl, HS2⟩
      case round =>
        obtain ⟨jj, hjj, rfl, HA, HS3⟩ := hrel
        by_cases hlt2 : jj < D.length
        · have hd : D[jj]? = some (dAt D jj) := by unfold dAt; simp [hlt2]
          obtain ⟨b, o, rfl, bl, dj⟩ := (HD.out.still HS3.out.tu).deed hd
          obtain ⟨-, el2, -, eins⟩ := HS3.out.facts
          obtain ⟨e1, -⟩ := eins jj hlt2
          have j1 := dj.h1
          have HAs : Hid (((List.range (jj + 1)).all fun j => decide ((dAt D j).e = 0) || S j) = (decide ((dAt D jj).e = 0) || S jj)) := by rw [Hid, all_range_succ, HA.out]; rfl
          clear dj eins hd
          by_cases g : (dAt D jj).e = 0
          · have HA2 : Hid (((List.range (jj + 1)).all fun j => decide ((dAt D j).e = 0) || S j) = true) := by rw [Hid, HAs.out, decide_eq_true g]; rfl
            rw [g] at j1
            clear g
            go_wp2
            go_roundw
            case rel => exact ⟨jj + 1, by omega, by go_num, HA2, HS3⟩
            case measure => simp [intOf]; omega
          · have g1 : ((dAt D jj).e != 0) = true := by simpa using g
            cases d4 : S jj with
            | true =>
              rw [d4] at e1
              have HA2 : Hid (((List.range (jj + 1)).all fun j => decide ((dAt D j).e = 0) || S j) = true) := by rw [Hid, HAs.out, d4]; simp
              clear g
              go_wp2
              go_roundw
              case rel => exact ⟨jj + 1, by omega, by go_num, HA2, HS3⟩
              case measure => simp [intOf]; omega
            | false =>
              rw [d4] at e1
              have HE : Hid (fitGo D (bitsP 0) (v0F F) os = false) := by
                rw [Hid, HAl.out, List.all_eq_false]
                exact ⟨jj, List.mem_range.2 hlt2, by rw [d4, decide_eq_false g]; simp⟩
              clear g
              go_wp2
              go_ret
              exact ⟨by rw [HE.out]; rfl, HS3.out.tu⟩
        · have e : jj = D.length := by omega
          subst e
          go_wp2
          go_ret
          exact ⟨by rw [HAl.out, HA.out]; rfl, HS3.out.tu⟩
end Go.Proofs.YtbielnehggcaoaaDoor
/-
  Deeds that were done one behind the other have an order. (By the verifier; no statement, no memory.)
-/
namespace Go.Proofs.YtbielnehggcaoaaDoor
open Go.RowKit
def runV (v : Int → Int) : List Dd → Int → Int
  | [] => v
  | d :: l => runV (updV v d.a (d.next (v d.a))) l
def okRun (v : Int → Int) : List Dd → Prop
  | [] => True
  | d :: l => d.fits (v d.a) = true ∧ okRun (updV v d.a (d.next (v d.a))) l
theorem runV_append (v : Int → Int) (l : List Dd) (d : Dd) : runV v (l ++ [d]) = updV (runV v l) d.a (d.next (runV v l d.a)) := by
  induction l generalizing v with
  | nil => rfl
  | cons x l ih => exact ih _
theorem okRun_append {v : Int → Int} {l : List Dd} {d : Dd} (h : okRun v l) (hd : d.fits (runV v l d.a) = true) : okRun v (l ++ [d]) := by
  induction l generalizing v with
  | nil => exact ⟨hd, trivial⟩
  | cons x l ih => exact ⟨h.1, ih h.2 hd⟩
/-- The times of the i-th deed. -/
structure Tm (i : Nat) (d : Dd) : Prop where
  b1 : 1 ≤ d.b
  b2 : 4 * (i : Int) - 8 ≤ d.b
  b3 : d.b ≤ 1 + 4 * i
  e1 : 1 + 4 * (i : Int) ≤ d.e
  e2 : d.e ≤ 10 + 4 * i
  k1 : 1 ≤ d.k
  k2 : d.k ≤ 7
  a1 : 0 ≤ d.a
  a2 : d.a < 3
variable {D : List Dd}
theorem goes_run (ht : ∀ i, i < D.length → Tm i (dAt D i)) : ∀ (n i : Nat) (v : Int → Int), i + n = D.length → okRun v (D.drop i) → Goes D (fun j => decide (j < i)) v (List.range' i n)
  | 0, i, v, hn, _ => .nil (allIn_iff.2 fun j hj _ => decide_eq_true (by omega))
  | n + 1, i, v, hn, h => by
    have hi : i < D.length := by omega
    have e : D.drop i = dAt D i :: D.drop (i + 1) := by
      rw [List.drop_eq_getElem_cons hi]
      congr 1
      unfold dAt
      simp [hi]
    rw [e] at h
    rw [List.range'_succ]
    refine .cons hi (may_iff.2 ⟨decide_eq_false (by omega), fun j hj hw => ?_⟩) h.1 ?_
    · refine decide_eq_true ?_
      have h1 := ht j hj
      have h2 := ht i hi
      have hw2 : (dAt D j).e < (dAt D i).b := by
        unfold wasA at hw
        simp only [Bool.and_eq_true, decide_eq_true_eq] at hw
        exact hw.2
      have := h1.e1
      have := h2.b3
      omega
    · have eS : Pl.upd (fun j => decide (j < i)) i = fun j => decide (j < i + 1) := by
        funext j
        unfold Pl.upd
        show (decide (j < i) || decide (j = i)) = decide (j < i + 1)
        by_cases g : j < i
        · rw [decide_eq_true g, decide_eq_true (show j < i + 1 by omega)]; rfl
        · by_cases g2 : j = i
          · rw [decide_eq_true g2, decide_eq_true (show j < i + 1 by omega)]; simp
          · rw [decide_eq_false g, decide_eq_false g2, decide_eq_false (show ¬ j < i + 1 by omega)]; rfl
      rw [eS]
      exact goes_run ht n (i + 1) _ (by omega) h.2
theorem cnt_range (t : Int) : ∀ n, n ≤ D.length → cntB (D.take n) t = ((List.range n).filter fun j => inB t (dAt D j)).length
  | 0, _ => rfl
  | n + 1, h => by
    have hd : D[n]? = some (dAt D n) := by unfold dAt; simp [show n < D.length by omega]
    rw [cnt_take hd, cnt_range t n (by omega), List.range_succ, List.filter_append, List.length_append]
    congr 1
    cases hq : inB t (dAt D n) <;> simp [hq]
theorem few_at (i : Nat) (p : Nat → Bool) (hp : ∀ j, p j = true → i ≤ j + 4 ∧ j ≤ i + 2) : ∀ n, ((List.range n).filter p).length + (i - 4) ≤ max (min n (i + 3)) (i - 4)
  | 0 => by simp
  | n + 1 => by
    have ih := few_at i p hp n
    rw [List.range_succ, List.filter_append, List.length_append]
    cases hq : p n with
    | false => simp only [List.filter_cons, List.filter_nil, hq, Bool.false_eq_true, if_false, List.length_nil]; omega
    | true =>
      have := hp n hq
      simp only [List.filter_cons, List.filter_nil, hq, if_true, List.length_cons, List.length_nil]
      omega
theorem chk_run (hl : D.length ≤ 64) (ht : ∀ i, i < D.length → Tm i (dAt D i)) : chkD 3 D = 0 := by
  unfold chkD
  rw [if_neg (by omega)]
  have h1 : D.all (rightB 3) = true := by
    rw [List.all_eq_true]
    intro d hd
    obtain ⟨i, hi, rfl⟩ := List.getElem_of_mem hd
    have h := ht i hi
    have e : dAt D i = D[i] := by unfold dAt; simp [hi]
    rw [e] at h
    unfold rightB timeB
    rw [decide_eq_true h.k1, decide_eq_true h.k2, decide_eq_true h.a1, decide_eq_true h.a2, decide_eq_true h.b1, decide_eq_true (show D[i].b ≤ D[i].e by have := h.b3; have := h.e1; omega)]
    simp
  rw [if_pos h1]
  have h2 : (D.all fun d => decide (cntB D d.b ≤ 8)) = true := by
    rw [List.all_eq_true]
    intro d hd
    obtain ⟨i, hi, rfl⟩ := List.getElem_of_mem hd
    refine decide_eq_true ?_
    have e : dAt D i = D[i] := by unfold dAt; simp [hi]
    have hti := ht i hi
    rw [e] at hti
    have hc := cnt_range (D := D) D[i].b D.length (Nat.le_refl _)
    rw [List.take_length] at hc
    have hf := few_at i (fun j => inB D[i].b (dAt D j) && decide (j < D.length)) (fun j hj => by
      rw [Bool.and_eq_true, decide_eq_true_eq] at hj
      have htj := ht j hj.2
      have h3 := hj.1
      unfold inB wasA at h3
      simp only [Bool.and_eq_true, decide_eq_true_eq, Bool.not_eq_true', Bool.and_eq_false_iff, decide_eq_false_iff_not] at h3
      have := htj.e1
      have := htj.e2
      have := htj.b2
      have := hti.b2
      have := hti.b3
      omega) D.length
    have he : ((List.range D.length).filter fun j => inB D[i].b (dAt D j)) = (List.range D.length).filter fun j => inB D[i].b (dAt D j) && decide (j < D.length) := by
      refine List.filter_congr fun j hj => ?_
      rw [decide_eq_true (List.mem_range.1 hj), Bool.and_true]
    rw [hc, he]
    omega
  rw [if_pos h2]
theorem can_run (ht : ∀ i, i < D.length → Tm i (dAt D i)) {v : Int → Int} (h : okRun v D) : Can D (bitsP 0) v := by
  have := goes_run ht D.length 0 v (by omega) (by simpa using h)
  refine ⟨List.range' 0 D.length, ?_⟩
  have e : bitsP 0 = fun j => decide (j < 0) := by
    rw [bitsP0]
    funext j
    simp
  rw [e]
  exact this
end Go.Proofs.YtbielnehggcaoaaDoor
