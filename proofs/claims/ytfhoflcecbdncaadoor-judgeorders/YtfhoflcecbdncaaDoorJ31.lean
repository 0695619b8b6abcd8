/-
  The document's search by contract: the second half of its walk. (By the verifier; no statement.)
-/
import Derived.Test.YtfhoflcecbdncaaDoorJ30
import Derived.Deep.CutRange
import Derived.Deep.RegionHeld3
namespace Go.Proofs.YtfhoflcecbdncaaDoor
open Go.RowKit
set_option maxRecDepth 100000 in
set_option maxHeartbeats 12800000 in
theorem goes_tail {D : List Dd} {m B xb vb : Nat} {ad : Option Addr} {cap : Nat} {bs : List Bool} {cs : List Int} {os : List Nat} {gs0 : List Nat} {N : Nat} {w x2 : World} {p : SP} {oa : Option Addr} {oc sb : Nat} {a : Act} (hn : D.length ≤ 14) (hm : m ≤ 256) (hol : os.length ≤ D.length) (HR : Hid (∀ i, i < D.length → (dAt D i).right m)) (HBd : Hid (∀ b o, ad = some ⟨b, o, none⟩ → b < B)) (HIH : Hid (∀ k, k < D.length → pL bs k = false → GoesC D m B xb vb ad cap (bs.set k true))) (HN : Hid (N + tN (outN D.length (pL bs)) ≤ tN 14)) (HLn : Hid (os.length + outN D.length (pL bs) ≤ D.length)) (HAl : Hid (allIn D (pL bs) = false))
    (HG5 : Hid (GI D m B xb vb ad cap bs cs os w gs0 sb p oa oc N x2 gs0)) (hs : a.tmps.size = 167) (hd : a.defers = []) (p0 : a.eval (.tmp 0) = .pointer (some ⟨xb, 0, none⟩)) (p2 : a.eval (.tmp 2) = .slice oa os.length oc) (p4 : a.eval (.tmp 4) = .pointer (some ⟨sb, 0, none⟩)) (p10 : a.eval (.tmp 10) = .int .i64 (os.length : Int)) :
    (atc Tryd.f35.body [1, 1, 1, 1, 1, 1]).wp Tryd.prog (bodyPost Tryd.prog Tryd.f35 fun r w' => GoP D m B xb vb (.slice ad D.length cap) bs cs os gs0 N w r w') a x2 := by
  obtain ⟨cc, hcc, hce⟩ := expand167 hs hd
  have z0 := (hce 0).trans p0
  have z2 := (hce 2).trans p2
  have z4 := (hce 4).trans p4
  have z10 := (hce 10).trans p10
  clear hce p0 p2 p4 p10 hs hd
  subst hcc
  conv => arg 2; whnf
  unfold lit167
  simp only [z0, z2, z4, z10]
  refine wp_seq_k fun K9 hK9 => ?_
  have HK9 : Hid _ := hK9
  clear hK9
  have HT1 : Hid (outN D.length (pL bs) = outN D.length (pL bs) - 1 + 1) := by
    have hpos : 0 < outN D.length (pL bs) := by
      apply Classical.byContradiction
      intro hq
      have h0 : outN D.length (pL bs) = 0 := by omega
      have hA := HAl.out
      unfold allIn at hA
      rw [List.all_eq_false] at hA
      obtain ⟨i, hi, hf⟩ := hA
      have h1 : pL bs i = false := by
        cases hp : pL bs i with
        | false => rfl
        | true => rw [hp] at hf; simp at hf
      have := outN_upd (List.mem_range.1 hi) h1
      omega
    rw [Hid]
    omega
  go_wp2
  go_loopw [12, 13, 14, 15, 16, 17] (fun k _ _ _ _ _ wx => Bx (∃ j : Nat, ∃ gs, j ≤ D.length ∧ k = .int .i64 j ∧ Hid (GI D m B xb vb ad cap bs cs os w gs0 sb p oa oc (N + outN j (pL bs) * tN (outN D.length (pL bs) - 1)) wx gs) ∧ Hid (∀ i, i < j → ¬ Nxt D (pL bs) (vL cs) i))) (fun k _ _ _ _ _ _ => D.length - (intOf k).toNat)
  case atStart => exact ⟨0, gs0, Nat.zero_le _, rfl, HG5.out.mono (by omega), fun i hi => absurd hi (Nat.not_lt_zero i)⟩
  case round =>
    obtain ⟨j, gs, hj, rfl, HG4, HNx⟩ := hrel.ex
    clear hrel HG5
    obtain ⟨r1, r2, r5, r3, r4, r6⟩ := HG4.out.reads
    by_cases hlt2 : j < D.length
    · have P1 := fun y (hy : Turned [] wr y) => cMay (w := y) (xb := xb) (vv := .slice (some ⟨vb, 0, none⟩) (D.length + 1) (D.length + 1)) (cap := cap) (ca := p.2.1) (cl := m) (cc := p.2.2) (HG4.out.ds.still hy) (by omega) (HG4.out.hu.still hy).hx (HG4.out.st.i.view.still hy) HG4.out.st.li hlt2
      cases d1 : may D (pL bs) j with
      | false =>
        rw [d1] at P1
        have HNx2 : Hid (∀ i, i < j + 1 → ¬ Nxt D (pL bs) (vL cs) i) := fun i hi => by
          by_cases e : i = j
          · subst e
            intro hx
            rw [hx.1] at d1
            cases d1
          · exact HNx.out i (by omega)
        go_wp2_with (go_at_call 52; refine (P1 _ (Turned.refl [] wr)).mono ?_; rintro r z ⟨rfl, tz⟩; have HZ : Hid _ := tz; clear tz)
        go_roundw
        case rel =>
          exact ⟨j + 1, gs, by omega, by go_num, (HG4.out.still HZ.out).mono (Nat.add_le_add_left (Nat.mul_le_mul_right _ (outN_mono (Nat.le_succ j) _)) _), HNx2⟩
        case measure => simp [intOf]; omega
      | true =>
        rw [d1] at P1
        have hS0 : pL bs j = false := (may_iff.1 d1).1
        have HMy : Hid (may D (pL bs) j = true) := d1
        clear d1
        go_wp2_with (go_at_call 52; refine (P1 _ (Turned.refl [] wr)).mono ?_; rintro r z ⟨rfl, tz⟩; have HZ : Hid _ := tz; clear tz)
        have HG6 : Hid (GI D m B xb vb ad cap bs cs os w gs0 sb p oa oc (N + outN j (pL bs) * tN (outN D.length (pL bs) - 1)) z gs) := HG4.out.still HZ.out
        clear P1 r1 r2 r3 r4 r5 r6 HG4 HZ
        obtain ⟨r1, r2, r5, r3, r4, r6⟩ := HG6.out.reads
        obtain ⟨b, o, rfl, bl, dk⟩ := HG6.out.deed hlt2
        obtain ⟨k0, k1, k2, k3, k4, k5, k6, k7⟩ := dk
        have HRt : Hid (Dd.right m (dAt D j)) := HR.out j hlt2
        obtain ⟨q1, q2, q3, q4, -, -⟩ := HRt.out
        obtain ⟨ix, hix⟩ : ∃ ix : Nat, (dAt D j).a = ix := ⟨(dAt D j).a.toNat, by omega⟩
        have hixl : ix < m := by omega
        obtain ⟨cb, ec, c1, c2⟩ := HG6.out.cell hixl
        have Hix : Hid ((dAt D j).a = ix) := hix
        rw [ec] at r6
        have P2 := fun y => cRAlone (d := dAt D j) (v := vL cs ix) (w := y) q1 q2
        rw [hix] at P2
        rw [hix] at k3
        have HSt : Hid (∀ y, Turned [] z y → (xb < y.heap.size ∧ y.cell? ⟨xb, 0, none⟩ = some (.slice (some ⟨b, o, none⟩) D.length cap) ∧ sb < y.heap.size ∧ y.cell? ⟨sb, 1, none⟩ = some (.slice (some ⟨cb, 0, none⟩) m p.2.2) ∧ b < y.heap.size ∧ cb < y.heap.size ∧ y.cell? ⟨cb, ix, none⟩ = some (.int .i64 (vL cs ix)) ∧ y.cell? ⟨b, o + j * 8, none⟩ = some (.int .i64 (dAt D j).b) ∧ y.cell? ⟨b, o + j * 8 + 1, none⟩ = some (.int .i64 (dAt D j).e) ∧ y.cell? ⟨b, o + j * 8 + 2, none⟩ = some (.int .i64 (dAt D j).k) ∧ y.cell? ⟨b, o + j * 8 + 3, none⟩ = some (.int .i64 ix) ∧ y.cell? ⟨b, o + j * 8 + 4, none⟩ = some (.int .i64 (dAt D j).x) ∧ y.cell? ⟨b, o + j * 8 + 5, none⟩ = some (.int .i64 (dAt D j).c) ∧ y.cell? ⟨b, o + j * 8 + 6, none⟩ = some (.int .i64 (dAt D j).n) ∧ y.cell? ⟨b, o + j * 8 + 7, none⟩ = some (.bool (dAt D j).ok))) := fun y hy => ⟨Nat.lt_of_lt_of_le r1 hy.size, hy.cell r2 (by simp), Nat.lt_of_lt_of_le r3 hy.size, hy.cell r6 (by simp), Nat.lt_of_lt_of_le bl hy.size, Nat.lt_of_lt_of_le c1 hy.size, hy.cell c2 (by simp), hy.cell k0 (by simp), hy.cell k1 (by simp), hy.cell k2 (by simp), hy.cell k3 (by simp), hy.cell k4 (by simp), hy.cell k5 (by simp), hy.cell k6 (by simp), hy.cell k7 (by simp)⟩
        have Hec : Hid (p.2.1 = some ⟨cb, 0, none⟩) := ec
        clear ec hix q1 q2 q3 q4 r1 r2 r3 r4 r5 r6 bl c1 c2 k0 k1 k2 k3 k4 k5 k6 k7
        go_cut [13, 14] from 76 to 150 (fun a b wx => Bx (a = .int .i64 ((dAt D j).next (vL cs ix)) ∧ b = .bool ((dAt D j).fits (vL cs ix)) ∧ Hid (Turned [] z wx)))
        case first =>
          go_region_held3 (fun y => xb < y.heap.size ∧ y.cell? ⟨xb, 0, none⟩ = some (.slice (some ⟨b, o, none⟩) D.length cap) ∧ sb < y.heap.size ∧ y.cell? ⟨sb, 1, none⟩ = some (.slice (some ⟨cb, 0, none⟩) m p.2.2) ∧ b < y.heap.size ∧ cb < y.heap.size ∧ y.cell? ⟨cb, ix, none⟩ = some (.int .i64 (vL cs ix)) ∧ y.cell? ⟨b, o + j * 8, none⟩ = some (.int .i64 (dAt D j).b) ∧ y.cell? ⟨b, o + j * 8 + 1, none⟩ = some (.int .i64 (dAt D j).e) ∧ y.cell? ⟨b, o + j * 8 + 2, none⟩ = some (.int .i64 (dAt D j).k) ∧ y.cell? ⟨b, o + j * 8 + 3, none⟩ = some (.int .i64 ix) ∧ y.cell? ⟨b, o + j * 8 + 4, none⟩ = some (.int .i64 (dAt D j).x) ∧ y.cell? ⟨b, o + j * 8 + 5, none⟩ = some (.int .i64 (dAt D j).c) ∧ y.cell? ⟨b, o + j * 8 + 6, none⟩ = some (.int .i64 (dAt D j).n) ∧ y.cell? ⟨b, o + j * 8 + 7, none⟩ = some (.bool (dAt D j).ok)) (first | exact HSt.out _ ((Turned.refl [] z).drew.trans HZ2.out) | exact HSt.out _ (Turned.refl [] z).drew) (first | (go_at_call 53; refine (P2 _).mono ?_; rintro r z2 ⟨rfl, tz⟩; have HZ2 : Hid _ := tz; clear tz))
          all_goals
            go_wp2_with fail
            go_meet
            exact ⟨rfl, rfl, (Turned.refl [] z).drew.trans HZ2.out⟩
        case rest =>
          obtain ⟨rfl, rfl, HZ2⟩ := hcut.ex
          clear hcut HSt P2
          obtain ⟨y0, rfl⟩ : ∃ y0, y0 = wc := ⟨_, rfl⟩
          have HG7 : Hid (GI D m B xb vb (some ⟨b, o, none⟩) cap bs cs os w gs0 sb p oa oc (N + outN j (pL bs) * tN (outN D.length (pL bs) - 1)) y0 gs) := HG6.out.still HZ2.out
          clear HG6 HZ2
          cases d2 : (dAt D j).fits (vL cs ix) with
          | false =>
            have HNx2 : Hid (∀ i, i < j + 1 → ¬ Nxt D (pL bs) (vL cs) i) := fun i hi => by
              by_cases e : i = j
              · subst e
                intro hx
                have h2 := hx.2.1
                rw [Hix.out, d2] at h2
                cases h2
              · exact HNx.out i (by omega)
            go_wp2
            go_roundw
            case rel =>
              exact ⟨j + 1, gs, by omega, by go_num, HG7.out.mono (Nat.add_le_add_left (Nat.mul_le_mul_right _ (outN_mono (Nat.le_succ j) _)) _), HNx2⟩
            case measure => simp [intOf]; omega
          | true =>
            have HFt : Hid ((dAt D j).fits (vL cs ix) = true) := d2
            clear d2
            go_wp2
            obtain ⟨-, -, -, r3, r4, r5⟩ := HG7.out.reads
            have HSt : Hid (∀ y, Turned [] y0 y → (sb < y.heap.size ∧ y.cell? ⟨sb, 0, none⟩ = some (.slice p.1.1 D.length p.1.2) ∧ y.cell? ⟨sb, 1, none⟩ = some (.slice p.2.1 m p.2.2))) := fun y hy => ⟨Nat.lt_of_lt_of_le r3 hy.size, hy.cell r4 (by simp), hy.cell r5 (by simp)⟩
            have HVb : Hid (∀ y, Turned [] y0 y → VW encB y (.slice p.1.1 D.length p.1.2) bs) := fun y hy => HG7.out.st.i.view.still hy
            have HVi : Hid (∀ y, Turned [] y0 y → VW (fun q : Int => [Value.int .i64 q]) y (.slice p.2.1 m p.2.2) cs) := fun y hy => (HG7.out.st.c.view.still hy).vw
            have hbl : bs.length = D.length := HG7.out.st.li
            have hcl : cs.length = m := HG7.out.st.lc
            have hl1 : bs.length * 1 ≤ 140737488355328 := by omega
            have hl2 : cs.length * 8 ≤ 140737488355328 := by omega
            have hne1 : bs ≠ [] := fun e => by rw [e] at hbl; simp at hbl; omega
            have hne2 : cs ≠ [] := fun e => by rw [e] at hcl; simp at hcl; omega
            clear r3 r4 r5
            go_cut [15] from 76 to 150 (fun t wx => Bx (∃ tb q, t = .pointer (some ⟨tb, 0, none⟩) ∧ Hid (TS D.length m y0 tb q bs cs wx)))
            case first =>
              go_region_held3 (fun y => sb < y.heap.size ∧ y.cell? ⟨sb, 0, none⟩ = some (.slice p.1.1 D.length p.1.2) ∧ y.cell? ⟨sb, 1, none⟩ = some (.slice p.2.1 m p.2.2)) ((refine HSt.out _ ?_; (repeat first | exact Turned.refl _ _ | refine Turned.drew ?_ | refine Turned.alloc ?_ _))) (first | (refine step_newO elB enB (u := .slice p.1.1 D.length p.1.2) (M := bs) rfl _ _ rfl (by simp [Act.eval]) (by simp [Act.eval]) (HVb.out _ ?_) hne1 hl1 ?_; (repeat first | exact Turned.refl _ _ | refine Turned.drew ?_ | refine Turned.alloc ?_ _); intro cs1 cap1 hN; have HN1 : Hid _ := hN; clear hN; rw [hbl]) | (refine step_newO elI enI (u := .slice p.2.1 m p.2.2) (M := cs) rfl _ _ rfl (by simp [Act.eval]) (by simp [Act.eval]) (HVi.out _ ?_) hne2 hl2 ?_; (repeat first | exact Turned.refl _ _ | refine Turned.drew ?_ | refine Turned.alloc ?_ _); intro cs2 cap2 hN; have HN2 : Hid _ := hN; clear hN; rw [hcl]))
              all_goals
                go_wp2_with fail
                go_meet
                exact ⟨_, _, rfl, ts_of HN1.out HN2.out hbl hcl (by (first | exact blk30 _ _ _ _ | exact blk31 _ _ _ _ | exact blk32 _ _ _ _)) (by (first | exact blk30 _ _ _ _ | exact blk31 _ _ _ _ | exact blk32 _ _ _ _)) (by (first | exact blk30 _ _ _ _ | exact blk31 _ _ _ _ | exact blk32 _ _ _ _)) (by omega) (by omega) (by omega) (by (repeat first | exact Turned.refl _ _ | refine Turned.drew ?_ | refine Turned.alloc ?_ _))⟩
            case rest =>
              obtain ⟨tb, q, rfl, HTS⟩ := hcut.ex
              clear hcut hl1 hl2 hne1 hne2 HSt HVb HVi
              obtain ⟨y1, rfl⟩ : ∃ y1, y1 = wc := ⟨_, rfl⟩
              obtain ⟨ib, cb2, e1, e2, m1, m2, m3, ⟨b0, m4⟩, m5, mr⟩ := HTS.out.mark hlt2 hixl ((dAt D j).next (vL cs ix))
              have HMr : Hid _ := mr
              clear mr
              go_upto_region 22 with fail
              clear m1 m2 m3 m4 m5
              obtain ⟨y2, hy2⟩ : ∃ y2, y2 = y1.setCell ⟨ib, j, none⟩ (.bool true) := ⟨_, rfl⟩
              obtain ⟨m1, m2, m3, ⟨c0, m4⟩, m5, m6, m7⟩ := HMr.out y2 hy2
              rw [← hy2]
              have Hy3 : Hid _ := m7
              have HG8 : Hid (GI D m B xb vb (some ⟨b, o, none⟩) cap bs cs os w gs0 sb p oa oc (N + outN j (pL bs) * tN (outN D.length (pL bs) - 1)) y2 gs) := HG7.out.still m6
              have He1 : Hid (q.1.1 = some ⟨ib, 0, none⟩) := e1
              have He2 : Hid (q.2.1 = some ⟨cb2, 0, none⟩) := e2
              clear hy2 HMr m6 m7 e1 e2
              obtain ⟨r1, r2, -, -, -, -⟩ := HG8.out.reads
              obtain ⟨b', o', eb, bl, dk⟩ := HG8.out.deed hlt2
              simp only [Option.some.injEq, Addr.mk.injEq] at eb
              obtain ⟨rfl, rfl, -⟩ := eb
              have k3 := dk.h3
              rw [Hix.out] at k3
              clear dk
              go_region
              go_upto_region 23 with fail
              clear m1 m2 m3 m4 m5 r1 r2 bl k3
              have Hy4 : Hid (TS D.length m y0 tb q (bs.set j true) (cs.set ix ((dAt D j).next (vL cs ix))) (y2.setCell ⟨cb2, ix, none⟩ (.int .i64 ((dAt D j).next (vL cs ix)))).drew) := Hy3.out.still (Turned.refl [] _).drew
              generalize (y2.setCell ⟨cb2, ix, none⟩ (.int .i64 ((dAt D j).next (vL cs ix)))).drew = y3 at Hy4 ⊢
              clear Hy3 HG8 He1 He2
              have HIc : Hid _ := fun w2 v2 ht ho => HG7.out.call (w2 := w2) (v2 := v2) HBd.out hlt2 hS0 HT1.out HLn.out HN.out (HIH.out j hlt2 hS0) Hy4.out ht ho
              have hbk3 := Hy4.out.bk
              have HSt : Hid (∀ y, Turned [] y3 y → (tb < y.heap.size ∧ y.cell? ⟨tb, 0, none⟩ = some (.slice q.1.1 D.length q.1.2) ∧ y.cell? ⟨tb, 1, none⟩ = some (.slice q.2.1 m q.2.2))) := fun y hy => by
                have h := hy.heap hbk3 (by simp)
                exact ⟨lt_of_heap h, by rw [cell_at h]; rfl, by rw [cell_at h]; rfl⟩
              have HVo : Hid (∀ y, Turned [] y3 y → VW (fun q : Int => [Value.int .i64 q]) y (.slice oa os.length oc) (ints os)) := fun y hy => (HG7.out.ou.view.still (Hy4.out.tu.trans hy)).vw
              have HOi : Hid (∀ v2 w2, OW 3 1 (fun q : Int => [Value.int .i64 q]) y3.heap.size w2 v2 (ints os ++ [(j : Int)]) → IR y0.heap.size w2 v2 (ints (os ++ [j]))) := fun v2 w2 h => by
                have h9 := h.ir.lower Hy4.out.tu.size
                rw [show ints (os ++ [j]) = ints os ++ [(j : Int)] by simp]
                exact h9
              have hil : (ints os).length = os.length := by simp
              clear hbk3
              have HOne : Hid (∀ (i : Nat) (u : Value), ([(j : Int)].flatMap fun q : Int => [Value.int .i64 q])[i]? = some u → (#[Value.int .i64 (j : Int)] : Array Value)[i]? = some u) := fun i u hu => by simpa using hu
              go_cut [16, 17] from 76 to 150 (fun l d wx => Bx (∃ an v4 ok gs4, l = v4 ∧ d = .bool ok ∧ Hid (Ans D (pL (bs.set j true)) (vL (cs.set ix ((dAt D j).next (vL cs ix)))) an) ∧ Hid ((∃ os', an = some os' ∧ ok = true ∧ IR B wx v4 (ints ((os ++ [j]) ++ os'))) ∨ (an = none ∧ ok = false ∧ v4 = .slice none 0 0)) ∧ Hid (GI D m B xb vb (some ⟨b, o, none⟩) cap bs cs os w gs0 sb p oa oc (N + outN (j + 1) (pL bs) * tN (outN D.length (pL bs) - 1)) wx gs4)))
              case first =>
                by_cases hos : os = []
                · have hby2 : (([] : List Int).length + [(j : Int)].length) * 8 ≤ 140737488355328 := by simp
                  subst hos
                  go_region_held3 (fun y => tb < y.heap.size ∧ y.cell? ⟨tb, 0, none⟩ = some (.slice q.1.1 D.length q.1.2) ∧ y.cell? ⟨tb, 1, none⟩ = some (.slice q.2.1 m q.2.2)) ((first | exact HZ4.out | (refine HSt.out _ ?_; (repeat first | exact Turned.refl _ _ | exact HTw2.out | refine Turned.drew ?_ | refine Turned.alloc ?_ _)))) (first | (refine step_noneO elI rfl _ _ rfl ?_ oa oc ?_ ?_; (focus (simp [Act.eval]; done)); (focus (simp [Act.eval]; done))) | (refine step_apO elI enI (B := y3.heap.size) (v := .slice none 0 0) (u := .slice (some ⟨y3.heap.size, 0, none⟩) 1 1) (R := ([] : List Int)) (M := [(j : Int)]) rfl _ _ rfl ?_ (OW.nil _ _ _ _ _) ?_ (VW.block (R := [(j : Int)]) (c := 1) (blk_new _ _) HOne.out) hby2 ?_ ?_; (focus (simp [Act.eval]; done)); (focus (simp [Act.eval]; done)); (focus (first | (simp; done) | (simp; omega))); intro v2 w2 ho ht _; have HO2 : Hid _ := HOi.out _ _ ho; have HTw2 : Hid (Turned [] y3 w2) := Turned.inner (l := []) (by (repeat first | exact Turned.refl _ _ | refine Turned.drew ?_ | refine Turned.alloc ?_ _)) ht (fun x hx => by simp [Value.ownBlock] at hx); clear ho ht) | (go_at_call 35; refine (HIc.out _ _ HTw2.out HO2.out).mono ?_; rintro r z4 ⟨an, v4, ok, gs4, rfl, hz1, hz2, hz3, hz4⟩; have HZ1 : Hid _ := hz1; have HZ2 : Hid _ := hz2; have HZ3 : Hid _ := hz3; have HZ4 : Hid _ := hz4; clear hz1 hz2 hz3 hz4))
                  all_goals
                    go_wp2_with fail
                    go_meet
                    exact ⟨an, v4, ok, gs4, rfl, rfl, HZ1, HZ2, HZ3⟩
                · have hneo : ints os ≠ [] := fun e => hos (by simpa using e)
                  have hlo : (ints os).length * 8 ≤ 140737488355328 := by omega
                  have hby2 : ((ints os).length + [(j : Int)].length) * 8 ≤ 140737488355328 := by simp; omega
                  clear hos
                  go_region_held3 (fun y => tb < y.heap.size ∧ y.cell? ⟨tb, 0, none⟩ = some (.slice q.1.1 D.length q.1.2) ∧ y.cell? ⟨tb, 1, none⟩ = some (.slice q.2.1 m q.2.2)) ((first | exact HZ4.out | (refine HSt.out _ ?_; (repeat first | exact Turned.refl _ _ | exact HTw2.out | refine Turned.drew ?_ | refine Turned.alloc ?_ _)))) (first | (refine step_newO elI enI (u := .slice oa os.length oc) (M := ints os) rfl _ _ rfl ?_ ?_ (HVo.out _ ?_) hneo hlo ?_; (focus (simp [Act.eval]; done)); (focus (simp [Act.eval]; done)); (repeat first | exact Turned.refl _ _ | refine Turned.drew ?_ | refine Turned.alloc ?_ _); intro cs1 cap1 hN; have HN1 : Hid _ := hN; clear hN) | (refine step_apO elI enI (B := y3.heap.size) (v := .slice (some ⟨y3.heap.size, 0, none⟩) (ints os).length cap1) (u := .slice (some ⟨y3.heap.size + 1, 0, none⟩) 1 1) (R := ints os) (M := [(j : Int)]) rfl _ _ rfl ?_ (HN1.out.own enI (blk20 _ _ _) (Nat.le_refl _)) ?_ (VW.block (R := [(j : Int)]) (c := 1) (blk21 _ _ _) HOne.out) hby2 ?_ ?_; (focus (simp [Act.eval]; done)); (focus (simp [Act.eval]; done)); (focus (first | (simp; done) | (simp; omega))); intro v2 w2 ho ht _; have HO2 : Hid _ := HOi.out _ _ ho; have HTw2 : Hid (Turned [] y3 w2) := Turned.inner (l := []) (by (repeat first | exact Turned.refl _ _ | refine Turned.drew ?_ | refine Turned.alloc ?_ _)) ht (fun x hx => .inr (by simp [Value.ownBlock] at hx; omega)); clear ho ht) | (refine step_apO elI enI (B := y3.heap.size) (v := .slice (some ⟨y3.heap.size + 1, 0, none⟩) (ints os).length cap1) (u := .slice (some ⟨y3.heap.size, 0, none⟩) 1 1) (R := ints os) (M := [(j : Int)]) rfl _ _ rfl ?_ (HN1.out.own enI (blk21 _ _ _) (Nat.le_succ _)) ?_ (VW.block (R := [(j : Int)]) (c := 1) (blk20 _ _ _) HOne.out) hby2 ?_ ?_; (focus (simp [Act.eval]; done)); (focus (simp [Act.eval]; done)); (focus (first | (simp; done) | (simp; omega))); intro v2 w2 ho ht _; have HO2 : Hid _ := HOi.out _ _ ho; have HTw2 : Hid (Turned [] y3 w2) := Turned.inner (l := []) (by (repeat first | exact Turned.refl _ _ | refine Turned.drew ?_ | refine Turned.alloc ?_ _)) ht (fun x hx => .inr (by simp [Value.ownBlock] at hx; omega)); clear ho ht) | (go_at_call 35; refine (HIc.out _ _ HTw2.out HO2.out).mono ?_; rintro r z4 ⟨an, v4, ok, gs4, rfl, hz1, hz2, hz3, hz4⟩; have HZ1 : Hid _ := hz1; have HZ2 : Hid _ := hz2; have HZ3 : Hid _ := hz3; have HZ4 : Hid _ := hz4; clear hz1 hz2 hz3 hz4))
                  all_goals
                    go_wp2_with fail
                    go_meet
                    exact ⟨an, v4, ok, gs4, rfl, rfl, HZ1, HZ2, HZ3⟩
              case rest =>
                obtain ⟨an, v4, ok, gs4, rfl, rfl, HZ1, HZ2, HZ3⟩ := hcut.ex
                clear hcut HIc HSt HVo HOi
                obtain ⟨y4, rfl⟩ : ∃ y4, y4 = wc := ⟨_, rfl⟩
                have hkb : j < bs.length := by omega
                have hkc : ix < cs.length := by omega
                have HEq : Hid (pL (bs.set j true) = (pL bs).upd j ∧ vL (cs.set ix ((dAt D j).next (vL cs ix))) = stepV D (vL cs) j) := by
                  refine ⟨pL_set hkb, ?_⟩
                  rw [vL_set hkc]
                  unfold stepV
                  rw [Hix.out]
                have HNle : Hid (N + outN (j + 1) (pL bs) * tN (outN D.length (pL bs) - 1) ≤ N + tN (outN D.length (pL bs))) := by
                  have h1 : outN (j + 1) (pL bs) ≤ outN D.length (pL bs) := outN_mono (by omega) _
                  have h2 : tN (outN D.length (pL bs)) = 1 + (outN D.length (pL bs) - 1 + 1) * tN (outN D.length (pL bs) - 1) := by
                    conv => lhs; rw [HT1.out]
                    rfl
                  rw [← HT1.out] at h2
                  have h3 := Nat.mul_le_mul_right (tN (outN D.length (pL bs) - 1)) h1
                  rw [Hid]
                  omega
                rcases HZ2.out with ⟨os', ea, rfl, hv⟩ | ⟨ea, rfl, ev⟩
                · have HL : Hid (Least D (pL bs) (vL cs) (j :: os')) := by
                    have h1 := HZ1.out
                    rw [ea, HEq.out.1, HEq.out.2] at h1
                    exact least_step (fun i hi => (HR.out i hi).2.2.2.2.2) HAl.out hlt2 HMy.out (by rw [Hix.out]; exact HFt.out) h1 HNx.out
                  have hv4 := hv
                  rw [List.append_assoc] at hv4
                  have HV4 : Hid _ := hv4
                  clear hv4
                  clear hv ea HZ1 HZ2 HEq
                  go_wp2
                  go_ret2
                  exact ⟨HZ3.out.tu, ⟨gs4, HZ3.out.hu.mono HNle.out, HZ3.out.sub⟩, some (j :: os'), _, true, rfl, HL.out, .inl ⟨j :: os', rfl, rfl, HV4.out⟩⟩
                · have HNx2 : Hid (∀ i, i < j + 1 → ¬ Nxt D (pL bs) (vL cs) i) := fun i hi => by
                    by_cases e : i = j
                    · subst e
                      intro hx
                      have h1 := HZ1.out
                      rw [ea, HEq.out.1, HEq.out.2] at h1
                      exact h1 hx.2.2
                    · exact HNx.out i (by omega)
                  subst ev
                  clear ea HZ1 HZ2 HEq HNle
                  go_wp2
                  go_roundw
                  case rel =>
                    exact ⟨j + 1, gs4, by omega, by go_num, HZ3, HNx2⟩
                  case measure => simp [intOf]; omega
    · obtain rfl : j = D.length := by omega
      have HNo : Hid (¬ Can D (pL bs) (vL cs)) := none_of HAl.out HNx.out
      clear HNx
      go_wp2
      clear r1 r2 r3 r4 r5 r6
      obtain ⟨x3, hx3⟩ : ∃ x3, x3 = wr := ⟨_, rfl⟩
      have HG6 : Hid (GI D m B xb vb ad cap bs cs os w gs0 sb p oa oc (N + outN D.length (pL bs) * tN (outN D.length (pL bs) - 1)) x3 gs) := by rw [Hid, hx3]; exact HG4.out
      rw [← hx3]
      clear hx3 HG4
      refine HK9.out _ _ ?_
      refine goes_end (x3 := x3) hol HBd HN HT1 HNo HG6 ?_ ?_ ?_ ?_ ?_
      all_goals rfl
end Go.Proofs.YtfhoflcecbdncaaDoor
