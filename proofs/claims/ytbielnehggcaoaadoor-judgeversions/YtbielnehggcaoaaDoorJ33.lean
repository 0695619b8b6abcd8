/-
  What one event is blamed for by itself, by the document's way; by contract. (By the verifier; no statement.)
-/
import Derived.Test.YtbielnehggcaoaaDoorJ32
import Derived.Deep.RegionHeld3
import Derived.Test.YtbielnehggcaoaaDoorJ31
import Derived.Test.YtbielnehggcaoaaDoorJ17
import Derived.Test.YtbielnehggcaoaaDoorJ08
namespace Go.Proofs.YtbielnehggcaoaaDoor
open Go.RowKit
section
variable {w0 w1 x : World} {hb : Nat} {lv tv : Value} {S : List (List (Int × Int))} {D : List Ev} {O : List Bm}
set_option maxRecDepth 100000 in
set_option maxHeartbeats 12800000 in
theorem cSelf (hS : VS w0 w1 hb lv tv S D) (hV : VX w1 hb S.length lv tv O x) {i : Nat} (hi : i < D.length) (hl : O.length ≤ 999999000) : Calls Tryd.prog 37 #[.pointer (some ⟨hb, 0, none⟩), .int .i64 i] x fun r x' => r = .returned (.bool (endB S.length (eAt D i))) ∧ VX w1 hb S.length lv tv (O ++ selfL S D i) x' := by
  obtain ⟨b, o, lc, rfl, he⟩ := (hS.evs hV).get hi
  obtain ⟨na, nc, pa, pc, hec, hiv, -⟩ := he.ec
  obtain ⟨ta, tc, rfl⟩ := hS.td.slice
  have HS : Hid (VS w0 w1 hb _ _ S D) := hS
  have HV : Hid (VX w1 hb S.length _ _ O x) := hV
  have HIV : Hid (IV x (.slice na (eAt D i).ns.length nc) (eAt D i).ns) := hiv
  have HP : Hid (∀ O' y, VX w1 hb S.length (.slice (some ⟨b, o, none⟩) D.length lc) (.slice ta S.length tc) O' y → hb < y.heap.size ∧ y.cell? ⟨hb, 1, none⟩ = some (.slice (some ⟨b, o, none⟩) D.length lc) ∧ y.cell? ⟨hb, 2, none⟩ = some (.slice ta S.length tc)) := fun O' y h => by
    obtain ⟨ov, h1, _⟩ := h.ex
    exact ⟨lt_of_heap h1, by rw [cell_at h1]; rfl, by rw [cell_at h1]; rfl⟩
  have HIs : Hid (∀ y, Turned [] x y → Calls Tryd.prog 38 #[.pointer (some ⟨hb, 0, none⟩), .agg (evA (eAt D i) (.slice na (eAt D i).ns.length nc) (.slice pa (eAt D i).ps.length pc))] y fun r w' => r = .returned (.bool ((eAt D i).good S.length)) ∧ Turned [] y w') := fun y hy => by
    obtain ⟨ov, hh⟩ := hV.hist
    exact cIs (hh y hy) hS.dim.1 (hiv.still hy) (by have := hS.ns i; omega)
  have HBu : Hid (∀ O' y p, VX w1 hb S.length (.slice (some ⟨b, o, none⟩) D.length lc) (.slice ta S.length tc) O' y → Calls Tryd.prog 58 #[.pointer (some ⟨hb, 0, none⟩), .int .i64 p] y fun r w' => r = .returned (.bool (busyB S.length D D.length p)) ∧ Turned [] y w') := fun O' y p h => by
    obtain ⟨ov, h1, _⟩ := h.ex
    exact cBusy h1 hS.dim.1 (hS.evs h) (fun i => by have := hS.ns i; omega)
  have HTd : Hid (∀ O' y, VX w1 hb S.length (.slice (some ⟨b, o, none⟩) D.length lc) (.slice ta S.length tc) O' y → TdAt (hb + 1) y (.slice ta S.length tc) S.length (vsOf S D)) := fun O' y h => hS.told h
  obtain ⟨z0, z1, z2, z3, z4, z5, z6, z7, z8, z9, z10, z11, z12, z13⟩ := hec.all x (Turned.refl _ _)
  obtain ⟨s1, s2, s3⟩ := HP.out _ _ hV
  have hDl : D.length ≤ 1024 := hS.dim.2.2
  clear hS hV hec he hiv
  generalize hee : eAt D i = e at *
  obtain ⟨wk, eb, en, k, p, key, num, had, val, has, new, ns, ps⟩ := e
  dsimp only at z1 z2 z3 z4 z5 z6 z7 z8 z9 z10 z11 z12 z13
  have HEe : Hid (eAt D i = ⟨wk, eb, en, k, p, key, num, had, val, has, new, ns, ps⟩) := hee
  clear hee
  go_enter Tryd.func37, Tryd.ntmps37
  go_upto_region 2 with fail
  have hz : (x.alloc (.cells (evA ⟨wk, eb, en, k, p, key, num, had, val, has, new, ns, ps⟩ (.slice na ns.length nc) (.slice pa ps.length pc)) 52 (0, 0))).heap[x.heap.size]? = some (.cells (evA ⟨wk, eb, en, k, p, key, num, had, val, has, new, ns, ps⟩ (.slice na ns.length nc) (.slice pa ps.length pc)) 52 (0, 0)) := blk_new _ _
  have ht1 : Turned [] x (x.alloc (.cells (evA ⟨wk, eb, en, k, p, key, num, had, val, has, new, ns, ps⟩ (.slice na ns.length nc) (.slice pa ps.length pc)) 52 (0, 0))) := (Turned.refl [] x).alloc _
  have HIs1 := HIs.out _ ht1
  have HV1 : Hid (VX w1 hb S.length _ _ O _) := HV.out.still ht1
  have HNe : Hid (x.heap.size ≠ hb) := Nat.ne_of_gt s1
  clear z0 z1 z2 z3 z4 z5 z6 z7 z8 z9 z10 z11 z12 z13 s1 s2 s3 HIs HIV ht1 HV
  generalize x.alloc (.cells (evA ⟨wk, eb, en, k, p, key, num, had, val, has, new, ns, ps⟩ (.slice na ns.length nc) (.slice pa ps.length pc)) 52 (0, 0)) = x1 at hz HIs1 HV1 ⊢
  generalize x.heap.size = g at hz HNe ⊢
  have HB : Hid (x1.heap[g]? = some (.cells (evA ⟨wk, eb, en, k, p, key, num, had, val, has, new, ns, ps⟩ (.slice na ns.length nc) (.slice pa ps.length pc)) 52 (0, 0))) := hz
  obtain ⟨z0, z1, z2, z3, z4, z5, z6, z7, z8, z9, z10, z11, z12, z13⟩ := EC.block hz x1 (Turned.refl _ _)
  clear hz
  dsimp only at z1 z2 z3 z4 z5 z6 z7 z8 z9 z10 z11 z12 z13
  cases hg : Ev.good S.length ⟨wk, eb, en, k, p, key, num, had, val, has, new, ns, ps⟩ with
  | false =>
    rw [hg] at HIs1
    obtain ⟨q1, q2⟩ := selfL_bad (S := S) (D := D) (i := i) (by rw [HEe.out]; exact hg)
    rw [HEe.out] at q2
    have HQ1 : Hid _ := q1
    have HQ2 : Hid _ := q2
    clear q1 q2 hg
    go_wp2_with (first | (go_at_call 38; refine HIs1.mono ?_; rintro r z ⟨rfl, tz⟩; have HVz : Hid _ := HV1.out.still tz; clear tz) | (go_at_call 57; refine (cBlameR HVz.out (by omega) _ _ _).mono ?_; rintro r y ⟨rfl, hv2, -⟩; have HV2 : Hid _ := hv2; clear hv2))
    go_ret
    exact ⟨by rw [HQ2.out] <;> rfl, by rw [HQ1.out]; exact HV2.out⟩
  | true =>
    rw [hg] at HIs1
    have HG : Hid (Ev.good S.length ⟨wk, eb, en, k, p, key, num, had, val, has, new, ns, ps⟩ = true) := hg
    clear hg
    go_upto_region 5 with (go_at_call 38; refine HIs1.mono ?_; rintro r z ⟨rfl, tz⟩; have HVz : Hid _ := HV1.out.still tz; have HBz : Hid _ := tz.heap HB.out (by simp); clear tz)
    clear z0 z1 z2 z3 z4 z5 z6 z7 z8 z9 z10 z11 z12 z13 HIs1 HV1 HB
    obtain ⟨z0, z1, z2, z3, z4, z5, z6, z7, z8, z9, z10, z11, z12, z13⟩ := EC.block HBz.out z (Turned.refl _ _)
    dsimp only at z1 z2 z3 z4 z5 z6 z7 z8 z9 z10 z11 z12 z13
    by_cases h0 : en = 0
    · obtain ⟨q1, q2⟩ := selfL_open (S := S) (D := D) (i := i) (by rw [HEe.out]; exact HG.out) (by rw [HEe.out]; exact h0)
      rw [HEe.out] at q2
      have HQ1 : Hid _ := q1
      have HQ2 : Hid _ := q2
      have x0 : (en == 0) = true := by simpa using h0
      clear q1 q2 h0
      go_wp2
      go_ret
      exact ⟨by rw [HQ2.out] <;> rfl, by rw [HQ1.out, List.append_nil]; exact HVz.out⟩
    have x0 : (en == 0) = false := by simpa using h0
    by_cases h4 : k = 4
    · obtain ⟨q1, q2⟩ := selfL_snap (S := S) (D := D) (i := i) (by rw [HEe.out]; exact HG.out) (by rw [HEe.out]; exact h0) (by rw [HEe.out]; exact h4)
      rw [HEe.out] at q2
      have HQ1 : Hid _ := q1
      have HQ2 : Hid _ := q2
      have x1 : (k == 4) = true := by simpa using h4
      clear q1 q2 h0 h4
      go_wp2
      go_ret
      exact ⟨by rw [HQ2.out] <;> rfl, by rw [HQ1.out, List.append_nil]; exact HVz.out⟩
    have x1 : (k == 4) = false := by simpa using h4
    obtain ⟨pn, hp, hpm, hk, hn1, hn2⟩ := good_partX HG.out h0 h4
    dsimp only at hp hk hn1 hn2
    subst hp
    obtain ⟨q1, q2⟩ := selfL_part (S := S) (D := D) (i := i) (p := pn) (by rw [HEe.out]; exact HG.out) (by rw [HEe.out]; exact h0) (by rw [HEe.out]; exact h4) (by rw [HEe.out])
    rw [HEe.out] at q1 q2
    dsimp only at q1
    have HQ1 : Hid _ := q1
    have HQ2 : Hid _ := q2
    have hnm := HS.out.nm i
    rw [HEe.out] at hnm
    dsimp only at hnm
    obtain ⟨tb, tof, tc2, ra, rk, et, hcell⟩ := HS.out.row hpm
    simp only [Value.slice.injEq] at et
    obtain ⟨rfl, -, rfl⟩ := et
    have HVl : Hid ((vsOf S D pn).length ≤ 2000) := by
      have h := vs_len S D pn
      exact Nat.le_trans h (by omega)
    have HRc : Hid _ := hcell
    have HF4a := @fourL_no S D i pn (by rw [HEe.out])
    have HF4b := fun j => @fourL_yes S D i pn j (by rw [HEe.out])
    rw [HEe.out] at HF4a HF4b
    have HFa : Hid _ := HF4a
    have HFb : Hid _ := HF4b
    obtain ⟨⟨t1, t2⟩, -⟩ := hcell _ _ HVz.out
    obtain ⟨s1, s2, s3⟩ := HP.out _ _ HVz.out
    clear q1 q2 hcell HF4a HF4b h0 HEe HTd
    generalize hVV : vsOf S D pn = V at *
    have HVV : Hid (vsOf S D pn = V) := hVV
    go_upto_region 9 with fail
    go_quiet (fail)
    obtain ⟨y, hy⟩ : ∃ y, y = z.drewN nq := ⟨_, rfl⟩
    rw [← hy]
    have hty : Turned [] z y := by rw [hy]; exact (Turned.refl [] z).drewN _
    have HVy : Hid _ := HVz.out.still hty
    have HBy : Hid _ := hty.heap HBz.out (by simp)
    clear hy hty z0 z1 z2 z3 z4 z5 z6 z7 z8 z9 z10 z11 z12 z13 t1 t2 s1 s2 s3 HVz HBz
    obtain ⟨z0, z1, z2, z3, z4, z5, z6, z7, z8, z9, z10, z11, z12, z13⟩ := EC.block HBy.out y (Turned.refl _ _)
    dsimp only at z1 z2 z3 z4 z5 z6 z7 z8 z9 z10 z11 z12 z13
    go_upto_region 10 with fail
    go_cut [49] from 38 to 49 (fun c wx => Bx (c = .bool (decide ((V.length : Int) < num) && !busyB S.length D D.length (pn : Int)) ∧ Hid (VX w1 hb S.length (.slice (some ⟨b, o, none⟩) D.length lc) (.slice (some ⟨tb, tof, none⟩) S.length tc) O wx) ∧ Hid (wx.heap[g]? = some (.cells (evA ⟨wk, eb, en, k, (pn : Int), key, num, had, val, has, new, ns, ps⟩ (.slice na ns.length nc) (.slice pa ps.length pc)) 52 (0, 0)))))
    case first =>
      by_cases hN : (V.length : Int) < num
      · have d1 : decide ((V.length : Int) < num) = true := decide_eq_true hN
        have HBu2 := HBu.out _ _ (pn : Int) HVy.out
        cases hbz : busyB S.length D D.length (pn : Int) with
        | true =>
          rw [hbz] at HBu2
          have HU : Hid (Value.bool false = .bool (decide ((V.length : Int) < num) && !busyB S.length D D.length (pn : Int))) := by rw [Hid, hbz, Bool.not_true, Bool.and_false]
          clear hN hbz
          go_wp2_with (go_at_call 58; refine HBu2.mono ?_; rintro r z2 ⟨rfl, tz⟩; have HV2 : Hid _ := HVy.out.still tz; have HB2 : Hid _ := tz.heap HBy.out (by simp); clear tz)
          go_meet
          exact ⟨HU, HV2, HB2⟩
        | false =>
          rw [hbz] at HBu2
          have HU : Hid (Value.bool true = .bool (decide ((V.length : Int) < num) && !busyB S.length D D.length (pn : Int))) := by rw [Hid, hbz, d1]; rfl
          clear hN hbz
          go_wp2_with (go_at_call 58; refine HBu2.mono ?_; rintro r z2 ⟨rfl, tz⟩; have HV2 : Hid _ := HVy.out.still tz; have HB2 : Hid _ := tz.heap HBy.out (by simp); clear tz)
          go_meet
          exact ⟨HU, HV2, HB2⟩
      · have d1 : decide ((V.length : Int) < num) = false := decide_eq_false hN
        have HU : Hid (Value.bool false = .bool (decide ((V.length : Int) < num) && !busyB S.length D D.length (pn : Int))) := by rw [Hid, d1]; rfl
        clear hN
        go_wp2
        go_meet
        exact ⟨HU, HVy, HBy⟩
    case rest =>
    obtain ⟨rfl, HVc, HBc⟩ := hcut.ex
    clear hcut z0 z1 z2 z3 z4 z5 z6 z7 z8 z9 z10 z11 z12 z13 HVy HBy HBu
    obtain ⟨x2, rfl⟩ : ∃ x2, x2 = wc := ⟨_, rfl⟩
    generalize hU : (decide ((V.length : Int) < num) && !busyB S.length D D.length (pn : Int)) = U at HQ1 ⊢
    clear hU
    go_upto_if 49 with fail
    go_cut [] from 50 to 52 (fun wx => Bx (∃ O3 : List Bm, Hid (O3 = O ++ (if U then [((i : Int), -1, 3)] else [])) ∧ O3.length ≤ O.length + 1 ∧ Hid (VX w1 hb S.length (.slice (some ⟨b, o, none⟩) D.length lc) (.slice (some ⟨tb, tof, none⟩) S.length tc) O3 wx) ∧ Hid (wx.heap[g]? = some (.cells (evA ⟨wk, eb, en, k, (pn : Int), key, num, had, val, has, new, ns, ps⟩ (.slice na ns.length nc) (.slice pa ps.length pc)) 52 (0, 0)))))
    case first =>
      cases U with
      | true =>
        go_wp2_with (go_at_call 57; refine (cBlameR HVc.out (by omega) _ _ _).mono ?_; rintro r y2 ⟨rfl, hv2, hk2⟩; have HV3 : Hid _ := hv2; have HB3 : Hid _ := hk2.keep _ _ _ HNe.out (by decide) HBc.out; clear hv2 hk2)
        go_meet
        exact ⟨_, rfl, by simp, HV3, HB3⟩
      | false =>
        go_wp2
        go_meet
        exact ⟨O, (List.append_nil O).symm, by omega, HVc, HBc⟩
    case rest =>
      obtain ⟨O3, HO3, hO3, HV3, HB3⟩ := hcut.ex
      clear hcut HVc HBc
      obtain ⟨x3, rfl⟩ : ∃ x3, x3 = wc := ⟨_, rfl⟩
      have HQ3 : Hid (O ++ selfL S D i = O3 ++ fourL S D i) := by rw [Hid, HQ1.out, HO3.out, List.append_assoc]
      clear HQ1 HO3
      obtain ⟨z0, z1, z2, z3, z4, z5, z6, z7, z8, z9, z10, z11, z12, z13⟩ := EC.block HB3.out x3 (Turned.refl _ _)
      dsimp only at z1 z2 z3 z4 z5 z6 z7 z8 z9 z10 z11 z12 z13
      have HRw : Hid (RowT (hb + 1) x3 (.slice ra V.length rk) V) := (HRc.out _ _ HV3.out).2
      have hVl := HVl.out
      by_cases h5 : k = 5
      · subst h5
        have HNo : Hid (fourL S D i = []) := HFa.out (.inl rfl)
        by_cases hN : num ≤ (V.length : Int)
        · have d2 : decide (num ≤ (V.length : Int)) = true := decide_eq_true hN
          clear hN
          have HFin : Hid (O ++ selfL S D i = O3) := by rw [Hid, HQ3.out, HNo.out, List.append_nil]
          go_wp2
          go_ret
          exact ⟨by rw [HQ2.out] <;> rfl, by rw [HFin.out]; exact HV3.out⟩
        · have d2 : decide (num ≤ (V.length : Int)) = false := decide_eq_false hN
          clear hN
          have HFin : Hid (O ++ selfL S D i = O3) := by rw [Hid, HQ3.out, HNo.out, List.append_nil]
          go_wp2
          go_ret
          exact ⟨by rw [HQ2.out] <;> rfl, by rw [HFin.out]; exact HV3.out⟩
      have x5 : (k != 5) = true := by simpa using h5
      obtain ⟨T, hT, hT1, hTo⟩ : ∃ T : Nat, (k = 2 ∧ num = (T : Int) + 1 ∨ k ≠ 2 ∧ num = (T : Int)) ∧ 1 ≤ T ∧ Ev.told ⟨wk, eb, en, k, (pn : Int), key, num, had, val, has, new, ns, ps⟩ = (T : Int) := by
        by_cases h2 : k = 2
        · refine ⟨(num - 1).toNat, .inl ⟨h2, by have := hn2 h2; omega⟩, by have := hn2 h2; omega, ?_⟩
          have := hn2 h2
          unfold Ev.told
          rw [if_neg (by show ¬ (k = 1 ∨ k = 3); omega), if_pos h2]
          show wrap64 (num - 1) = _
          unfold wrap64
          omega
        · refine ⟨num.toNat, .inr ⟨h2, by omega⟩, by omega, ?_⟩
          unfold Ev.told
          rw [if_pos (by show k = 1 ∨ k = 3; omega)]
          show num = _
          omega
      have HTo : Hid _ := hTo
      have dTw : wrap64 (T : Int) = (T : Int) := by
        unfold wrap64
        omega
      clear hTo hn1 hn2 hk h5 h4 hnm hVV
      go_upto_if 57 with fail
      go_cut [7] from 57 to 59 (fun t wx => Bx (t = .int .i64 (T : Int) ∧ SameW x3 wx))
      case first =>
        rcases hT with ⟨h2, hn⟩ | ⟨h2, hn⟩
        · have x2 : (k == 2) = true := by simpa using h2
          have dn : num - 1 = (T : Int) := by rw [hn]; exact Int.add_sub_cancel _ _
          clear h2 hn
          go_wp2
          go_meet
          exact ⟨rfl, rfl⟩
        · have x2 : (k == 2) = false := by simpa using h2
          have HN : Hid (num = (T : Int)) := hn
          clear h2 hn
          go_wp2
          go_meet
          exact ⟨by rw [HN.out], rfl⟩
      case rest =>
      obtain ⟨rfl, ew⟩ := hcut.ex
      have ew2 : x3 = wc := ew
      subst ew2
      clear hcut ew hT dTw
      by_cases hN : T ≤ V.length
      · have d2 : decide (T ≤ V.length) = true := decide_eq_true hN
        have d2' : decide ((T : Int) ≤ (V.length : Int)) = true := decide_eq_true (by omega)
        obtain ⟨J, hJ⟩ : ∃ J, T = J + 1 := ⟨T - 1, by omega⟩
        have dJ : (T : Int) - 1 = (J : Int) := by omega
        have dJl : J < V.length := by omega
        have dJw : IntKind.i64.wrap (J : Int) = (J : Int) := by
          simp [IntKind.wrap, IntKind.bits, IntKind.signed]
          omega
        have dJ2 : (J : Int) < (V.length : Int) := by omega
        have dJ3 : 0 ≤ (J : Int) := by omega
        have HNo : Hid (fourL S D i = if otherB (V.getD J Hold.none) ⟨wk, eb, en, k, (pn : Int), key, num, had, val, has, new, ns, ps⟩ then [((i : Int), -1, 4)] else []) := HFb.out J (by rw [HTo.out]; omega) dJl
        obtain ⟨rb, ro, rc, q, er, hrc, hTq⟩ := HRw.out.get dJl
        simp only [Value.slice.injEq] at er
        obtain ⟨rfl, -, rfl⟩ := er
        obtain ⟨l1, hO1, hl1, hn1⟩ := hTq.ex
        obtain ⟨a1, c1, e1⟩ := hO1.slice
        rw [e1] at hO1 hrc
        obtain ⟨r1, r2⟩ := hrc x3 (Turned.refl _ _)
        have PF : Calls Tryd.prog 59 #[.agg #[.slice a1 l1.length c1], .int .i64 key] x3.drew fun r w' => r = .returned (.tuple #[.int .i64 ((V.getD J Hold.none key).getD 0), .bool (V.getD J Hold.none key).isSome]) ∧ Turned [] x3.drew w' := by
          have h := cFind (key := key) (hO1.still (Turned.refl [] x3).drew).view (by omega)
          rw [hl1] at h
          exact h
        clear hrc hTq hO1 hl1 hn1 e1 hJ
        have HOt : Hid (otherB (V.getD J Hold.none) ⟨wk, eb, en, k, (pn : Int), key, num, had, val, has, new, ns, ps⟩ = (!decide ((V.getD J Hold.none key).isSome = had) || !decide ((V.getD J Hold.none key).getD 0 = val))) := rfl
        generalize (V.getD J Hold.none key).isSome = bs at *
        generalize (V.getD J Hold.none key).getD 0 = bv at *
        go_upto_region 16 with fail
        have HSt : Hid (∀ y, Turned [] x3 y → rb < y.heap.size ∧ y.cell? ⟨rb, ro + J, none⟩ = some (.slice a1 l1.length c1) ∧ g < y.heap.size ∧ y.cell? ⟨g, 5, none⟩ = some (.int .i64 key)) := fun y hy => ⟨Nat.lt_of_lt_of_le r1 hy.size, hy.cell r2 (by simp), Nat.lt_of_lt_of_le z0 hy.size, hy.cell z6 (by simp)⟩
        go_cut [8, 9] from 69 to 79 (fun a b wx => Bx (a = .int .i64 bv ∧ b = .bool bs ∧ Hid (Turned [] x3 wx)))
        case first =>
          go_region_held3 (fun y => rb < y.heap.size ∧ y.cell? ⟨rb, ro + J, none⟩ = some (.slice a1 l1.length c1) ∧ g < y.heap.size ∧ y.cell? ⟨g, 5, none⟩ = some (.int .i64 key)) (first | exact HSt.out _ HZ9.out | exact HSt.out _ (Turned.refl [] x3).drew) (first | (go_at_call 59; refine PF.mono ?_; rintro r z9 ⟨rfl, tz⟩; have HZ9 : Hid (Turned [] x3 z9) := (Turned.refl [] x3).drew.trans tz; clear tz))
          all_goals
            go_wp2_with fail
            go_meet
            exact ⟨rfl, rfl, HZ9⟩
        case rest =>
          obtain ⟨rfl, rfl, HZ9⟩ := hcut.ex
          clear hcut z0 z1 z2 z3 z4 z5 z6 z7 z8 z9 z10 z11 z12 z13 r1 r2 PF
          have HV9 : Hid _ := HV3.out.still HZ9.out
          have HB9 : Hid _ := HZ9.out.heap HB3.out (by simp)
          obtain ⟨z0, z1, z2, z3, z4, z5, z6, z7, z8, z9', z10, z11, z12, z13⟩ := EC.block HB9.out _ (Turned.refl _ _)
          dsimp only at z1 z2 z3 z4 z5 z6 z7 z8 z9' z10 z11 z12 z13
          by_cases hs : bs = had
          · have d3 : (bs != had) = false := by rw [hs]; exact bne_self_eq_false _
            have d3' : decide (bs = had) = true := decide_eq_true hs
            by_cases hv : bv = val
            · have d4 : (bv != val) = false := by simpa using hv
              have HFin : Hid (O ++ selfL S D i = O3) := by rw [Hid, HQ3.out, HNo.out, HOt.out, decide_eq_true hs, decide_eq_true hv]; simp
              go_wp2
              go_ret
              exact ⟨by rw [HQ2.out] <;> rfl, by rw [HFin.out]; exact HV9.out⟩
            · have d4 : (bv != val) = true := by simpa using hv
              have HFin : Hid (O ++ selfL S D i = O3 ++ [((i : Int), -1, 4)]) := by rw [Hid, HQ3.out, HNo.out, HOt.out, decide_eq_true hs, decide_eq_false hv]; rfl
              go_wp2_with (go_at_call 57; refine (cBlameR HV9.out (by omega) _ _ _).mono ?_; rintro r y2 ⟨rfl, hv2, -⟩; have HV10 : Hid _ := hv2; clear hv2)
              go_ret
              exact ⟨by rw [HQ2.out] <;> rfl, by rw [HFin.out]; exact HV10.out⟩
          · have d3 : (bs != had) = true := by simpa using hs
            have d3' : decide (bs = had) = false := decide_eq_false hs
            have HFin : Hid (O ++ selfL S D i = O3 ++ [((i : Int), -1, 4)]) := by rw [Hid, HQ3.out, HNo.out, HOt.out, decide_eq_false hs]; rfl
            go_wp2_with (go_at_call 57; refine (cBlameR HV9.out (by omega) _ _ _).mono ?_; rintro r y2 ⟨rfl, hv2, -⟩; have HV10 : Hid _ := hv2; clear hv2)
            go_ret
            exact ⟨by rw [HQ2.out] <;> rfl, by rw [HFin.out]; exact HV10.out⟩
      · have d2 : decide (T ≤ V.length) = false := decide_eq_false hN
        have d2' : decide ((T : Int) ≤ (V.length : Int)) = false := decide_eq_false (by omega)
        have HNo : Hid (fourL S D i = []) := HFa.out (.inr (by rw [HTo.out]; omega))
        have HFin : Hid (O ++ selfL S D i = O3) := by rw [Hid, HQ3.out, HNo.out, List.append_nil]
        go_wp2
        go_ret
        exact ⟨by rw [HQ2.out] <;> rfl, by rw [HFin.out]; exact HV3.out⟩
end
end Go.Proofs.YtbielnehggcaoaaDoor
/-
  Has a snapshot a number below another one's? The document's own way, by contract. (By the verifier; no statement.)
-/
namespace Go.Proofs.YtbielnehggcaoaaDoor
open Go.RowKit
set_option maxRecDepth 100000 in
set_option maxHeartbeats 6400000 in
theorem cLess {w : World} {e f : Ev} {na pa na' pa' : Option Addr} {nc pl pc nc' pl' pc' : Nat} (hi : IV w (.slice na e.ns.length nc) e.ns) (hi' : IV w (.slice na' f.ns.length nc') f.ns) (hn : f.ns.length = e.ns.length) (hl : e.ns.length ≤ 1000000000) : Calls Tryd.prog 61 #[.agg (evA e (.slice na e.ns.length nc) (.slice pa pl pc)), .agg (evA f (.slice na' f.ns.length nc') (.slice pa' pl' pc'))] w fun r w' => r = .returned (.bool (belowB e.ns f.ns)) ∧ Turned [] w w' := by
  have HC : Hid (∀ k, k < e.ns.length → ∀ z, Turned [] w z → ∃ b2 o2 b3 o3, na = some ⟨b2, o2, none⟩ ∧ na' = some ⟨b3, o3, none⟩ ∧ b2 < z.heap.size ∧ b3 < z.heap.size ∧ z.cell? ⟨b2, o2 + k, none⟩ = some (.int .i64 (e.ns.getD k 0)) ∧ z.cell? ⟨b3, o3 + k, none⟩ = some (.int .i64 (f.ns.getD k 0))) := fun k hk z hz => by
    obtain ⟨b2, o2, c2, e2, hb2, hx⟩ := (hi.still hz).get hk
    obtain ⟨b3, o3, c3, e3, hb3, hy⟩ := (hi'.still hz).get (i := k) (by omega)
    simp only [Value.slice.injEq] at e2 e3
    exact ⟨b2, o2, b3, o3, e2.1, e3.1, hb2, hb3, hx, hy⟩
  have HS : Hid (∀ k, k < e.ns.length → decide (e.ns.getD k 0 < f.ns.getD k 0) = true → belowB e.ns f.ns = true) := fun k hk hd => List.any_eq_true.2 ⟨k, List.mem_range.2 hk, hd⟩
  have HB : Hid (∀ k, ((List.range (k + 1)).any fun i => decide (e.ns.getD i 0 < f.ns.getD i 0)) = (((List.range k).any fun i => decide (e.ns.getD i 0 < f.ns.getD i 0)) || decide (e.ns.getD k 0 < f.ns.getD k 0))) := fun k => @below_take e.ns f.ns k
  have HE : Hid (((List.range e.ns.length).any fun i => decide (e.ns.getD i 0 < f.ns.getD i 0)) = belowB e.ns f.ns) := rfl
  clear hi hi'
  generalize belowB e.ns f.ns = R at *
  obtain ⟨wk, eb, en, k, p, key, num, had, val, has, new, x, ps⟩ := e
  obtain ⟨wk', eb', en', k', p', key', num', had', val', has', new', y, ps'⟩ := f
  dsimp only at *
  rw [hn]
  have hny : Hid (y.length = x.length) := hn
  clear hn
  go_enter Tryd.func61, Tryd.ntmps61
  go_wp2
  go_loopw [5] (fun i wx => ∃ k : Nat, k ≤ x.length ∧ i = .int .i64 k ∧ Hid (((List.range k).any fun i => decide (x.getD i 0 < y.getD i 0)) = false) ∧ Hid (Turned [] w wx ∧ (w.heap.size < wx.heap.size ∧ wx.cell? ⟨w.heap.size, 11, none⟩ = some (.slice na x.length nc)) ∧ w.heap.size + 1 < wx.heap.size ∧ wx.cell? ⟨w.heap.size + 1, 11, none⟩ = some (.slice na' x.length nc'))) (fun i _ => x.length - (intOf i).toNat)
  case atStart => exact ⟨0, Nat.zero_le _, rfl, rfl, ((Turned.refl [] w).alloc _).alloc _, ⟨lt_of_heap (blk20 _ _ _), by rw [cell_at (blk20 _ _ _)]; rfl⟩, lt_of_heap (blk21 _ _ _), by rw [cell_at (blk21 _ _ _)]; rfl⟩
  case round =>
    obtain ⟨j, hj, rfl, HA, HW⟩ := hrel
    obtain ⟨-, ⟨s1, s2⟩, s3, s4⟩ := HW.out
    by_cases hlt : j < x.length
    · obtain ⟨b2, o2, b3, o3, rfl, rfl, hb2, hb3, hx, hy⟩ := HC.out j hlt wr HW.out.1
      have HBj : Hid _ := HB.out j
      have HSj : Hid _ := HS.out j hlt
      cases d1 : decide (x.getD j 0 < y.getD j 0) with
      | true =>
        generalize x.getD j 0 = xk at *
        generalize y.getD j 0 = yk at *
        go_wp2
        go_quiet (fail)
        go_wp2
        go_ret
        exact ⟨by rw [HSj.out d1] <;> rfl, HW.out.1.drewN _⟩
      | false =>
        generalize x.getD j 0 = xk at *
        generalize y.getD j 0 = yk at *
        go_wp2
        go_quiet (fail)
        go_wp2
        go_roundw
        case rel => exact ⟨j + 1, by omega, by go_num, by rw [Hid, HBj.out, HA.out, d1]; rfl, HW.out.1.drewN _, ⟨s1, s2⟩, s3, s4⟩
        case measure => simp [intOf]; omega
    · obtain rfl : j = x.length := by omega
      go_wp2
      go_ret
      exact ⟨by rw [← HE.out, HA.out] <;> rfl, HW.out.1⟩
end Go.Proofs.YtbielnehggcaoaaDoor
/- A frame, spelled out. -/
namespace Go.Proofs.YtbielnehggcaoaaDoor
open Go.RowKit
def lit181 (c : Nat → Value) : Array Value := #[c 0, c 1, c 2, c 3, c 4, c 5, c 6, c 7, c 8, c 9, c 10, c 11, c 12, c 13, c 14, c 15, c 16, c 17, c 18, c 19, c 20, c 21, c 22, c 23, c 24, c 25, c 26, c 27, c 28, c 29, c 30, c 31, c 32, c 33, c 34, c 35, c 36, c 37, c 38, c 39, c 40, c 41, c 42, c 43, c 44, c 45, c 46, c 47, c 48, c 49, c 50, c 51, c 52, c 53, c 54, c 55, c 56, c 57, c 58, c 59, c 60, c 61, c 62, c 63, c 64, c 65, c 66, c 67, c 68, c 69, c 70, c 71, c 72, c 73, c 74, c 75, c 76, c 77, c 78, c 79, c 80, c 81, c 82, c 83, c 84, c 85, c 86, c 87, c 88, c 89, c 90, c 91, c 92, c 93, c 94, c 95, c 96, c 97, c 98, c 99, c 100, c 101, c 102, c 103, c 104, c 105, c 106, c 107, c 108, c 109, c 110, c 111, c 112, c 113, c 114, c 115, c 116, c 117, c 118, c 119, c 120, c 121, c 122, c 123, c 124, c 125, c 126, c 127, c 128, c 129, c 130, c 131, c 132, c 133, c 134, c 135, c 136, c 137, c 138, c 139, c 140, c 141, c 142, c 143, c 144, c 145, c 146, c 147, c 148, c 149, c 150, c 151, c 152, c 153, c 154, c 155, c 156, c 157, c 158, c 159, c 160, c 161, c 162, c 163, c 164, c 165, c 166, c 167, c 168, c 169, c 170, c 171, c 172, c 173, c 174, c 175, c 176, c 177, c 178, c 179, c 180]
set_option maxRecDepth 100000 in
theorem lit181_eq (c : Nat → Value) : lit181 c = ((List.range 181).map c).toArray := by rfl
theorem expand181 {a : Act} (hs : a.tmps.size = 181) (hd : a.defers = []) : ∃ c : Nat → Value, a = ⟨lit181 c, []⟩ ∧ ∀ s, c s = a.eval (.tmp s) := by
  refine ⟨fun s => a.tmps.getD s undef, ?_, fun s => rfl⟩
  obtain ⟨t, d⟩ := a
  simp only at hs hd
  subst hd
  congr 1
  rw [lit181_eq]
  refine Array.ext (by simp [hs]) fun i h1 h2 => ?_
  simp [Array.getD, h1]
theorem expand181d {a : Act} {ds : List Deferred} (hs : a.tmps.size = 181) (hd : a.defers = ds) : ∃ c : Nat → Value, a = ⟨lit181 c, ds⟩ ∧ ∀ s, c s = a.eval (.tmp s) := by
  refine ⟨fun s => a.tmps.getD s undef, ?_, fun s => rfl⟩
  obtain ⟨t, d⟩ := a
  simp only at hs hd
  subst hd
  congr 1
  rw [lit181_eq]
  refine Array.ext (by simp [hs]) fun i h1 h2 => ?_
  simp [Array.getD, h1]
end Go.Proofs.YtbielnehggcaoaaDoor
/-
  What two events are blamed for: what its walk stands on. (By the verifier; no statement.)
-/
namespace Go.Proofs.YtbielnehggcaoaaDoor
open Go.RowKit
/-- Of right events that have ended. -/
structure Gd (m : Nat) (e : Ev) : Prop where
  k : 1 ≤ e.k ∧ e.k ≤ 5
  e0 : e.e ≠ 0
  p : e.k ≠ 4 → ∃ p : Nat, e.p = p ∧ p < m
  ns : e.k = 4 → e.ns.length = m
theorem endB_gd {m : Nat} {e : Ev} (h : endB m e = true) : Gd m e := by
  unfold endB at h
  rw [Bool.and_eq_true] at h
  obtain ⟨h, h2⟩ := h
  have h2 : e.e ≠ 0 := by simpa using h2
  unfold Ev.good at h
  simp only [Bool.and_eq_true, decide_eq_true_eq] at h
  obtain ⟨⟨⟨⟨h4, h5⟩, _⟩, h6⟩, h7⟩ := h
  refine ⟨⟨h4, h5⟩, h2, fun h3 => ?_, fun h3 => ?_⟩
  · unfold Ev.inPart at h6
    rw [if_neg h3] at h6
    simp only [Bool.and_eq_true, decide_eq_true_eq] at h6
    exact ⟨e.p.toNat, by omega, by omega⟩
  · rw [if_neg h2, if_pos h3] at h7
    unfold numsB at h7
    simp only [Bool.and_eq_true, decide_eq_true_eq] at h7
    omega
theorem cmp_parts {D : List Ev} {i j : Nat} {a w : Ev} (ha : eAt D i = a) (hw : eAt D j = w) : cmpL D i j = (if decide (j < i) && (a.pub && w.pub && decide (a.p = w.p) && decide (a.num = w.num)) then [((i : Int), (j : Int), (2 : Int))] else []) ++ ((if wasA w.e a.b && backB a w then [((i : Int), (j : Int), (5 : Int))] else []) ++ ((if wasA w.e a.b && (wlateB a w || slateB a w) then [((i : Int), (j : Int), (6 : Int))] else []) ++ (if decide (j < i) && apartB a w then [((i : Int), (j : Int), (7 : Int))] else []))) := by
  subst ha hw
  rfl
theorem pub_not4 {e : Ev} (h : e.k = 4) : e.pub = false := by
  unfold Ev.pub
  rw [decide_eq_false (by omega), decide_eq_false (by omega)]
  rfl
theorem inn_false {sa sb dp : Bool} (h : (!sa && (!sb && dp)) = false) (ah x : Bool) : (ah && (!sa && !sb && dp && x)) = false := by
  cases sa <;> cases sb <;> cases dp <;> simp_all
theorem inn_true {sa sb dp : Bool} (h : (!sa && (!sb && dp)) = true) : sa = false ∧ sb = false ∧ dp = true := by
  cases sa <;> cases sb <;> cases dp <;> simp_all
/-- Both events in blocks of their own. -/
structure P2 (x : World) (hb g h : Nat) (a w : Ev) (nv pv nv' pv' : Value) : Prop where
  a : x.heap[g]? = some (.cells (evA a nv pv) 52 (0, 0))
  w : x.heap[h]? = some (.cells (evA w nv' pv') 52 (0, 0))
  ne : g ≠ hb ∧ h ≠ hb
theorem P2.still {x y : World} {hb g h : Nat} {a w : Ev} {nv pv nv' pv' : Value} (p : P2 x hb g h a w nv pv nv' pv') (ht : Turned [] x y) : P2 y hb g h a w nv pv nv' pv' := ⟨ht.heap p.a (by simp), ht.heap p.w (by simp), p.ne⟩
theorem P2.keep {x y : World} {hb g h : Nat} {a w : Ev} {nv pv nv' pv' : Value} (p : P2 x hb g h a w nv pv nv' pv') (ht : KeepB hb x y) : P2 y hb g h a w nv pv nv' pv' := ⟨ht.keep _ _ _ p.ne.1 (by decide) p.a, ht.keep _ _ _ p.ne.2 (by decide) p.w, p.ne⟩
end Go.Proofs.YtbielnehggcaoaaDoor
