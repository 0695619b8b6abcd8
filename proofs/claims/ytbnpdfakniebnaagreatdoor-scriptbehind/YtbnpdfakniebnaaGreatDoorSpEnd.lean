/-
  The end of a repeat by contract. (By the verifier; no statement.)
-/
import Derived.Test.YtbnpdfakniebnaaGreatDoorSpFo
namespace Go.Proofs.YtbnpdfakniebnaaGreatDoor
open Go.RowKit
section
variable {W0 w w1 w2 : World} {rb lb : Nat} {f : Bs} {r : RS} {m : RM} {mb : Nat} {s t : Ln}
theorem RP.bodyAt {B : Nat} {w : World} {m : RM} {S : List (Int × Int)} {T H : List Int} {W : List (List Cl)} {D : List Cl} (h : RP B w m S T H W D) {j gb k c : Nat} {q : Cl × SlV} (hq : m.bd[j]? = some q) (hv : m.vb = .slice (some ⟨gb, 0, none⟩) k c) : w.rangeAt gb (j * 5) (encC q) ∧ OW 157 2 encP B w q.2.v q.1.ps ∧ (q.1.ps = [] → q.2.v = .slice none 0 0) := by
  have hj := (List.getElem?_eq_some_iff.1 hq).1
  have he : m.bd[j] = q := (List.getElem?_eq_some_iff.1 hq).2
  obtain ⟨b, o, c', h1, h2, h3⟩ := h.bdy.view.get enC (by decide) hj
  rw [hv] at h1
  simp only [Value.slice.injEq, Option.some.injEq, Addr.mk.injEq] at h1
  obtain ⟨⟨rfl, rfl, -⟩, -, -⟩ := h1
  refine ⟨fun i u hu => ?_, h.prs q (List.mem_append_left _ (List.mem_of_getElem? hq))⟩
  have := h3 i u (by rw [he]; exact hu)
  rwa [Nat.zero_add] at this
/-- A copied call whose pairs were cloned, ready to be added. -/
theorem clone_step {c : Cl} {p u : SlV} (h : RL W0 w rb lb f r m mb t) (ht : Turned [] (w.alloc (.cells #[.int .i64 c.k, .int .i64 c.a, .int .i64 c.b, .int .i64 c.c, p.v] 79)) w2)
    (hu : OW 157 2 encP (w.alloc (.cells #[.int .i64 c.k, .int .i64 c.a, .int .i64 c.b, .int .i64 c.c, p.v] 79)).heap.size w2 u.v c.ps) :
    RL W0 (w2.setCell ⟨w.heap.size, 4, none⟩ u.v) rb lb f r m mb t ∧ w2.heap[w.heap.size]? = some (.cells #[.int .i64 c.k, .int .i64 c.a, .int .i64 c.b, .int .i64 c.c, p.v] 79 (0, 0)) ∧ (w2.setCell ⟨w.heap.size, 4, none⟩ u.v).heap[w.heap.size]? = some (.cells #[.int .i64 c.k, .int .i64 c.a, .int .i64 c.b, .int .i64 c.c, u.v] 79 (0, 0)) ∧ OW 157 2 encP W0.heap.size (w2.setCell ⟨w.heap.size, 4, none⟩ u.v) u.v c.ps ∧ ∀ x ∈ ownL u.v, x ∉ ownL m.vs ++ m.calls.flatMap fun q => ownL q.2.v := by
  have h1 := h.still ((Turned.refl [] w).alloc (.cells #[.int .i64 c.k, .int .i64 c.a, .int .i64 c.b, .int .i64 c.c, p.v] 79))
  have h2 := h1.still ht
  have hb := ht.heap (blk_new w (.cells #[.int .i64 c.k, .int .i64 c.a, .int .i64 c.b, .int .i64 c.c, p.v] 79)) (by simp)
  have hs := blk_set hb 4 u.v
  have hT : Turned [w.heap.size] w2 (w2.setCell ⟨w.heap.size, 4, none⟩ u.v) := (Turned.refl _ _).set (by simp) _ _
  refine ⟨h2.aside hT hb h.tu.size fun hm => ?_, hb, hs, (hu.lower h1.tu.size).cell_off hb (by decide) _ _, h1.rp.apart hu⟩
  rw [List.mem_append] at hm
  rcases hm with hm | hm
  · have := h.rp.bdy.own_lt _ hm; omega
  · have := h.rp.rows_lt _ hm; omega
set_option maxRecDepth 100000 in
set_option maxHeartbeats 6400000 in
theorem cEndR (h : RL W0 w rb lb f r m mb s) (hO : r.Ok) (hw : r.work ≠ []) : Calls Tryz.prog 219 #[LP rb, LP lb] w (DP W0 rb lb f (r.fold s)) := by
  have HX0 : Hid _ := h
  have HE : Hid (r.fold s = if (s.fin.atMost (r.callsN + r.times * r.body.length) 64).err = 0 then ({ r.addAll (List.replicate r.times.toNat r.body).flatten with times := 0, body := [], tag := 1, wants := false }, s.fin.atMost (r.callsN + r.times * r.body.length) 64) else (r, s.fin.atMost (r.callsN + r.times * r.body.length) 64)) := rfl
  have HK : Hid ((s.fin.atMost (r.callsN + r.times * r.body.length) 64).err = 0 → r.callsN + r.times * r.body.length ≤ 64) := fold_ok
  have HOk : Hid r.Ok := hO
  have HWn : Hid (r.work ≠ []) := hw
  have hc0 := r.callsN_nonneg
  have hc1 := hO.callsN
  have hb1 := hO.bdy
  have ht1 := hO.tm
  obtain ⟨T, hT⟩ : ∃ T : Nat, r.times = T := ⟨r.times.toNat, by omega⟩
  have HT : Hid _ := hT
  have hT64 : T ≤ 64 := by omega
  have hk64 : r.body.length ≤ 64 := hb1
  clear h hO hw
  unfold DP
  have HCN : Hid (∀ W mm, RL W0 W rb lb f r mm mb s.fin → Calls Tryz.prog 217 #[LP rb] W fun q w' => q = .returned (.int .i64 r.callsN) ∧ w' = W) := fun W mm h => cCallsN h HOk.out
  obtain ⟨va, vc, hvb⟩ := HX0.out.rp.bdy.slice
  have hbl : m.bd.length = r.body.length := by have := HX0.out.rp.eqb; rw [show r.body = _ from this]; simp
  rw [show (RG.m (r.rg m mb)) = m from rfl, hbl] at hvb
  have HVB : Hid (m.vb = _) := hvb
  have HBL : Hid _ := hbl
  clear hvb hbl
  have hen := @cEndL w w lb f s HX0.out.ln.ls
  rw [hT] at HE HK ht1
  generalize hcn : r.callsN = n at *
  generalize hbn : r.body.length = k at *
  have HN1 : Hid _ := hcn
  have HN2 : Hid _ := hbn
  have hmul : (T : Int) * (k : Int) ≤ 64 * 64 := Int.mul_le_mul (by omega) (by omega) (by omega) (by omega)
  have hmul0 : 0 ≤ (T : Int) * (k : Int) := Int.mul_nonneg (by omega) (by omega)
  have e0 : IntKind.i64.wrap ((T : Int) * (k : Int)) = (T : Int) * (k : Int) := by rw [IntKind.wrap_i64]; omega
  have e1 : IntKind.i64.wrap (n + (T : Int) * (k : Int)) = n + (T : Int) * (k : Int) := by rw [IntKind.wrap_i64]; omega
  clear hcn hbn hmul hmul0
  generalize s.fin = t2 at *
  have HA : Hid (∀ W, RL W0 W rb lb f r m mb t2 → Calls Tryz.prog 206 #[LP lb, .int .i64 (n + (T : Int) * (k : Int)), .int .i64 64] W fun q w' => q = .returned (.tuple #[]) ∧ RL W0 w' rb lb f r m mb (t2.atMost (n + (T : Int) * (k : Int)) 64)) := fun W h => (cAtMost h.ln.ls _ _).mono fun _ _ ⟨h1, h2⟩ => ⟨h1, h.line h2⟩
  generalize t2.atMost (n + (T : Int) * (k : Int)) 64 = t3 at *
  rw [HE.out]
  clear HE hc0 hc1 hb1 ht1
  by_cases herr : t3.err = 0
  · rw [if_pos herr]
    have HP : Hid _ := HK.out herr
    rw [Int.toNat_natCast]
    go_enter Tryz.func219, Tryz.ntmps219
    go_wp2_with (go_at_call 156; refine hen.mono ?_; rintro r1 w3 ⟨rfl, hL⟩; have HX1 : Hid (RX W0 w3 rb lb f (rdCells r m mb) (r.rg m mb) t2) := HX0.out.line hL; clear hL hen; obtain ⟨p0, p1, p2⟩ := HX1.out.at 14 m.vb rfl; rw [HVB.out] at p1; obtain ⟨q0, q1, q2⟩ := HX1.out.at 13 (.int .i64 r.times) rfl; rw [HT.out] at q1)
    go_region_law (first | (go_simp; go_at_call 217; refine (HCN.out _ m (HX1.out.still ?_)).mono ?_; (focus (repeat first | exact Turned.refl _ _ | refine Turned.drew ?_ | refine Turned.alloc ?_ _)); rintro r1 z ⟨rfl, rfl⟩; try go_wp2_with fail) | (go_simp; go_at_call 206; refine (HA.out _ (HX1.out.still ?_)).mono ?_; (focus (repeat first | exact Turned.refl _ _ | refine Turned.drew ?_ | refine Turned.alloc ?_ _)); rintro r1 z ⟨rfl, hz⟩; have HZ : Hid _ := hz; clear hz; try go_wp2_with fail))
    all_goals
      clear p0 p1 p2 q0 q1 q2
      obtain ⟨b', o, c', hlb, -, -, hl2, hlz, -, -, -, -, -⟩ := HZ.out.ln.cells
      rw [herr] at hl2
      obtain ⟨q0, q1, q2⟩ := HZ.out.at 13 (.int .i64 r.times) rfl
      rw [HT.out] at q1
      clear e0 e1
      go_wp2
      go_loopg [32] T (fun g v wr => Hid (∃ (i : Nat) (rows' : List (SlV × List (Cl × SlV))), v = .int .i64 i ∧ i + g = T ∧ RL W0 wr rb lb f (r.addAll (List.replicate i r.body).flatten) { m with rows := rows' } mb t3))
      case atStart => exact ⟨0, m.rows, rfl, by omega, HZ.out⟩
      case round =>
        obtain ⟨i, rows1, rfl, hi, hR⟩ := hrel.out
        clear hrel hlb hl2 hlz q0 q1 q2
        obtain ⟨wo, rfl⟩ : ∃ x, x = wr := ⟨wr, rfl⟩
        have HR : Hid _ := hR
        by_cases hlt : i < T
        · obtain ⟨g, rfl⟩ : ∃ g, gk = g + 1 := ⟨gk - 1, by omega⟩
          obtain ⟨p0, p1, p2⟩ := hR.at 14 m.vb rfl
          rw [HVB.out] at p1
          clear hR
          go_wp2
          go_loopg [39] k (fun g2 v wr => Hid (∃ (j : Nat) (rows' : List (SlV × List (Cl × SlV))), v = .int .i64 j ∧ j + g2 = k ∧ RL W0 wr rb lb f (r.addAll ((List.replicate i r.body).flatten ++ r.body.take j)) { m with rows := rows' } mb t3))
          case atStart => exact ⟨0, rows1, rfl, by omega, by simpa using HR.out⟩
          case round =>
            obtain ⟨j, rows2, rfl, hj, hR2⟩ := hrel.out
            clear hrel p0 p1 p2
            have HR2 : Hid _ := hR2
            by_cases hjk : j < k
            · obtain ⟨g2, rfl⟩ : ∃ g, gk = g + 1 := ⟨gk - 1, by omega⟩
              obtain ⟨⟨c, ⟨pa, pn, pc⟩⟩, hq⟩ : ∃ q, m.bd[j]? = some q := ⟨_, List.getElem?_eq_getElem (by rw [HBL.out]; exact hjk)⟩
              obtain ⟨gb, gc, hgv⟩ := HX0.out.rp.bdy.at_ (by show m.bd ≠ []; intro e; rw [e] at hq; simp at hq)
              have hva : va = some ⟨gb, 0, none⟩ := by
                have h1 := HVB.out
                rw [show m.vb = _ from hgv] at h1
                simp only [Value.slice.injEq] at h1
                exact h1.1.symm
              subst hva
              obtain ⟨hba, hpr, hpz⟩ := hR2.rp.bodyAt (m := { m with rows := rows2 }) hq HVB.out
              have HBa : Hid _ := hba
              have HPr : Hid (OW 157 2 encP W0.heap.size wr (SlV.v ⟨pa, pn, pc⟩) c.ps) := hpr
              have HPz : Hid (c.ps = [] → (SlV.v ⟨pa, pn, pc⟩) = .slice none 0 0) := hpz
              have hcb : r.body[j]? = some c := by rw [show r.body = _ from HX0.out.rp.eqb, List.getElem?_map, show (RG.m (r.rg m mb)).bd[j]? = some (c, (⟨pa, pn, pc⟩ : SlV)) from hq]; rfl
              have hall := r.addAll_all HWn.out ((List.replicate i r.body).flatten ++ r.body.take j)
              have hlen : ((List.replicate i r.body).flatten ++ r.body.take j).length = i * k + j := by
                rw [List.length_append, flat_len, HN2.out, List.length_take, HN2.out]
                omega
              have hle : i * k + j ≤ T * k := by
                have h1 : (i + 1) * k ≤ T * k := Nat.mul_le_mul_right k (by omega)
                rw [Nat.succ_mul] at h1
                omega
              have hcN : (r.addAll ((List.replicate i r.body).flatten ++ r.body.take j)).callsN ≤ 1000 := by
                rw [hall.2.2.1, hlen, HN1.out]
                have h2 := HP.out
                have h3 : ((i * k + j : Nat) : Int) ≤ ((T * k : Nat) : Int) := by omega
                rw [show ((T * k : Nat) : Int) = (T : Int) * (k : Int) from Int.natCast_mul _ _] at h3
                omega
              have HS : Hid ((r.addAll ((List.replicate i r.body).flatten ++ r.body.take j)).add c = r.addAll ((List.replicate i r.body).flatten ++ r.body.take (j + 1))) := by
                rw [Hid, List.take_add_one, hcb, ← List.append_assoc, RS.addAll_append _ (_ ++ _) _]
                rfl
              have HW1 : Hid _ := hall.1
              have HW2 : Hid ((r.addAll ((List.replicate i r.body).flatten ++ r.body.take j)).work.length ≤ 8) := by rw [Hid, hall.2.1]; exact HOk.out.wrk
              have HCn : Hid _ := hcN
              have HPl : Hid (c.ps.length ≤ 1000000000) := HOk.out.bps c (List.mem_of_getElem? hcb)
              clear hq hgv hba hpr hpz hcb hall hlen hle hcN hR2
              go_wp2_with (first | (refine wpList_load_mid rfl 79 (.tmp 41) rfl gb (j * 5) rfl (encC (c, ⟨pa, pn, pc⟩)) _ HBa.out Tryz.underlying79 rfl (by kernel_rfl) ?_) | (go_at_call 223; refine (cClone (p := ⟨pa, pn, pc⟩) (HPr.out.still ((Turned.refl [] _).alloc (.cells #[.int .i64 c.k, .int .i64 c.a, .int .i64 c.b, .int .i64 c.c, (SlV.v ⟨pa, pn, pc⟩)] 79 (0, 0)))) HPz.out HPl.out).mono ?_; rintro r1 w5 ⟨⟨ua, un, uc⟩, rfl, hu, hu0, ht⟩; have HC : Hid _ := clone_step (p := ⟨pa, pn, pc⟩) (u := ⟨ua, un, uc⟩) HR2.out ht hu; have HU0 : Hid (c.ps = [] → (SlV.v ⟨ua, un, uc⟩) = .slice none 0 0) := hu0; have hbb := HC.out.2.1; have hb1 := lt_of_heap hbb; have hb2 := (cell_at hbb 4).trans (show _ = some (SlV.v ⟨pa, pn, pc⟩) from rfl); have hb3 := froz_at hbb 4; clear hu hu0 ht hbb) | (refine wpList_load_row rfl 79 (.tmp 5) rfl wr.heap.size rfl 79 _ (0, 0) _ HC.out.2.2.1 Tryz.underlying79 rfl (by kernel_rfl) ?_) | (go_at_call 218; refine (cAdd (p := ⟨ua, un, uc⟩) HC.out.1 HW1.out HW2.out HCn.out HC.out.2.2.2.1 HU0.out HC.out.2.2.2.2).mono ?_; rintro r1 w6 ⟨rfl, rows3, hR3⟩; have HR3 : Hid _ := hR3; clear hR3))
              go_roundg g2
              case rel => exact ⟨j + 1, rows3, by first | (simp; done) | (simp; unfold wrap64; omega), by omega, by have := HR3.out; rw [HS.out] at this; exact this⟩
              · omega
            · obtain rfl : j = k := by omega
              have HF : Hid (RL W0 wr rb lb f (r.addAll (List.replicate (i + 1) r.body).flatten) { m with rows := rows2 } mb t3) := by
                rw [Hid, flat_succ]
                have := HR2.out
                rw [List.take_of_length_le (by rw [HN2.out]; exact Nat.le_refl _)] at this
                exact this
              clear hR2
              go_wp2
              go_roundg g
              case rel => exact ⟨i + 1, rows2, by first | (simp; done) | (simp; unfold wrap64; omega), by omega, HF.out⟩
              · omega
        · obtain rfl : i = T := by omega
          obtain ⟨p0, p1, p2⟩ := hR.at 13 (.int .i64 (r.addAll (List.replicate i r.body).flatten).times) rfl
          have HX2 : Hid _ := hR.set 13 (.int .i64 0)
          obtain ⟨q0, q1, q2⟩ := HX2.out.at 14 m.vb rfl
          rw [HVB.out] at q1
          have HX3 : Hid _ := HX2.out.set 14 (.slice none 0 0)
          clear hR
          go_wp2_with (go_at_call 157; refine (cFurther HX3.out.tabc).mono ?_; rintro r1 w7 ⟨mb2, rfl, ht, hb, hD⟩; have HX7 : Hid _ := HX3.out.deeds ht hD hb; clear ht hb hD p0 p1 p2 q0 q1 q2; obtain ⟨p0, p1, p2⟩ := HX7.out.at 10 (.map (some mb)) rfl; have HX7s : Hid _ := HX7.out.set 10 (.map (some mb2)); obtain ⟨q0, q1, q2⟩ := HX7s.out.at 11 (.bool (r.addAll (List.replicate i r.body).flatten).wants) rfl; have HX8s : Hid _ := HX7s.out.set 11 (.bool false))
          refine bodyPost_end (results_none rfl _ _ _) rfl ?_
          exact ⟨rfl, { m with rows := rows1, vb := .slice none 0 0, bd := [] }, mb2, HX8s.out.rows (X := []) (Turned.refl _ _) (by simp) HX8s.out.rp.drop⟩
  · rw [if_neg herr]
    have he' : ¬ ((t3.err : Int) = 0) := by omega
    go_enter Tryz.func219, Tryz.ntmps219
    go_wp2_with (go_at_call 156; refine hen.mono ?_; rintro r1 w3 ⟨rfl, hL⟩; have HX1 : Hid (RX W0 w3 rb lb f (rdCells r m mb) (r.rg m mb) t2) := HX0.out.line hL; clear hL hen; obtain ⟨p0, p1, p2⟩ := HX1.out.at 14 m.vb rfl; rw [HVB.out] at p1; obtain ⟨q0, q1, q2⟩ := HX1.out.at 13 (.int .i64 r.times) rfl; rw [HT.out] at q1)
    go_region_law (first | (go_simp; go_at_call 217; refine (HCN.out _ m (HX1.out.still ?_)).mono ?_; (focus (repeat first | exact Turned.refl _ _ | refine Turned.drew ?_ | refine Turned.alloc ?_ _)); rintro r1 z ⟨rfl, rfl⟩; try go_wp2_with fail) | (go_simp; go_at_call 206; refine (HA.out _ (HX1.out.still ?_)).mono ?_; (focus (repeat first | exact Turned.refl _ _ | refine Turned.drew ?_ | refine Turned.alloc ?_ _)); rintro r1 z ⟨rfl, hz⟩; have HZ : Hid _ := hz; clear hz; try go_wp2_with fail))
    all_goals
      clear p0 p1 p2 q0 q1 q2
      obtain ⟨b', o, c', hlb, -, -, hl2, hlz, -, -, -, -, -⟩ := HZ.out.ln.cells
      go_wp2
      refine bodyPost_ret (results_none rfl _ _ _) rfl ?_
      exact ⟨rfl, m, mb, HZ.out⟩
end
end Go.Proofs.YtbnpdfakniebnaaGreatDoor
