/-
  The document's search by contract: its walk. (By the verifier; no statement.)
-/
import Derived.Test.YtfhoflcecbdncaaDoorJ31
import Derived.Deep.CutRange
namespace Go.Proofs.YtfhoflcecbdncaaDoor
open Go.RowKit
theorem allQ {D : List Dd} {S : Pl} : allIn D S = (List.range D.length).all fun j => decide ((dAt D j).e = 0) || S j := rfl
set_option maxRecDepth 100000 in
set_option maxHeartbeats 12800000 in
theorem goes_step {D : List Dd} {m B xb vb : Nat} {ad : Option Addr} {cap : Nat} {bs : List Bool} (hr : ∀ i, i < D.length → (dAt D i).right m) (hn : D.length ≤ 14) (hm : m ≤ 256) (hb : ∀ b o, ad = some ⟨b, o, none⟩ → b < B) (IH : ∀ k, k < D.length → pL bs k = false → GoesC D m B xb vb ad cap (bs.set k true)) : GoesC D m B xb vb ad cap bs := by
  intro cs os gs0 N w p ov hU hS hO hD hlen hN
  obtain ⟨oa, oc, rfl⟩ : ∃ oa oc, ov = .slice oa os.length oc := by
    obtain ⟨a, c, e⟩ := hO.form
    exact ⟨a, c, by rw [e]; simp⟩
  have HR : Hid (∀ i, i < D.length → (dAt D i).right m) := hr
  have HBd : Hid (∀ b o, ad = some ⟨b, o, none⟩ → b < B) := hb
  have HIH : Hid (∀ k, k < D.length → pL bs k = false → GoesC D m B xb vb ad cap (bs.set k true)) := IH
  have HN : Hid (N + tN (outN D.length (pL bs)) ≤ tN 14) := hN
  have HLn : Hid (os.length + outN D.length (pL bs) ≤ D.length) := hlen
  have hol : os.length ≤ D.length := by omega
  have hT0 : Turned [] w (w.alloc (.cells #[.slice p.1.1 D.length p.1.2, .slice p.2.1 m p.2.2] 86 (0, 0))) := (Turned.refl [] w).alloc _
  have HG : Hid (GI D m B xb vb ad cap bs cs os w gs0 w.heap.size p oa oc N (w.alloc (.cells #[.slice p.1.1 D.length p.1.2, .slice p.2.1 m p.2.2] 86 (0, 0))) gs0) := by
    refine ⟨hU.still hT0, hS.still hT0, hO.still hT0, hD.still hT0, blk_new w _, fun hq => ?_, hT0.mono (by simp), fun g hg => .inl hg⟩
    rcases List.mem_cons.1 hq with e | e
    · obtain ⟨cs, _, _, h1, _⟩ := hU.ex
      have := lt_of_heap h1
      omega
    · obtain ⟨_, c, h1⟩ := hU.ty _ e
      have := lt_of_heap h1
      omega
  clear hr hb IH hN hlen hU hS hO hD hT0
  go_enter Tryd.func35, Tryd.ntmps35
  refine wp_seq_k fun K0 hK0 => ?_
  have HK0 : Hid _ := hK0
  clear hK0
  go_wp2
  refine HK0.out _ _ ?_
  clear HK0 K0
  generalize w.alloc (.cells #[.slice p.1.1 D.length p.1.2, .slice p.2.1 m p.2.2] 86 (0, 0)) = x0 at HG ⊢
  generalize w.heap.size = sb at HG ⊢
  go_wp2
  go_loopw [8, 9] (fun l i wx => ∃ k : Nat, k ≤ D.length ∧ l = .bool (!((List.range k).all fun j => decide ((dAt D j).e = 0) || pL bs j)) ∧ i = .int .i64 k ∧ Hid (GI D m B xb vb ad cap bs cs os w gs0 sb p oa oc N wx gs0)) (fun _ i _ => D.length - (intOf i).toNat)
  case atStart => exact ⟨0, Nat.zero_le _, rfl, rfl, HG⟩
  case round =>
    obtain ⟨k, hk, rfl, rfl, HG1⟩ := hrel
    obtain ⟨r1, r2, -, r3, r4, -⟩ := HG1.out.reads
    by_cases hlt : k < D.length
    · obtain ⟨ib, ei, i1, i2⟩ := HG1.out.isIn hlt
      obtain ⟨b, o, rfl, bl, dk⟩ := HG1.out.deed hlt
      have k1 := dk.h1
      rw [ei] at r4
      clear dk ei
      have HA : Hid (((List.range (k + 1)).all fun j => decide ((dAt D j).e = 0) || pL bs j) = (((List.range k).all fun j => decide ((dAt D j).e = 0) || pL bs j) && (decide ((dAt D k).e = 0) || pL bs k))) := all_range_succQ
      cases d1 : ((List.range k).all fun j => decide ((dAt D j).e = 0) || pL bs j) with
      | false =>
        rw [d1] at HA
        go_wp2
        go_roundw
        case rel => exact ⟨k + 1, by omega, by rw [HA.out]; rfl, by go_num, HG1⟩
        case measure => simp [intOf]; omega
      | true =>
        rw [d1] at HA
        cases d2 : pL bs k with
        | true =>
          rw [d2] at i2 HA
          go_wp2
          go_roundw
          case rel => exact ⟨k + 1, by omega, by rw [HA.out]; simp, by go_num, HG1⟩
          case measure => simp [intOf]; omega
        | false =>
          rw [d2] at i2 HA
          by_cases g : (dAt D k).e = 0
          · have HA2 : Hid ((true && (decide ((dAt D k).e = 0) || false)) = true) := by rw [Hid, decide_eq_true g]; rfl
            rw [g] at k1
            clear g
            go_wp2
            go_roundw
            case rel => exact ⟨k + 1, by omega, by rw [HA.out, HA2.out]; rfl, by go_num, HG1⟩
            case measure => simp [intOf]; omega
          · have HA2 : Hid ((true && (decide ((dAt D k).e = 0) || false)) = false) := by rw [Hid, decide_eq_false g]; rfl
            have g1 : ((dAt D k).e != 0) = true := by simpa using g
            clear g
            go_wp2
            go_roundw
            case rel => exact ⟨k + 1, by omega, by rw [HA.out, HA2.out]; rfl, by go_num, HG1⟩
            case measure => simp [intOf]; omega
    · obtain rfl : k = D.length := by omega
      cases d1 : ((List.range D.length).all fun j => decide ((dAt D j).e = 0) || pL bs j) with
      | true =>
        have HAl : Hid (allIn D (pL bs) = true) := d1
        clear d1
        go_wp2
        go_ret2
        exact ⟨HG1.out.tu, ⟨gs0, HG1.out.hu.mono (by omega), fun g hg => .inl hg⟩, some [], _, true, rfl, .nil HAl.out, .inl ⟨[], rfl, rfl, by rw [List.append_nil]; exact HG1.out.ou⟩⟩
      | false =>
        have HAl : Hid (allIn D (pL bs) = false) := d1
        clear d1 r1 r2 r3 r4
        obtain ⟨x1, hx1⟩ : ∃ x1, x1 = wr := ⟨_, rfl⟩
        have HG2 : Hid (GI D m B xb vb ad cap bs cs os w gs0 sb p oa oc N x1 gs0) := by rw [Hid, hx1]; exact HG1.out
        rw [← hx1]
        obtain ⟨r1, r2, r5, r3, r4, -⟩ := HG2.out.reads
        clear hx1 HG1 HG
        go_upto_region 9 with fail
        rename_i Ka hKa Kb hKb
        have HKa : Hid _ := hKa
        clear hKa
        go_wp2
        clear r1 r2 r5 r3 r4
        obtain ⟨va, vc, R, vl, v1, -, vn, vrow⟩ := HG2.out.hu.row hol
        have HVl : Hid (∀ y, Turned [] x1 y → vb < y.heap.size ∧ y.cell? ⟨vb, os.length, none⟩ = some (.slice va R.length vc)) := fun y hy => ⟨Nat.lt_of_lt_of_le vl hy.size, hy.cell v1 (by simp)⟩
        have HVr : Hid (∀ i, i < R.length → ∃ b o q bs' cs', va = some ⟨b, o, none⟩ ∧ (∀ y, Turned [] x1 y → b < y.heap.size ∧ y.cell? ⟨b, o + i * 2, none⟩ = some (.slice q.1.1 D.length q.1.2) ∧ y.cell? ⟨b, o + i * 2 + 1, none⟩ = some (.slice q.2.1 m q.2.2)) ∧ ST D.length m B x1 q bs' cs' ∧ ¬ Can D (pL bs') (vL cs')) := vrow
        have hRl : R.length ≤ 10000000000000 := by
          have h1 := HN.out
          have h2 : tN 14 ≤ 10000000000000 := by decide
          omega
        clear vl v1 vn vrow
        go_loopw [11] (fun i wx => Bx (∃ k : Nat, k ≤ R.length ∧ i = .int .i64 k ∧ Hid (Turned [] x1 wx))) (fun i _ => R.length - (intOf i).toNat)
        case atStart => exact ⟨0, Nat.zero_le _, rfl, Turned.refl _ _⟩
        case round =>
          obtain ⟨k, hk, rfl, HT⟩ := hrel.ex
          clear hrel
          have HG3 : Hid (GI D m B xb vb ad cap bs cs os w gs0 sb p oa oc N wr gs0) := HG2.out.still HT.out
          obtain ⟨r1, r2, r5, r3, r4, r6⟩ := HG3.out.reads
          obtain ⟨v1, v2⟩ := HVl.out wr HT.out
          by_cases hlt2 : k < R.length
          · obtain ⟨b, o, q, bs', cs', rfl, qc, qs, qn⟩ := HVr.out k hlt2
            obtain ⟨q1, q2, q3⟩ := qc wr HT.out
            have P := fun y (hy : Turned [] wr y) => cSameSt (w := y) (qs.i.view.still (HT.out.trans hy)) (HG3.out.st.i.view.still hy) (qs.c.view.still (HT.out.trans hy)) (HG3.out.st.c.view.still hy) qs.li HG3.out.st.li qs.lc HG3.out.st.lc (by omega) (by omega)
            have HQn : Hid (¬ Can D (pL bs') (vL cs')) := qn
            clear qc qs qn r2
            go_wp2
            go_cut [75] from 52 to 75 (fun q wx => ∃ qq : Bool, q = .bool qq ∧ Hid (qq = true ↔ bs' = bs ∧ cs' = cs) ∧ Hid (Turned [] wr wx))
            case first =>
              go_region_with (go_at_call 51; refine (P _ (Turned.refl [] wr).drew).mono ?_; rintro r z ⟨⟨qq, rfl, hq⟩, tz⟩; have HQ : Hid _ := hq; have HZ : Hid _ := tz; clear hq tz)
              all_goals
                go_wp2_with fail
                go_meet
                exact ⟨_, rfl, HQ.out, (Turned.refl [] wr).drew.trans HZ.out⟩
            case rest =>
              obtain ⟨qq, rfl, HQ, HZ⟩ := hcut
              cases qq with
              | true =>
                obtain ⟨e1, e2⟩ := HQ.out.1 rfl
                have HNo : Hid (¬ Can D (pL bs) (vL cs)) := by rw [Hid, ← e1, ← e2]; exact HQn.out
                clear e1 e2 HQ HQn P
                have HG4 : Hid (GI D m B xb vb ad cap bs cs os w gs0 sb p oa oc N wc gs0) := HG3.out.still HZ.out
                clear r1 r3 r4 r5 r6 v1 v2 q1 q2 q3
                go_wp2
                go_ret2
                exact ⟨HG4.out.tu, ⟨gs0, HG4.out.hu.mono (by omega), fun g hg => .inl hg⟩, none, _, false, rfl, HNo.out, .inr ⟨rfl, rfl, rfl⟩⟩
              | false =>
                clear HQ HQn P r1 r3 r4 r5 r6 v1 v2 q1 q2 q3
                go_wp2
                go_roundw
                case rel =>
                  exact ⟨k + 1, by omega, by go_num, HT.out.trans HZ.out⟩
                case measure => simp [intOf]; omega
          · obtain rfl : k = R.length := by omega
            clear HVl HVr HG2
            go_wp2
            clear r1 r2 r3 r4 r5 r6 v1 v2 hRl
            refine HKa.out _ _ ?_
            refine goes_tail hn hm hol HR HBd HIH HN HLn HAl HG3 ?_ ?_ ?_ ?_ ?_ ?_
            all_goals rfl
theorem cGoes {D : List Dd} {m B xb vb : Nat} {ad : Option Addr} {cap : Nat} (hr : ∀ i, i < D.length → (dAt D i).right m) (hn : D.length ≤ 14) (hm : m ≤ 256) (hb : ∀ b o, ad = some ⟨b, o, none⟩ → b < B) : ∀ (n : Nat) (bs : List Bool), bs.length = D.length → outN D.length (pL bs) ≤ n → GoesC D m B xb vb ad cap bs
  | 0, bs, hl, ho => goes_step hr hn hm hb fun k hk h0 => by
    have := outN_upd hk h0
    omega
  | n + 1, bs, hl, ho => goes_step hr hn hm hb fun k hk h0 => by
    have h1 := outN_upd hk h0
    rw [← pL_set (by omega)] at h1
    exact cGoes hr hn hm hb n (bs.set k true) (by simp [hl]) (by omega)
end Go.Proofs.YtfhoflcecbdncaaDoor
