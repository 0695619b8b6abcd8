/-
  A script in memory, read only; the first call without text. (By the verifier; no statement.)
-/
import Derived.Test.YtbnpdfakniebnaaGreatDoorSpHas2
import Derived.Test.YtbnpdfakniebnaaGreatDoorSpRd
namespace Go.Proofs.YtbnpdfakniebnaaGreatDoor
open Go.RowKit
theorem fm_succ {α β : Type} (f : α → List β) {l : List α} {i : Nat} (h : i < l.length) : (l.take (i + 1)).flatMap f = (l.take i).flatMap f ++ f l[i] := by
  rw [List.take_add_one, List.getElem?_eq_getElem h, List.flatMap_append]
  simp
/-- A script in memory. -/
structure SV (w : World) (m : RM) (S : List (Int × Int)) (T H : List Int) : Prop where
  src : VW encP w m.vs S
  trn : VW encI w m.vt T
  hlt : VW encI w m.vh H
  wrk : VW encS w m.vw (m.rows.map (·.1))
  rws : ∀ p ∈ m.rows, VW encC w p.1.v p.2
  prs : ∀ p ∈ m.rows, ∀ q ∈ p.2, VW encP w q.2.v q.1.ps
/-- Its lengths. -/
structure SL (m : RM) (S : List (Int × Int)) (T H : List Int) : Prop where
  src : S.length ≤ 1000000000
  trn : T.length ≤ 1000000000
  hlt : H.length ≤ 1000000000
  wrk : m.rows.length ≤ 1000000000
  rws : (m.rows.flatMap (·.2)).length ≤ 1000000000
  prs : ∀ p ∈ m.rows, ∀ q ∈ p.2, q.1.ps.length ≤ 1000000000
section
variable {w w' : World} {m : RM} {S : List (Int × Int)} {T H : List Int}
theorem SV.still (h : SV w m S T H) (ht : Turned [] w w') : SV w' m S T H := ⟨h.src.still ht, h.trn.still ht, h.hlt.still ht, h.wrk.still ht, fun p hp => (h.rws p hp).still ht, fun p hp q hq => (h.prs p hp q hq).still ht⟩
theorem SV.row (h : SV w m S T H) {i : Nat} (hi : i < m.rows.length) : ∃ a c cs b o d, m.rows[i] = (⟨a, cs.length, c⟩, cs) ∧ m.vw = .slice (some ⟨b, o, none⟩) m.rows.length d ∧ b < w.heap.size ∧ w.cell? ⟨b, o + i, none⟩ = some (.slice a cs.length c) ∧ VW encC w (.slice a cs.length c) cs ∧ ∀ q ∈ cs, VW encP w q.2.v q.1.ps := by
  have hm := List.getElem_mem hi
  have h1 := h.rws _ hm
  have h2 := h.prs _ hm
  obtain ⟨b, o, d, hv, hb, hc⟩ := h.wrk.get enS (by decide) (i := i) (by simpa using hi)
  rcases hq : m.rows[i] with ⟨⟨a, n, c⟩, cs⟩
  rw [hq] at h1 h2
  obtain ⟨a', c', e, -, -⟩ := h1.ex
  simp only [Value.slice.injEq] at e
  obtain ⟨rfl, rfl, rfl⟩ := e
  have h3 := hc 0 (.slice a cs.length c) (by simp [hq])
  rw [Nat.add_zero, Nat.mul_one] at h3
  exact ⟨a, c, cs, b, o, d, rfl, by rw [hv]; simp, hb, h3, h1, h2⟩
theorem VW.call {R : List (Cl × SlV)} {v : Value} (h : VW encC w v R) {j : Nat} (hj : j < R.length) : ∃ b o d k a bb c ps va vn vc, v = .slice (some ⟨b, o, none⟩) R.length d ∧ b < w.heap.size ∧ R[j] = (⟨k, a, bb, c, ps⟩, ⟨va, vn, vc⟩) ∧ w.cell? ⟨b, o + j * 5, none⟩ = some (.int .i64 k) ∧ w.cell? ⟨b, o + j * 5 + 1, none⟩ = some (.int .i64 a) ∧ w.cell? ⟨b, o + j * 5 + 2, none⟩ = some (.int .i64 bb) ∧ w.cell? ⟨b, o + j * 5 + 3, none⟩ = some (.int .i64 c) ∧ w.cell? ⟨b, o + j * 5 + 4, none⟩ = some (.slice va vn vc) := by
  obtain ⟨b, o, d, hv, hb, hc⟩ := h.get enC (by decide) hj
  rcases hq : R[j] with ⟨⟨k, a, bb, c, ps⟩, ⟨va, vn, vc⟩⟩
  rw [hq] at hc
  exact ⟨b, o, d, k, a, bb, c, ps, va, vn, vc, hv, hb, rfl, hc 0 _ rfl, hc 1 _ rfl, hc 2 _ rfl, hc 3 _ rfl, hc 4 _ rfl⟩
end
/-- The number of the first call without a text; 0: none. -/
def firstB (l : List Cl) : Nat := if l.all hasT then 0 else l.findIdx (fun c => !hasT c) + 1
theorem first_found {l A B : List Cl} {c : Cl} (h : l = A ++ c :: B) (hA : ∀ x ∈ A, hasT x = true) (hc : hasT c = false) : firstB l = A.length + 1 := by
  unfold firstB
  have h1 : l.all hasT = false := by
    rw [List.all_eq_false]
    exact ⟨c, by rw [h]; simp, by rw [hc]; simp⟩
  rw [h1, if_neg (by simp), h, List.findIdx_append, if_neg]
  · rw [List.findIdx_cons, hc]; simp
  · rw [List.findIdx_eq_length.2 (fun x hx => by rw [hA x hx]; rfl)]; simp
theorem first_none {l : List Cl} (h : ∀ x ∈ l, hasT x = true) : firstB l = 0 := by
  unfold firstB
  rw [if_pos (List.all_eq_true.2 h)]
section
variable {w : World} {m : RM} {S : List (Int × Int)} {T H : List Int}
set_option maxRecDepth 100000 in
set_option maxHeartbeats 3200000 in
theorem cFirst (hT : TabC w) (h : SV w m S T H) (hL : SL m S T H) : Calls Tryz.prog 48 #[m.vw] w fun q w' => q = .returned (.int .i64 (firstB ((m.rows.flatMap (·.2)).map (·.1)))) ∧ Turned [] w w' := by
  have HT : Hid _ := hT
  have HV : Hid _ := h
  have HL : Hid _ := hL
  obtain ⟨va, vc, hv, -, -⟩ := h.wrk.ex
  rw [List.length_map] at hv
  have HVW : Hid _ := hv
  rw [hv]
  clear hT h hL hv
  go_enter Tryz.func48, Tryz.ntmps48
  go_wp2
  go_loopg [3, 10] m.rows.length (fun g n v wr => Hid (∃ i N : Nat, n = .int .i64 N ∧ v = .int .i64 i ∧ i + g = m.rows.length ∧ N = ((m.rows.take i).flatMap (·.2)).length ∧ Turned [] w wr ∧ ∀ q ∈ (m.rows.take i).flatMap (·.2), hasT q.1 = true))
  case atStart => exact ⟨0, 0, rfl, rfl, by omega, by simp, Turned.refl _ _, by simp⟩
  case round =>
    obtain ⟨i, N, rfl, rfl, hi, hN, ht, hall⟩ := hrel.out
    clear hrel
    have HTu : Hid _ := ht
    have HAll : Hid _ := hall
    obtain ⟨w1, rfl⟩ : ∃ y, y = wr := ⟨wr, rfl⟩
    by_cases hlt : i < m.rows.length
    · obtain ⟨g, rfl⟩ : ∃ g, gk = g + 1 := ⟨gk - 1, by omega⟩
      obtain ⟨a, c, cs, b, o, d, hr, hvw, hb, hc, hR, hP⟩ := (HV.out.still ht).row hlt
      have hvw2 := hvw
      rw [HVW.out] at hvw2
      simp only [Value.slice.injEq] at hvw2
      obtain ⟨rfl, -, rfl⟩ := hvw2
      have HS : Hid ((m.rows.take (i + 1)).flatMap (·.2) = (m.rows.take i).flatMap (·.2) ++ cs) := by
        rw [Hid, fm_succ _ hlt, hr]
      have HD : Hid (∃ Z, m.rows.flatMap (·.2) = (m.rows.take i).flatMap (·.2) ++ cs ++ Z) := by
        refine ⟨(m.rows.drop (i + 1)).flatMap (·.2), ?_⟩
        rw [← HS.out, ← List.flatMap_append, List.take_append_drop]
      have HPL : Hid (∀ q ∈ cs, q.1.ps.length ≤ 1000000000) := fun q hq => HL.out.prs _ (List.getElem_mem hlt) q (by rw [hr]; exact hq)
      have HRow : Hid _ := hR
      have HPr : Hid _ := hP
      have hN2 : N + cs.length ≤ 1000000000 := by
        obtain ⟨Z, hZ⟩ := HD.out
        have := HL.out.rws
        rw [hZ, List.length_append, List.length_append, ← hN] at this
        omega
      have HN : Hid _ := hN
      have hml := HL.out.wrk
      clear hr hvw hR hP hN ht hall
      go_wp2
      clear hc
      go_loopg [3, 16] cs.length (fun g n v wr => Hid (∃ j : Nat, n = .int .i64 ((N + j : Nat) : Int) ∧ v = .int .i64 j ∧ j + g = cs.length ∧ Turned [] w1 wr ∧ ∀ q ∈ cs.take j, hasT q.1 = true))
      case atStart => exact ⟨0, rfl, rfl, by omega, Turned.refl _ _, by simp⟩
      case round =>
        obtain ⟨j, rfl, rfl, hj, ht, hall⟩ := hrel.out
        clear hrel
        by_cases hjt : j < cs.length
        · obtain ⟨g2, rfl⟩ : ∃ g, gk = g + 1 := ⟨gk - 1, by omega⟩
          obtain ⟨b2, o2, d2, k, ca, cb, cc, ps, pa, pn, pc, hv2, hb2, hr2, hc0, hc1, hc2, hc3, hc4⟩ := (HRow.out.still ht).call hjt
          simp only [Value.slice.injEq] at hv2
          obtain ⟨rfl, -, rfl⟩ := hv2
          have hmem := List.getElem_mem hjt
          have hp := HPr.out _ hmem
          have hpl := HPL.out _ hmem
          rw [hr2] at hp hpl
          have HA : Hid (Turned [] w1 (wr.alloc (.cells #[.int .i64 k, .int .i64 ca, .int .i64 cb, .int .i64 cc, .slice pa pn pc] 79))) := ht.alloc _
          have HC : Hid (∀ W, Turned [] w1 W → Calls Tryz.prog 102 #[.agg #[.int .i64 k, .int .i64 ca, .int .i64 cb, .int .i64 cc, .slice pa pn pc]] W fun r w' => r = .returned (.bool (hasT ⟨k, ca, cb, cc, ps⟩)) ∧ Turned [] W w') := fun W hW => cHas ((HT.out.still HTu.out).still hW) (hp.still hW) hpl
          have HTk : Hid (cs.take (j + 1) = cs.take j ++ [(⟨k, ca, cb, cc, ps⟩, ⟨pa, pn, pc⟩)]) := by rw [Hid, List.take_add_one, List.getElem?_eq_getElem hjt, hr2]; rfl
          have HDr : Hid (cs = cs.take j ++ (⟨k, ca, cb, cc, ps⟩, ⟨pa, pn, pc⟩) :: cs.drop (j + 1)) := by rw [Hid, ← hr2, ← List.drop_eq_getElem_cons hjt, List.take_append_drop]
          have HAl2 : Hid _ := hall
          clear hmem hp hpl hr2 ht hall
          cases hx : hasT ⟨k, ca, cb, cc, ps⟩ with
          | true =>
            have HX : Hid _ := hx
            go_wp2_with (go_at_call 102; refine (HC.out _ HA.out).mono ?_; rintro r1 w3 ⟨rfl, ht⟩; rw [HX.out]; have HT3 : Hid (Turned [] w1 w3) := HA.out.trans ht; clear ht)
            go_roundg g2
            case rel => exact ⟨j + 1, by first | (simp; done) | (simp; omega) | (simp; unfold wrap64; omega), by first | (simp; done) | (simp; omega) | (simp; unfold wrap64; omega), by omega, HT3.out, by
              rw [HTk.out]
              intro q hq
              rcases List.mem_append.1 hq with h1 | h1
              · exact HAl2.out q h1
              · rw [List.mem_singleton.1 h1]; exact HX.out⟩
            · omega
          | false =>
            have HE : Hid (firstB ((m.rows.flatMap (·.2)).map (·.1)) = N + j + 1) := by
              obtain ⟨Z, hZ⟩ := HD.out
              rw [Hid, first_found (A := ((m.rows.take i).flatMap (·.2) ++ cs.take j).map (·.1)) (B := (cs.drop (j + 1) ++ Z).map (·.1)) (c := ⟨k, ca, cb, cc, ps⟩) ?_ ?_ hx]
              · rw [List.length_map, List.length_append, List.length_take, ← HN.out]
                omega
              · rw [hZ]
                conv => lhs; rw [HDr.out]
                simp
              · intro x hx
                obtain ⟨q, hq, rfl⟩ := List.mem_map.1 hx
                rcases List.mem_append.1 hq with h1 | h1
                · exact HAll.out q h1
                · exact HAl2.out q h1
            have HX : Hid _ := hx
            go_wp2_with (go_at_call 102; refine (HC.out _ HA.out).mono ?_; rintro r1 w3 ⟨rfl, ht⟩; rw [HX.out]; have HT3 : Hid (Turned [] w1 w3) := HA.out.trans ht; clear ht)
            go_ret
            rw [HE.out]
            refine ⟨?_, HTu.out.trans HT3.out⟩
            first | (simp; done) | (simp; omega) | (simp; unfold wrap64; omega)
        · obtain rfl : j = cs.length := by omega
          have HT3 : Hid _ := HTu.out.trans ht
          have HAl2 : Hid _ := hall
          clear ht hall
          go_wp2
          go_roundg g
          case rel => exact ⟨i + 1, N + cs.length, rfl, by first | (simp; done) | (simp; omega) | (simp; unfold wrap64; omega), by omega, by rw [HS.out, List.length_append, ← HN.out], HT3.out, by
            rw [HS.out]
            intro q hq
            rcases List.mem_append.1 hq with h1 | h1
            · exact HAll.out q h1
            · exact HAl2.out q (by rw [List.take_length]; exact h1)⟩
          · omega
    · obtain rfl : i = m.rows.length := by omega
      have HE : Hid (firstB ((m.rows.flatMap (·.2)).map (·.1)) = 0) := by
        rw [Hid]
        refine first_none fun x hx => ?_
        obtain ⟨q, hq, rfl⟩ := List.mem_map.1 hx
        exact HAll.out q (by rw [List.take_length]; exact hq)
      have hml := HL.out.wrk
      clear ht hall hN
      go_wp2
      go_ret
      rw [HE.out]
      exact ⟨rfl, HTu.out⟩
end
end Go.Proofs.YtbnpdfakniebnaaGreatDoor
