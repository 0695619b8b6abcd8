/-
  Which calls have a text: isNumber, fits, hasText by contract. (By the verifier; no statement.)
-/
import Derived.Test.YtbnpdfakniebnaaGreatDoorSpRd
import Derived.Test.YtbnpdfakniebnaaGreatDoorSpCall
namespace Go.Proofs.YtbnpdfakniebnaaGreatDoor
open Go.RowKit
def isN (n : Int) : Bool := decide (-mostN ≤ n) && decide (n ≤ mostN)
def fitN (i : Nat) (nn n : Int) : Bool := if (i : Int) < nn then isN n else n == 0
def valC (c : Cl) (i : Nat) : Int := if i = 0 then c.a else if i = 1 then c.b else c.c
def fitsB (q : Bs × Int × Bool) (c : Cl) : Bool := (fitN 0 q.2.1 c.a && fitN 1 q.2.1 c.b && fitN 2 q.2.1 c.c) && c.ps.all fun p => q.2.2 && isN p.1 && isN p.2
def hasT (c : Cl) : Bool := decide (0 < c.k) && decide (c.k < 20) && fitsB (rowT c.k.toNat) c
set_option maxHeartbeats 400000 in
theorem cIsN (w : World) (n : Int) : Calls Tryz.prog 181 #[.int .i64 n] w fun q w' => q = .returned (.bool (isN n)) ∧ w' = w := by
  have HE : Hid (isN n = (decide (-1152921504606846976 ≤ n) && decide (n ≤ 1152921504606846976))) := rfl
  by_cases h1 : -1152921504606846976 ≤ n
  · have h1' : decide (-1152921504606846976 ≤ n) = true := decide_eq_true h1
    go_enter Tryz.func181, Tryz.ntmps181
    go_wp2
    go_ret
    refine ⟨?_, rfl⟩
    rw [HE.out, h1']
    simp
  · have h1' : decide (-1152921504606846976 ≤ n) = false := decide_eq_false h1
    go_enter Tryz.func181, Tryz.ntmps181
    go_wp2
    go_ret
    refine ⟨?_, rfl⟩
    rw [HE.out, h1']
    simp
theorem fity3 {q : Bs × Int × Bool} {c : Cl} (h : ∀ i, i < 3 → fitN i q.2.1 (valC c i) = true) : fitsB q c = c.ps.all fun p => q.2.2 && isN p.1 && isN p.2 := by
  have h0 := h 0 (by omega)
  have h1 := h 1 (by omega)
  have h2 := h 2 (by omega)
  unfold fitsB
  rw [show fitN 0 q.2.1 c.a = true from h0, show fitN 1 q.2.1 c.b = true from h1, show fitN 2 q.2.1 c.c = true from h2]
  rfl
theorem fitn3 {q : Bs × Int × Bool} {c : Cl} {i : Nat} (hi : i < 3) (h : fitN i q.2.1 (valC c i) = false) : fitsB q c = false := by
  have : i = 0 ∨ i = 1 ∨ i = 2 := by omega
  unfold fitsB
  rcases this with rfl | rfl | rfl
  · rw [show fitN 0 q.2.1 c.a = false from h]; simp
  · rw [show fitN 1 q.2.1 c.b = false from h]; simp
  · rw [show fitN 2 q.2.1 c.c = false from h]; simp
set_option maxRecDepth 100000 in
set_option maxHeartbeats 3200000 in
theorem cFits {w : World} {q : Bs × Int × Bool} {c : Cl} {pv : Value} (hv : VW encP w pv c.ps) (hl : c.ps.length ≤ 1000000000) : Calls Tryz.prog 138 #[.agg #[sV q.1, .int .i64 q.2.1, .bool q.2.2], clV c pv] w fun r w' => r = .returned (.bool (fitsB q c)) ∧ Turned [] w w' := by
  obtain ⟨wd, nn, pb⟩ := q
  obtain ⟨k, a, b, cc, ps⟩ := c
  obtain ⟨pa, pc, rfl, -, -⟩ := hv.ex
  have HV : Hid _ := hv
  clear hv
  go_enter Tryz.func138, Tryz.ntmps138
  go_wp2
  have h1 := blk30 w (.cells #[sV wd, .int .i64 nn, .bool pb] 181) (.cells #[.int .i64 k, .int .i64 a, .int .i64 b, .int .i64 cc, .slice pa ps.length pc] 79) (.cells #[.int .i64 a, .int .i64 b, .int .i64 cc] 3)
  have h2 := blk31 w (.cells #[sV wd, .int .i64 nn, .bool pb] 181) (.cells #[.int .i64 k, .int .i64 a, .int .i64 b, .int .i64 cc, .slice pa ps.length pc] 79) (.cells #[.int .i64 a, .int .i64 b, .int .i64 cc] 3)
  have h3 := blk32 w (.cells #[sV wd, .int .i64 nn, .bool pb] 181) (.cells #[.int .i64 k, .int .i64 a, .int .i64 b, .int .i64 cc, .slice pa ps.length pc] 79) (.cells #[.int .i64 a, .int .i64 b, .int .i64 cc] 3)
  have H1 : Hid _ := h1
  have H2 : Hid _ := h2
  have H3 : Hid _ := h3
  have HW : Hid (Turned [] w (((w.alloc (.cells #[sV wd, .int .i64 nn, .bool pb] 181)).alloc (.cells #[.int .i64 k, .int .i64 a, .int .i64 b, .int .i64 cc, .slice pa ps.length pc] 79)).alloc (.cells #[.int .i64 a, .int .i64 b, .int .i64 cc] 3))) := (((Turned.refl [] w).alloc _).alloc _).alloc _
  clear h1 h2 h3
  generalize ((w.alloc (.cells #[sV wd, .int .i64 nn, .bool pb] 181)).alloc (.cells #[.int .i64 k, .int .i64 a, .int .i64 b, .int .i64 cc, .slice pa ps.length pc] 79)).alloc (.cells #[.int .i64 a, .int .i64 b, .int .i64 cc] 3) = x at *
  generalize hb1 : w.heap.size = b1 at *
  have HB1 : Hid _ := hb1
  clear hb1
  go_loopg [17] 3 (fun g v wr => Hid (∃ i : Nat, v = .int .i64 i ∧ i + g = 3 ∧ Turned [] x wr ∧ ∀ j, j < i → fitN j nn (valC ⟨k, a, b, cc, ps⟩ j) = true))
  case atStart => exact ⟨0, rfl, rfl, Turned.refl _ _, fun j hj => by omega⟩
  case round =>
    obtain ⟨i, rfl, hi, ht, hf⟩ := hrel.out
    clear hrel
    have HT : Hid _ := ht
    have HF : Hid _ := hf
    have g1 := ht.heap H1.out (by simp)
    have g2 := ht.heap H2.out (by simp)
    have g3 := ht.heap H3.out (by simp)
    have l1 := lt_of_heap g1
    have l2 := lt_of_heap g2
    have l3 := lt_of_heap g3
    have c1 := (cell_at g1 1).trans (show _ = some (Value.int .i64 nn) from rfl)
    have c2 := (cell_at g1 2).trans (show _ = some (Value.bool pb) from rfl)
    have c3 := (cell_at g2 4).trans (show _ = some (Value.slice pa ps.length pc) from rfl)
    clear hf
    by_cases hlt : i < 3
    · obtain ⟨g, rfl⟩ : ∃ g, gk = g + 1 := ⟨gk - 1, by omega⟩
      have c4 : wr.cell? ⟨b1 + 1 + 1, i, none⟩ = some (.int .i64 (valC ⟨k, a, b, cc, ps⟩ i)) := by
        rw [cell_at g3]
        have : i = 0 ∨ i = 1 ∨ i = 2 := by omega
        rcases this with rfl | rfl | rfl <;> rfl
      clear g1 g2 g3 ht
      have HN : Hid (fitN i nn (valC ⟨k, a, b, cc, ps⟩ i) = if (i : Int) < nn then isN (valC ⟨k, a, b, cc, ps⟩ i) else valC ⟨k, a, b, cc, ps⟩ i == 0) := rfl
      have HS : Hid (fitN i nn (valC ⟨k, a, b, cc, ps⟩ i) = true → ∀ j, j < i + 1 → fitN j nn (valC ⟨k, a, b, cc, ps⟩ j) = true) := fun h j hj => by
        rcases Nat.lt_or_ge j i with h5 | h5
        · exact HF.out j h5
        · obtain rfl : j = i := by omega
          exact h
      have HS2 : Hid (fitN i nn (valC ⟨k, a, b, cc, ps⟩ i) = false → fitsB (wd, nn, pb) ⟨k, a, b, cc, ps⟩ = false) := fun h => fitn3 (q := (wd, nn, pb)) hlt h
      generalize valC ⟨k, a, b, cc, ps⟩ i = n at *
      by_cases hin : (i : Int) < nn
      · cases hnum : isN n with
        | true =>
          have HOk : Hid (fitN i nn n = true) := by rw [Hid, HN.out, if_pos hin]; exact hnum
          go_wp2_with (go_at_call 181; refine (cIsN _ _).mono ?_; rintro r1 w1 ⟨rfl, rfl⟩; rw [hnum])
          go_roundg g
          case rel => exact ⟨i + 1, by first | (simp; done) | (simp; unfold wrap64; omega), by omega, HT.out, HS.out HOk.out⟩
          · omega
        | false =>
          have HOk : Hid (fitN i nn n = false) := by rw [Hid, HN.out, if_pos hin]; exact hnum
          go_wp2_with (go_at_call 181; refine (cIsN _ _).mono ?_; rintro r1 w1 ⟨rfl, rfl⟩; rw [hnum])
          go_ret
          rw [HS2.out HOk.out]
          exact ⟨rfl, HW.out.trans HT.out⟩
      · have hge : nn ≤ (i : Int) := by omega
        by_cases hz : n = 0
        · have HOk : Hid (fitN i nn n = true) := by rw [Hid, HN.out, if_neg hin, hz]; rfl
          subst hz
          go_wp2
          go_roundg g
          case rel => exact ⟨i + 1, by first | (simp; done) | (simp; unfold wrap64; omega), by omega, HT.out, HS.out HOk.out⟩
          · omega
        · have HOk : Hid (fitN i nn n = false) := by rw [Hid, HN.out, if_neg hin]; simpa using hz
          go_wp2
          go_ret
          rw [HS2.out HOk.out]
          exact ⟨rfl, HW.out.trans HT.out⟩
    · obtain rfl : i = 3 := by omega
      clear g1 g2 g3 ht hi
      have HE : Hid (fitsB (wd, nn, pb) ⟨k, a, b, cc, ps⟩ = ps.all fun p => pb && isN p.1 && isN p.2) := fity3 (q := (wd, nn, pb)) HF.out
      go_wp2
      obtain ⟨w3, rfl⟩ : ∃ y, y = wr := ⟨wr, rfl⟩
      have HC2 : Hid (w3.cell? ⟨b1, 2, none⟩ = some (.bool pb)) := c2
      have HV3 : Hid (VW encP w3 (.slice pa ps.length pc) ps) := HV.out.still (HW.out.trans HT.out)
      have HTw : Hid (Turned [] w w3) := HW.out.trans HT.out
      clear c1 c2 c3 l1 l2 l3 HF H1 H2 H3 HV HW HT
      go_loopg [45] ps.length (fun g v wr => Hid (∃ i : Nat, v = .int .i64 i ∧ i + g = ps.length ∧ Turned [] w3 wr ∧ ((ps.take i).all fun p => pb && isN p.1 && isN p.2) = true))
      case atStart => exact ⟨0, rfl, by omega, Turned.refl _ _, rfl⟩
      case round =>
        obtain ⟨i, rfl, hi, ht, hf⟩ := hrel.out
        clear hrel
        have HT : Hid _ := ht
        have HF : Hid _ := hf
        by_cases hlt : i < ps.length
        · obtain ⟨g, rfl⟩ : ∃ g, gk = g + 1 := ⟨gk - 1, by omega⟩
          obtain ⟨bp, o, c', hv, hb, hc⟩ := (HV3.out.still ht).get enP (by decide) hlt
          simp only [Value.slice.injEq] at hv
          obtain ⟨rfl, -, rfl⟩ := hv
          have HS : Hid ((pb && isN ps[i].1 && isN ps[i].2) = true → ((ps.take (i + 1)).all fun p => pb && isN p.1 && isN p.2) = true) := fun h => by
            rw [List.take_add_one, List.getElem?_eq_getElem hlt, List.all_append, HF.out]
            simpa using h
          have HS2 : Hid ((pb && isN ps[i].1 && isN ps[i].2) = false → (ps.all fun p => pb && isN p.1 && isN p.2) = false) := fun h => by
            rw [List.all_eq_false]
            exact ⟨ps[i], List.getElem_mem hlt, by rw [h]; simp⟩
          generalize ps[i] = n at *
          obtain ⟨n1, n2⟩ := n
          have hc0 := hc 0 (.int .i64 n1) rfl
          have hc1 := hc 1 (.int .i64 n2) rfl
          rw [Nat.add_zero] at hc0
          rw [← Nat.add_assoc] at hc1
          have cb := ht.cell HC2.out (by simp)
          have lb := World.block_lt_of_cell? _ _ cb
          have HA : Hid (Turned [] wr (wr.alloc (.cells #[.int .i64 n1, .int .i64 n2] 157))) := (Turned.refl _ _).alloc _
          clear hc ht hf
          dsimp only at HS HS2
          cases pb with
          | false =>
            go_wp2
            go_ret
            rw [HE.out, HS2.out rfl]
            exact ⟨rfl, HTw.out.trans (HT.out.trans HA.out)⟩
          | true =>
            cases h1 : isN n1 with
            | false =>
              go_wp2_with (go_at_call 181; refine (cIsN _ _).mono ?_; rintro r1 w1 ⟨rfl, rfl⟩; rw [h1])
              go_ret
              rw [HE.out, HS2.out (by rw [h1]; rfl)]
              exact ⟨rfl, HTw.out.trans (HT.out.trans HA.out)⟩
            | true =>
              cases h2 : isN n2 with
              | false =>
                go_wp2_with (go_at_call 181; refine (cIsN _ _).mono ?_; rintro r1 w1 ⟨rfl, rfl⟩; first | rw [h1] | rw [h2])
                go_ret
                rw [HE.out, HS2.out (by rw [h1, h2]; rfl)]
                exact ⟨rfl, HTw.out.trans (HT.out.trans HA.out)⟩
              | true =>
                go_wp2_with (go_at_call 181; refine (cIsN _ _).mono ?_; rintro r1 w1 ⟨rfl, rfl⟩; first | rw [h1] | rw [h2])
                go_roundg g
                case rel => exact ⟨i + 1, by first | (simp; done) | (simp; unfold wrap64; omega), by omega, HT.out.trans HA.out, HS.out (by rw [h1, h2]; rfl)⟩
                · omega
        · obtain rfl : i = ps.length := by omega
          have HF2 : Hid ((ps.all fun p => pb && isN p.1 && isN p.2) = true) := by have := hf; rwa [List.take_length] at this
          clear ht hf
          go_wp2
          go_ret
          rw [HE.out, HF2.out]
          exact ⟨rfl, HTw.out.trans HT.out⟩
theorem rowT_at {kk : Nat} {q : Bs × Int × Bool} (h : callT[kk]? = some q) : rowT kk = q := by
  unfold rowT
  rw [List.getD_eq_getElem?_getD, h]
  rfl
end Go.Proofs.YtbnpdfakniebnaaGreatDoor
