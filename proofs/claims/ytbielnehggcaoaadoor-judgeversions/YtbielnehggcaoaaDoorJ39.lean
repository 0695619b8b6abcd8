/-
  The document's sort, by contract. (By the verifier; no statement.)
-/
import Derived.Test.YtbielnehggcaoaaDoorJ30
import Derived.Deep.CutRange
import Derived.BigRegion
namespace Go.Proofs.YtbielnehggcaoaaDoor
open Go.RowKit
theorem set3_at {cs : Array Value} {k : Nat} (h : k + 2 < cs.size) (x y z : Value) (j : Nat) : (((cs.setIfInBounds k x).setIfInBounds (k + 1) y).setIfInBounds (k + 2) z)[j]? = if j = k then some x else if j = k + 1 then some y else if j = k + 2 then some z else cs[j]? := by
  rw [set_at (by simp; omega), set_at (by simp; omega), set_at (by omega)]
  by_cases h0 : j = k
  · subst h0
    rw [if_neg (by omega), if_neg (by omega), if_pos rfl, if_pos rfl]
  by_cases h1 : j = k + 1
  · subst h1
    rw [if_neg (by omega), if_pos rfl, if_neg (by omega), if_pos rfl]
  by_cases h2 : j = k + 2
  · subst h2
    rw [if_pos rfl, if_neg (by omega), if_neg (by omega), if_pos rfl]
  · rw [if_neg (by omega), if_neg (by omega), if_neg (by omega), if_neg h0, if_neg h1, if_neg h2]
/-- A blame is laid over another one. -/
theorem BR.set3 {B g c : Nat} {w : World} {O : List Bm} (h : BR B w (.slice (some ⟨g, 0, none⟩) O.length c) O) {i : Nat} (hi : i < O.length) (r : Bm) : BR B (((w.setCell ⟨g, i * 3, none⟩ (.int .i64 r.1)).setCell ⟨g, i * 3 + 1, none⟩ (.int .i64 r.2.1)).setCell ⟨g, i * 3 + 2, none⟩ (.int .i64 r.2.2)) (.slice (some ⟨g, 0, none⟩) (O.set i r).length c) (O.set i r) ∧ Turned [g] w (((w.setCell ⟨g, i * 3, none⟩ (.int .i64 r.1)).setCell ⟨g, i * 3 + 1, none⟩ (.int .i64 r.2.1)).setCell ⟨g, i * 3 + 2, none⟩ (.int .i64 r.2.2)) := by
  rcases h.own.2 with ⟨e, _⟩ | ⟨g', c', cs, e, hb, hg, h3, h4, h5, h6⟩
  · cases e
  simp only [Value.slice.injEq, Option.some.injEq, Addr.mk.injEq] at e
  obtain ⟨⟨rfl, -, -⟩, -, rfl⟩ := e
  have k1 := blk_set hg (i * 3) (.int .i64 r.1)
  have k2 := blk_set k1 (i * 3 + 1) (.int .i64 r.2.1)
  have k3 := blk_set k2 (i * 3 + 2) (.int .i64 r.2.2)
  refine ⟨⟨by rw [rowsB_len, List.length_set], .inr ⟨g, c, _, rfl, hb, k3, by rw [List.length_set]; exact h3, h4, by simpa using h5, ?_⟩⟩, (((Turned.refl [g] w).set (.inl (by simp)) _ _).set (.inl (by simp)) _ _).set (.inl (by simp)) _ _⟩
  rw [List.length_set]
  apply List.ext_getElem?
  intro j
  by_cases hj : j < O.length * 3
  · obtain ⟨q, s, rfl, hs⟩ : ∃ q s, j = q * 3 + s ∧ s < 3 := ⟨j / 3, j % 3, by omega, by omega⟩
    have hq : q < O.length := by omega
    have hq2 : q < (O.set i r).length := by rw [List.length_set]; exact hq
    rw [List.getElem?_take_of_lt hj, Array.getElem?_toList, set3_at (by omega), rowsB_at _ hq2 hs, List.getElem_set]
    have hold : cs[q * 3 + s]? = (rowB O[q])[s]? := by
      rw [← rowsB_at O hq hs, ← h6, List.getElem?_take_of_lt hj, Array.getElem?_toList]
    by_cases e : i = q
    · subst e
      rw [if_pos rfl]
      rcases (by omega : s = 0 ∨ s = 1 ∨ s = 2) with rfl | rfl | rfl
      · rw [if_pos (by omega)]; rfl
      · rw [if_neg (by omega), if_pos (by omega)]; rfl
      · rw [if_neg (by omega), if_neg (by omega), if_pos (by omega)]; rfl
    · rw [if_neg e, if_neg (by omega), if_neg (by omega), if_neg (by omega)]
      exact hold
  · rw [List.getElem?_take_eq_none (by omega), List.getElem?_eq_none (by rw [rowsB_len, List.length_set]; omega)]
section
variable {w1 x y z : World} {hb m f : Nat} {lv tv : Value} {O : List Bm}
/-- The row of blames, as it lies. -/
theorem VX.row (h : VX w1 hb m lv tv O x) (hne : O ≠ []) : ∃ g c, (hb < x.heap.size ∧ x.cell? ⟨hb, 3, none⟩ = some (.slice (some ⟨g, 0, none⟩) O.length c)) ∧ g < x.heap.size ∧ (∀ k, k < O.length → x.cell? ⟨g, k * 3, none⟩ = some (.int .i64 (O.getD k (0, 0, 0)).1) ∧ x.cell? ⟨g, k * 3 + 1, none⟩ = some (.int .i64 (O.getD k (0, 0, 0)).2.1) ∧ x.cell? ⟨g, k * 3 + 2, none⟩ = some (.int .i64 (O.getD k (0, 0, 0)).2.2)) ∧ (∃ cs, x.heap[g]? = some (.cells cs 55 (0, 0))) ∧
    ∀ y i k, Turned [] x y → i < O.length → k < O.length → ∀ r s : Bm, VX w1 hb m lv tv ((O.set i r).set k s) ((((((y.setCell ⟨g, i * 3, none⟩ (.int .i64 r.1)).setCell ⟨g, i * 3 + 1, none⟩ (.int .i64 r.2.1)).setCell ⟨g, i * 3 + 2, none⟩ (.int .i64 r.2.2)).setCell ⟨g, k * 3, none⟩ (.int .i64 s.1)).setCell ⟨g, k * 3 + 1, none⟩ (.int .i64 s.2.1)).setCell ⟨g, k * 3 + 2, none⟩ (.int .i64 s.2.2)) := by
  obtain ⟨ov, h1, h2⟩ := h.ex
  rcases h2.form with ⟨_, e⟩ | ⟨g, c, rfl⟩
  · exact absurd e hne
  obtain ⟨cs, hcs⟩ := h2.type (g := g) rfl
  refine ⟨g, c, ⟨lt_of_heap h1, by rw [cell_at h1]; rfl⟩, lt_of_heap hcs, fun k hk => ?_, ⟨cs, hcs⟩, fun y i k hy hi hk r s => ?_⟩
  · have e3 : O.getD k (0, 0, 0) = O[k] := by simp [hk]
    rw [e3]
    have q : ∀ j, j < 3 → x.cell? ⟨g, k * 3 + j, none⟩ = (rowB O[k])[j]? := fun j hj => by
      rw [h2.own.cellAt _ (by omega)]
      exact rowsB_at O hk hj
    exact ⟨q 0 (by omega), q 1 (by omega), q 2 (by omega)⟩
  · obtain ⟨a1, t1⟩ := (h2.still hy).set3 hi r
    obtain ⟨a2, t2⟩ := a1.set3 (i := k) (by rw [List.length_set]; exact hk) s
    have hlt := h.lt
    have hgb := (h2.fresh (g := g) rfl).1
    have t3 := t1.trans t2
    refine ⟨(h.tu.trans (hy.mono (by simp))).inner t3 fun q hq => .inr (by rw [List.mem_singleton.1 hq]; exact hgb), hlt, _, t3.heap (hy.heap h1 (by simp)) (by simp; omega), ?_⟩
    have e : O.length = ((O.set i r).set k s).length := by simp
    rw [e]
    exact a2
set_option maxRecDepth 100000 in
set_option maxHeartbeats 12800000 in
theorem cSortR (h : VX w1 hb m lv tv O x) (hf : f ≤ O.length) (hl : O.length ≤ 2000000000) : Calls Tryd.prog 40 #[.pointer (some ⟨hb, 0, none⟩), .int .i64 f] x fun r x' => r = .returned (.tuple #[]) ∧ ∃ O' : List Bm, O'.take f = O.take f ∧ (O'.drop f).Perm (O.drop f) ∧ (O'.drop f).Pairwise leWy ∧ VX w1 hb m lv tv O' x' := by
  have HV : Hid (VX w1 hb m lv tv O x) := h
  have HSt : Hid (Srt O f (min (f + 1) O.length) O) := Srt.start hf (.inr rfl)
  have HLen : Hid (∀ (O' : List Bm) x', VX w1 hb m lv tv O' x' → hb < x'.heap.size ∧ ∃ a c, x'.cell? ⟨hb, 3, none⟩ = some (.slice a O'.length c)) := fun O' x' h => by
    obtain ⟨ov, h1, h2⟩ := h.ex
    rcases h2.form with ⟨rfl, rfl⟩ | ⟨g, c, rfl⟩
    · exact ⟨lt_of_heap h1, none, 0, by rw [cell_at h1]; rfl⟩
    · exact ⟨lt_of_heap h1, _, c, by rw [cell_at h1]; rfl⟩
  clear h
  go_enter Tryd.func40, Tryd.ntmps40
  go_wp2
  go_loopw [4, 5] (fun i _ wx => Bx (∃ (j : Nat) (O' : List Bm), f + 1 ≤ j ∧ i = .int .i64 j ∧ O'.length = O.length ∧ Hid (Srt O f (min j O.length) O') ∧ Hid (VX w1 hb m lv tv O' wx))) (fun i _ _ => O.length + 1 - (intOf i).toNat)
  case atStart => exact ⟨f + 1, O, Nat.le_refl _, by go_num, rfl, HSt, HV⟩
  case round =>
    obtain ⟨j, O1, hj, rfl, hOl, HS1, HV1⟩ := hrel.ex
    clear hrel HV HSt
    obtain ⟨s1, a1, c1, s2⟩ := HLen.out O1 wr HV1.out
    rw [hOl] at s2
    by_cases hlt : j < O.length
    · have HI : Hid (Ins O f j j O1) := by
        have h := HS1.out
        rw [Nat.min_eq_left (by omega)] at h
        exact h.ins (by omega) hlt
      have hne : O1 ≠ [] := fun e => by rw [e] at hOl; simp at hOl; omega
      go_wp2
      clear s1 s2
      go_loopw [5] (fun k wx => Bx (∃ (q : Nat) (O2 : List Bm), k = .int .i64 q ∧ Hid (Ins O f j q O2) ∧ Hid (VX w1 hb m lv tv O2 wx))) (fun k _ => (intOf k).toNat)
      case atStart => exact ⟨j, O1, rfl, HI, HV1⟩
      case round =>
        obtain ⟨q, O2, rfl, HI2, HV2⟩ := hrel.ex
        clear hrel HV1 HI HS1 hne
        obtain ⟨i1, i2, i3⟩ := HI2.out.ik
        have hO2 := HI2.out.len
        obtain ⟨g, c, ⟨r1, r2⟩, r3, r4, rty, r6⟩ := HV2.out.row (fun e => by rw [e] at hO2; simp at hO2; omega)
        by_cases hqf : f < q
        · obtain ⟨p, hpq⟩ : ∃ p, q = p + 1 := ⟨q - 1, by omega⟩
          have d0 : (q : Int) - 1 = (p : Int) := by omega
          have dp : p < O2.length := by omega
          have dq : q < O2.length := by omega
          have d1 : decide ((f : Int) < (q : Int)) = true := decide_eq_true (by omega)
          have HDone : Hid (leWy (O2.getD p (0, 0, 0)) (O2.getD q (0, 0, 0)) → Srt O f (j + 1) O2) := fun h => HI2.out.done (.inr (by rw [show q - 1 = p by omega]; exact h))
          have HSwap : Hid (ltWy (O2.getD q (0, 0, 0)) (O2.getD p (0, 0, 0)) → Ins O f j p ((O2.set p (O2.getD q (0, 0, 0))).set q (O2.getD p (0, 0, 0)))) := fun h => by have h2 := HI2.out.swap hqf (by rw [show q - 1 = p by omega]; exact h); rw [show q - 1 = p by omega] at h2; exact h2
          obtain ⟨a0, a1, a2⟩ := r4 p (by omega)
          obtain ⟨b0, b1, b2⟩ := r4 q (by omega)
          have HR6 : Hid (∀ y, Turned [] wr y → VX w1 hb m lv tv ((O2.set p (O2.getD q (0, 0, 0))).set q (O2.getD p (0, 0, 0))) ((((((y.setCell ⟨g, p * 3, none⟩ (.int .i64 (O2.getD q (0, 0, 0)).1)).setCell ⟨g, p * 3 + 1, none⟩ (.int .i64 (O2.getD q (0, 0, 0)).2.1)).setCell ⟨g, p * 3 + 2, none⟩ (.int .i64 (O2.getD q (0, 0, 0)).2.2)).setCell ⟨g, q * 3, none⟩ (.int .i64 (O2.getD p (0, 0, 0)).1)).setCell ⟨g, q * 3 + 1, none⟩ (.int .i64 (O2.getD p (0, 0, 0)).2.1)).setCell ⟨g, q * 3 + 2, none⟩ (.int .i64 (O2.getD p (0, 0, 0)).2.2))) := fun y hy => r6 y p q hy (by omega) (by omega) _ _
          have HPQ : Hid (q = p + 1) := hpq
          have HFz : Hid (∀ y, Turned [] wr y → ∀ o, y.frozen? ⟨g, o, none⟩ = false) := fun y hy o => by
            obtain ⟨cs, hcs⟩ := rty
            exact froz_at (hy.heap hcs (by simp)) o
          clear r4 r6 hpq rty
          generalize O2.getD p (0, 0, 0) = P at *
          generalize O2.getD q (0, 0, 0) = Q at *
          obtain ⟨x0, x1, x2⟩ := P
          obtain ⟨y0, y1, y2⟩ := Q
          dsimp only at a0 a1 a2 b0 b1 b2
          by_cases hw : x1 > y1
          · have d2 : decide (y1 < x1) = true := decide_eq_true hw
            have HSw : Hid _ := HSwap.out (.inl hw)
            clear hw HSwap HDone
            go_wp2
            go_quiet (fail)
            go_wp2
            obtain ⟨y, hy⟩ : ∃ y, y = wr.drewN nq := ⟨_, rfl⟩
            have hty : Turned [] wr y := by rw [hy]; exact (Turned.refl [] wr).drewN _
            rw [← hy]
            clear hy
            have HV6 : Hid _ := HR6.out y hty
            have t1 := Nat.lt_of_lt_of_le r1 hty.size
            have t2 := hty.cell r2 (by simp)
            have t3 := Nat.lt_of_lt_of_le r3 hty.size
            have t4 := hty.cell a0 (by simp)
            have t5 := hty.cell a1 (by simp)
            have t6 := hty.cell a2 (by simp)
            have t7 := hty.cell b0 (by simp)
            have t8 := hty.cell b1 (by simp)
            have t9 := hty.cell b2 (by simp)
            have fy : ∀ o, y.frozen? ⟨g, o, none⟩ = false := fun o => (HFz.out y hty o)
            clear r1 r2 r3 a0 a1 a2 b0 b1 b2 HR6 hty
            go_region
            clear t1 t2 t3 t4 t5 t6 t7 t8 t9 fy
            generalize (((((y.setCell ⟨g, p * 3, none⟩ (.int .i64 y0)).setCell ⟨g, p * 3 + 1, none⟩ (.int .i64 y1)).setCell ⟨g, p * 3 + 2, none⟩ (.int .i64 y2)).setCell ⟨g, q * 3, none⟩ (.int .i64 x0)).setCell ⟨g, q * 3 + 1, none⟩ (.int .i64 x1)).setCell ⟨g, q * 3 + 2, none⟩ (.int .i64 x2) = y9 at HV6 ⊢
            go_wp2
            go_roundw
            case rel => exact ⟨p, _, by go_num, HSw, HV6.out.still (Turned.refl [] _).drew⟩
            case measure => simp [intOf]; omega
          · have d2 : decide (y1 < x1) = false := decide_eq_false hw
            by_cases hv : x1 = y1
            · have d3 : (x1 == y1) = true := by simpa using hv
              by_cases hu : x2 > y2
              · have d4 : decide (y2 < x2) = true := decide_eq_true hu
                have HSw : Hid _ := HSwap.out (.inr ⟨hv.symm, hu⟩)
                clear hw hv hu HSwap HDone
                go_wp2
                go_quiet (fail)
                go_wp2
                obtain ⟨y, hy⟩ : ∃ y, y = wr.drewN nq := ⟨_, rfl⟩
                have hty : Turned [] wr y := by rw [hy]; exact (Turned.refl [] wr).drewN _
                rw [← hy]
                clear hy
                have HV6 : Hid _ := HR6.out y hty
                have t1 := Nat.lt_of_lt_of_le r1 hty.size
                have t2 := hty.cell r2 (by simp)
                have t3 := Nat.lt_of_lt_of_le r3 hty.size
                have t4 := hty.cell a0 (by simp)
                have t5 := hty.cell a1 (by simp)
                have t6 := hty.cell a2 (by simp)
                have t7 := hty.cell b0 (by simp)
                have t8 := hty.cell b1 (by simp)
                have t9 := hty.cell b2 (by simp)
                have fy : ∀ o, y.frozen? ⟨g, o, none⟩ = false := fun o => (HFz.out y hty o)
                clear r1 r2 r3 a0 a1 a2 b0 b1 b2 HR6 hty
                go_region
                clear t1 t2 t3 t4 t5 t6 t7 t8 t9 fy
                generalize (((((y.setCell ⟨g, p * 3, none⟩ (.int .i64 y0)).setCell ⟨g, p * 3 + 1, none⟩ (.int .i64 y1)).setCell ⟨g, p * 3 + 2, none⟩ (.int .i64 y2)).setCell ⟨g, q * 3, none⟩ (.int .i64 x0)).setCell ⟨g, q * 3 + 1, none⟩ (.int .i64 x1)).setCell ⟨g, q * 3 + 2, none⟩ (.int .i64 x2) = y9 at HV6 ⊢
                go_wp2
                go_roundw
                case rel => exact ⟨p, _, by go_num, HSw, HV6.out.still (Turned.refl [] _).drew⟩
                case measure => simp [intOf]; omega
              · have d4 : decide (y2 < x2) = false := decide_eq_false hu
                have HDn : Hid (Srt O f (j + 1) O2) := HDone.out (by unfold leWy ltWy; dsimp only; omega)
                clear hw hv hu HSwap HDone HR6
                go_wp2
                go_quiet (fail)
                go_wp2
                go_roundw
                case rel => exact ⟨j + 1, O2, by omega, by go_num, HI2.out.len, by rw [Hid, Nat.min_eq_left (by omega)]; exact HDn.out, HV2.out.still ((Turned.refl [] _).drewN _)⟩
                case measure => simp [intOf]; omega
            · have d3 : (x1 == y1) = false := by simpa using hv
              have HDn : Hid (Srt O f (j + 1) O2) := HDone.out (by unfold leWy ltWy; dsimp only; omega)
              clear hw hv HSwap HDone HR6
              go_wp2
              go_quiet (fail)
              go_wp2
              go_roundw
              case rel => exact ⟨j + 1, O2, by omega, by go_num, HI2.out.len, by rw [Hid, Nat.min_eq_left (by omega)]; exact HDn.out, HV2.out.still ((Turned.refl [] _).drewN _)⟩
              case measure => simp [intOf]; omega
        · have d1 : decide ((f : Int) < (q : Int)) = false := decide_eq_false (by omega)
          have HDn : Hid (Srt O f (j + 1) O2) := HI2.out.done (.inl (by omega))
          clear r4 r6 rty
          go_wp2
          go_quiet (fail)
          go_wp2
          go_roundw
          case rel => exact ⟨j + 1, O2, by omega, by go_num, HI2.out.len, by rw [Hid, Nat.min_eq_left (by omega)]; exact HDn.out, HV2.out.still ((Turned.refl [] _).drewN _)⟩
          case measure => simp [intOf]; omega
    · have HFin : Hid (O1.take f = O.take f ∧ (O1.drop f).Perm (O.drop f) ∧ (O1.drop f).Pairwise leWy) := by
        have h := HS1.out
        rw [Nat.min_eq_right (by omega)] at h
        exact h.fin (Nat.le_refl _)
      go_wp2
      go_end0
      exact ⟨rfl, O1, HFin.out.1, HFin.out.2.1, HFin.out.2.2, HV1.out⟩
end
end Go.Proofs.YtbielnehggcaoaaDoor
