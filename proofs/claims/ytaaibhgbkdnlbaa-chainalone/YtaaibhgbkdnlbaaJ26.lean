/- ChainAlone: its state, its loops, kinds 1 and 2. (Written by tools/gen/genchl2.py.) -/
import Derived.Test.YtaaibhgbkdnlbaaJ25
namespace Go.Proofs.Ytaaibhgbkdnlbaa
open Go.RowKit
structure FB (n p kb c c2 : Nat) (ta : Option Addr) (Lc tc g rl rc : Nat) (now : Int) (used ct i : Nat) (a : Act) : Prop where
  hs : a.tmps.size = 477
  hd : a.defers = []
  x0 : a.eval (.tmp 0) = .int .i64 n
  x1 : a.eval (.tmp 1) = .slice ta Lc tc
  x5 : a.eval (.tmp 5) = .pointer (some ⟨p, 0, none⟩)
  x7 : a.eval (.tmp 7) = .pointer (some ⟨kb, 0, none⟩)
  x9 : a.eval (.tmp 9) = .pointer (some ⟨c, 0, none⟩)
  x10 : a.eval (.tmp 10) = .pointer (some ⟨c2, 0, none⟩)
  x15 : a.eval (.tmp 15) = .slice (some ⟨g, 0, none⟩) rl rc
  x16 : a.eval (.tmp 16) = .int .i64 now
  x17 : a.eval (.tmp 17) = .int .i64 used
  x18 : a.eval (.tmp 18) = .int .i64 ct
  x19 : a.eval (.tmp 19) = .int .i64 i
/-- The law's memory. -/
structure LS (W x : World) (n p kb c c2 used it : Nat) (now : Int) (G : Int → List Int) (R : List VRow) (rv : Value) (N : List Nat) : Prop where
  y : LY W x 1 n p kb c c2 used it now G (R.map VRow.v) N
  rows : VR W.heap.size x rv R
  ne : R ≠ []
  sets : ∀ r ∈ R, IV W r.u (G r.v.h) ∧ (G r.v.h).length ≤ 50
structure ST (W : World) (n p kb c c2 : Nat) (ta : Option Addr) (Lc tc i : Nat) (bn : Int) (bc bi : Nat) (a : Act) (x : World) : Prop where
  ex : ∃ now used ct it G R g rc, FB n p kb c c2 ta Lc tc g R.length rc now used ct i a ∧ LS W x n p kb c c2 used it now G R (.slice (some ⟨g, 0, none⟩) R.length rc) [] ∧ now ≤ bn ∧ ct ≤ bc ∧ it ≤ bi
theorem LY.len {W x : World} {m n p kb c c2 used it : Nat} {now : Int} {G : Int → List Int} {L : List Ver} {N : List Nat} (h : LY W x m n p kb c c2 used it now G L N) : L.length ≤ used ∧ used ≤ n := by
  obtain ⟨_, _, _, _, _, F, _, _, _, _, _, h⟩ := h.ex
  have := h.cs.room
  have := h.n_
  have := h.used_
  omega
theorem IV.len {w : World} {sa : Option Addr} {sl sc : Nat} {l : List Int} (h : IV w (.slice sa sl sc) l) : sl = l.length := by
  obtain ⟨a, c, e, -⟩ := h.ex
  simp only [Value.slice.injEq] at e
  exact e.2.1
/-- A row of numbers that is written on. -/
structure Wr (x : World) (vb vl : Nat) (y : World) : Prop where
  turned : Turned [vb] x y
  cells : ∃ cs : Array Value, y.heap[vb]? = some (.cells cs 3 (0, 0)) ∧ ∀ j, j < vl → ∃ z, cs[j]? = some (.int .i64 z)
theorem Wr.start {x : World} {B vb vc : Nat} {l : List Int} (h : IR B x (.slice (some ⟨vb, 0, none⟩) l.length vc) l) : Wr x vb l.length x := by
  obtain ⟨cs, hc⟩ := h.type (g := vb) rfl
  refine ⟨Turned.refl _ _, cs, hc, fun j hj => ⟨l[j], ?_⟩⟩
  rw [← cell_at hc j]
  exact h.cells hj
theorem Wr.put {x y : World} {vb vl : Nat} (h : Wr x vb vl y) {k : Nat} (z : Int) : Wr x vb vl (y.setCell ⟨vb, k, none⟩ (.int .i64 z)) := by
  obtain ⟨cs, hc, hz⟩ := h.cells
  refine ⟨h.turned.set (.inl (by simp)) _ _, _, blk_set hc k _, fun j hj => ?_⟩
  obtain ⟨q, hq⟩ := hz j hj
  by_cases e : k = j
  · subst e
    refine ⟨z, ?_⟩
    have hl : k < cs.size := by
      apply Classical.byContradiction
      intro hn
      rw [Array.getElem?_eq_none (by omega)] at hq
      cases hq
    simp [hl]
  · exact ⟨q, by rw [Array.getElem?_setIfInBounds_ne e]; exact hq⟩
section
variable {W x : World} {n p kb c c2 used it ct i : Nat} {now : Int} {G : Int → List Int} {R : List VRow} {N : List Nat} {ta : Option Addr} {Lc tc g rl rc ob B : Nat} {kd oa od : Int} {sa va : Option Addr} {sl sc vl vc : Nat} {old nh : Int} {r0 : VRow} {t : Bool} {l : List Int} {a : Act} {K : Act → World → Prop} {Q : Exit → Act → World → Prop}
theorem ch_loop3 (f : FB n p kb c c2 ta Lc tc g rl rc now used ct i a) (x20 : a.eval (.tmp 20) = .pointer (some ⟨ob, 0, none⟩)) (x21 : a.eval (.tmp 21) = .slice va l.length vc) (x23 : a.eval (.tmp 23) = .int .i64 nh) (x24 : a.eval (.tmp 24) = .bool t) (hr : IR B x (.slice va l.length vc) l) (hl : l.length ≤ 10000)
    (hK : ∀ a' y, FB n p kb c c2 ta Lc tc g rl rc now used ct i a' → a'.eval (.tmp 20) = .pointer (some ⟨ob, 0, none⟩) → a'.eval (.tmp 23) = .int .i64 nh → a'.eval (.tmp 24) = .bool t → Turned (Value.slice va l.length vc).ownBlock.toList x y → K a' y) : (atc Try.f3.body [1, 1, 1, 1, 1, 1, 1, 1, 1, 1, 1, 1, 1, 1, 0, 1, 0, 0, 1, 0, 0, 1, 0, 1, 0, 1, 0, 1, 1, 1, 1, 1, 1, 1, 0]).wp Try.prog (Exit.then K Q) a x := by
  refine wp_seq (ch_36 f.hs f.hd f.x0 f.x1 f.x5 f.x7 f.x9 f.x10 f.x15 f.x16 f.x17 f.x18 f.x19 x20 x21 x23 x24 ?_)
  clear f x20 x21 x23 x24
  intro a1 hs hd x0 x1 x5 x7 x9 x10 x15 x16 x17 x18 x19 x20 x21 x23 x24 x26
  refine wp_block ?_
  by_cases he : l = []
  · subst he
    refine wp_loop (fun a' y => y = x ∧ FB n p kb c c2 ta Lc tc g rl rc now used ct i a' ∧ a'.eval (.tmp 20) = .pointer (some ⟨ob, 0, none⟩) ∧ a'.eval (.tmp 21) = .slice va ([] : List Int).length vc ∧ a'.eval (.tmp 23) = .int .i64 nh ∧ a'.eval (.tmp 24) = .bool t ∧ a'.eval (.tmp 26) = .int .i64 (([] : List Int).length : Nat)) (fun _ _ => 0) ⟨rfl, ⟨hs, hd, x0, x1, x5, x7, x9, x10, x15, x16, x17, x18, x19⟩, x20, x21, x23, x24, x26⟩ ?_
    rintro a2 y ⟨rfl, f, x20, x21, x23, x24, x26⟩
    refine ch_37end f.hs f.hd f.x0 f.x1 f.x5 f.x7 f.x9 f.x10 f.x15 f.x16 f.x17 f.x18 f.x19 x20 x21 x23 x24 x26 ?_
    intro a3 hs hd x0 x1 x5 x7 x9 x10 x15 x16 x17 x18 x19 x20 x21 x23 x24
    exact hK a3 y ⟨hs, hd, x0, x1, x5, x7, x9, x10, x15, x16, x17, x18, x19⟩ x20 x23 x24 (Turned.refl _ _)
  · obtain ⟨vb, vc', e⟩ := hr.at_ he
    simp only [Value.slice.injEq] at e
    obtain ⟨rfl, -, rfl⟩ := e
    refine wp_loop (fun a' y => Wr x vb l.length y ∧ FB n p kb c c2 ta Lc tc g rl rc now used ct i a' ∧ a'.eval (.tmp 20) = .pointer (some ⟨ob, 0, none⟩) ∧ a'.eval (.tmp 21) = .slice (some ⟨vb, 0, none⟩) l.length vc ∧ a'.eval (.tmp 23) = .int .i64 nh ∧ a'.eval (.tmp 24) = .bool t ∧ ∃ k : Nat, k ≤ l.length ∧ a'.eval (.tmp 26) = .int .i64 k) (fun a' _ => l.length - (intOf (a'.eval (.tmp 26))).toNat) ⟨Wr.start hr, ⟨hs, hd, x0, x1, x5, x7, x9, x10, x15, x16, x17, x18, x19⟩, x20, x21, x23, x24, 0, Nat.zero_le _, x26⟩ ?_
    clear hs hd x0 x1 x5 x7 x9 x10 x15 x16 x17 x18 x19 x20 x21 x23 x24 x26
    rintro a2 y ⟨hw, f, x20, x21, x23, x24, k, hk, x26⟩
    by_cases hlt : k < l.length
    · obtain ⟨cs, hc, hz⟩ := hw.cells
      obtain ⟨z, hz⟩ := hz k hlt
      refine ch_37go f.hs f.hd f.x0 f.x1 f.x5 f.x7 f.x9 f.x10 f.x15 f.x16 f.x17 f.x18 f.x19 x20 x21 x23 x24 x26 (by omega) hl (z := z) (by rw [cell_at hc k]; exact hz) (froz_at hc k) ?_
      rintro a3 y3 hs hd x0 x1 x5 x7 x9 x10 x15 x16 x17 x18 x19 y20 y21 y23 y24 y26 rfl
      refine ⟨⟨hw.put _, ⟨hs, hd, x0, x1, x5, x7, x9, x10, x15, x16, x17, x18, x19⟩, y20, y21, y23, y24, k + 1, by omega, y26⟩, ?_⟩
      rw [y26, x26]; simp only [intOf]; omega
    · have e : k = l.length := by omega
      subst e
      refine ch_37end f.hs f.hd f.x0 f.x1 f.x5 f.x7 f.x9 f.x10 f.x15 f.x16 f.x17 f.x18 f.x19 x20 x21 x23 x24 x26 ?_
      intro a3 hs hd x0 x1 x5 x7 x9 x10 x15 x16 x17 x18 x19 x20 x21 x23 x24
      exact hK a3 y ⟨hs, hd, x0, x1, x5, x7, x9, x10, x15, x16, x17, x18, x19⟩ x20 x23 x24 hw.turned
theorem ch_loop7 (f : FB n p kb c c2 ta Lc tc g rl rc now used ct i a) (x20 : a.eval (.tmp 20) = .pointer (some ⟨ob, 0, none⟩)) (x33 : a.eval (.tmp 33) = .int .i64 nh) (x34 : a.eval (.tmp 34) = .slice va l.length vc) (hr : IR B x (.slice va l.length vc) l) (hl : l.length ≤ 10000)
    (hK : ∀ a' y, FB n p kb c c2 ta Lc tc g rl rc now used ct i a' → a'.eval (.tmp 20) = .pointer (some ⟨ob, 0, none⟩) → Turned (Value.slice va l.length vc).ownBlock.toList x y → K a' y) : (atc Try.f3.body [1, 1, 1, 1, 1, 1, 1, 1, 1, 1, 1, 1, 1, 1, 0, 1, 0, 0, 1, 0, 0, 1, 0, 1, 0, 1, 1, 1, 1, 1, 1, 1, 0, 1, 1, 1, 1, 1, 0]).wp Try.prog (Exit.then K Q) a x := by
  refine wp_seq (ch_67 f.hs f.hd f.x0 f.x1 f.x5 f.x7 f.x9 f.x10 f.x15 f.x16 f.x17 f.x18 f.x19 x20 x33 x34 ?_)
  clear f x20 x33 x34
  intro a1 hs hd x0 x1 x5 x7 x9 x10 x15 x16 x17 x18 x19 x20 x33 x34 x36
  refine wp_block ?_
  by_cases he : l = []
  · subst he
    refine wp_loop (fun a' y => y = x ∧ FB n p kb c c2 ta Lc tc g rl rc now used ct i a' ∧ a'.eval (.tmp 20) = .pointer (some ⟨ob, 0, none⟩) ∧ a'.eval (.tmp 33) = .int .i64 nh ∧ a'.eval (.tmp 34) = .slice va ([] : List Int).length vc ∧ a'.eval (.tmp 36) = .int .i64 (([] : List Int).length : Nat)) (fun _ _ => 0) ⟨rfl, ⟨hs, hd, x0, x1, x5, x7, x9, x10, x15, x16, x17, x18, x19⟩, x20, x33, x34, x36⟩ ?_
    rintro a2 y ⟨rfl, f, x20, x33, x34, x36⟩
    refine ch_68end f.hs f.hd f.x0 f.x1 f.x5 f.x7 f.x9 f.x10 f.x15 f.x16 f.x17 f.x18 f.x19 x20 x33 x34 x36 ?_
    intro a3 hs hd x0 x1 x5 x7 x9 x10 x15 x16 x17 x18 x19 x20 x33 x34
    exact hK a3 y ⟨hs, hd, x0, x1, x5, x7, x9, x10, x15, x16, x17, x18, x19⟩ x20 (Turned.refl _ _)
  · obtain ⟨vb, vc', e⟩ := hr.at_ he
    simp only [Value.slice.injEq] at e
    obtain ⟨rfl, -, rfl⟩ := e
    refine wp_loop (fun a' y => Wr x vb l.length y ∧ FB n p kb c c2 ta Lc tc g rl rc now used ct i a' ∧ a'.eval (.tmp 20) = .pointer (some ⟨ob, 0, none⟩) ∧ a'.eval (.tmp 33) = .int .i64 nh ∧ a'.eval (.tmp 34) = .slice (some ⟨vb, 0, none⟩) l.length vc ∧ ∃ k : Nat, k ≤ l.length ∧ a'.eval (.tmp 36) = .int .i64 k) (fun a' _ => l.length - (intOf (a'.eval (.tmp 36))).toNat) ⟨Wr.start hr, ⟨hs, hd, x0, x1, x5, x7, x9, x10, x15, x16, x17, x18, x19⟩, x20, x33, x34, 0, Nat.zero_le _, x36⟩ ?_
    clear hs hd x0 x1 x5 x7 x9 x10 x15 x16 x17 x18 x19 x20 x33 x34 x36
    rintro a2 y ⟨hw, f, x20, x33, x34, k, hk, x36⟩
    by_cases hlt : k < l.length
    · obtain ⟨cs, hc, hz⟩ := hw.cells
      obtain ⟨z, hz⟩ := hz k hlt
      refine ch_68go f.hs f.hd f.x0 f.x1 f.x5 f.x7 f.x9 f.x10 f.x15 f.x16 f.x17 f.x18 f.x19 x20 x33 x34 x36 (by omega) hl (z := z) (by rw [cell_at hc k]; exact hz) (froz_at hc k) ?_
      rintro a3 y3 hs hd x0 x1 x5 x7 x9 x10 x15 x16 x17 x18 x19 y20 y33 y34 y36 rfl
      refine ⟨⟨hw.put _, ⟨hs, hd, x0, x1, x5, x7, x9, x10, x15, x16, x17, x18, x19⟩, y20, y33, y34, k + 1, by omega, y36⟩, ?_⟩
      rw [y36, x36]; simp only [intOf]; omega
    · have e : k = l.length := by omega
      subst e
      refine ch_68end f.hs f.hd f.x0 f.x1 f.x5 f.x7 f.x9 f.x10 f.x15 f.x16 f.x17 f.x18 f.x19 x20 x33 x34 x36 ?_
      intro a3 hs hd x0 x1 x5 x7 x9 x10 x15 x16 x17 x18 x19 x20 x33 x34
      exact hK a3 y ⟨hs, hd, x0, x1, x5, x7, x9, x10, x15, x16, x17, x18, x19⟩ x20 hw.turned
theorem op_off {y : World} (hob : x.heap[ob]? = some (opO kd oa od sa sl sc)) (hr : IR B x (.slice va l.length vc) l) (ht : Turned (Value.slice va l.length vc).ownBlock.toList x y) : y.heap[ob]? = some (opO kd oa od sa sl sc) := by
  refine ht.heap hob (fun hm => ?_)
  obtain ⟨cs, hc⟩ := hr.type (g := ob) (by simpa using hm)
  exact other_type hob hc (by decide) rfl
theorem LY.wrote {y : World} {m : Nat} {L : List Ver} (h : LY W x m n p kb c c2 used it now G L (Value.slice va l.length vc).ownBlock.toList) (hr : IR B x (.slice va l.length vc) l) (hB : W.heap.size ≤ B) (ht : Turned (Value.slice va l.length vc).ownBlock.toList x y) : LY W y m n p kb c c2 used it now G L [] := by
  cases hva : (Value.slice va l.length vc).ownBlock with
  | none =>
    rw [hva] at ht
    exact (h.still ht).weak (by simp) (Nat.le_refl _)
  | some b =>
    obtain ⟨cs, hc⟩ := hr.type hva
    have hb := (hr.fresh hva).1
    rw [hva] at ht
    exact (h.write (g := b) (by rw [hva]; simp) hc (by omega) ht).weak (by simp) (Nat.le_refl _)
theorem VR.wrote {y : World} {B' : Nat} {v : Value} (h : VR B' x v R) (hr : IR B x (.slice va l.length vc) l) (ht : Turned (Value.slice va l.length vc).ownBlock.toList x y) : VR B' y v R := by
  cases hva : (Value.slice va l.length vc).ownBlock with
  | none =>
    rw [hva] at ht
    exact h.still ht
  | some b =>
    obtain ⟨cs, hc⟩ := hr.type hva
    rw [hva] at ht
    exact h.beside hc ht
/-- The law's memory behind a write into a row that is no set's. -/
theorem LS.write {y : World} (h : LS W x n p kb c c2 used it now G R (.slice (some ⟨g, 0, none⟩) R.length rc) (Value.slice va l.length vc).ownBlock.toList) (hr : IR B x (.slice va l.length vc) l) (hB : W.heap.size ≤ B) (ht : Turned (Value.slice va l.length vc).ownBlock.toList x y) : LS W y n p kb c c2 used it now G R (.slice (some ⟨g, 0, none⟩) R.length rc) [] :=
  ⟨LY.wrote h.y hr hB ht, VR.wrote h.rows hr ht, h.ne, h.sets⟩
/-- Push, and what follows it. -/
theorem ch_k1b (f : FB n p kb c c2 ta Lc tc g (r0 :: R).length rc now used ct i a) (x20 : a.eval (.tmp 20) = .pointer (some ⟨ob, 0, none⟩)) (x21 : a.eval (.tmp 21) = .slice va l.length vc) (x22 : a.eval (.tmp 22) = .int .i64 old) (h : LS W x n p kb c c2 used it now G (r0 :: R) (.slice (some ⟨g, 0, none⟩) ((r0 :: R)).length rc) (Value.slice va l.length vc).ownBlock.toList) (hob : x.heap[ob]? = some (opO kd oa od sa sl sc)) (hr : IR B x (.slice va l.length vc) l) (hB : W.heap.size ≤ B) (hv : IV W (.slice sa sl sc) l) (hl : l.length ≤ 50) (hn : n ≤ 200) (hit : it ≤ 900)
    (hN : ∀ a' y, ST W n p kb c c2 ta Lc tc i (now + 1) (ct + 1) (it + 2) a' y → Q .normal a' y) (hX : ∀ a' y, ST W n p kb c c2 ta Lc tc i (now + 1) (ct + 1) (it + 2) a' y → Q (.exit 2) a' y) : (atc Try.f3.body [1, 1, 1, 1, 1, 1, 1, 1, 1, 1, 1, 1, 1, 1, 0, 1, 0, 0, 1, 0, 0, 1, 0, 1, 0, 1, 0, 1, 1, 1, 1]).wp Try.prog Q a x := by
  have hlen := h.y.len
  rw [List.length_map] at hlen
  have hb := ((h.rows.cell (k := 0) (by simp)).1)
  by_cases hu : used = n
  · subst hu
    refine wp_seq (ch_30 f.hs f.hd f.x0 f.x1 f.x5 f.x7 f.x9 f.x10 f.x15 f.x16 f.x17 f.x18 f.x19 x20 x21 x22 hob (t := false) (er := 102) (PP := fun h' x' => h' = 0 ∧ Keeps x x' ∧ LY W x' 1 used p kb c c2 used it now G ((r0 :: R).map VRow.v) (Value.slice va l.length vc).ownBlock.toList) ((yPushFull h.y hr old oa i 0 0).mono fun e x' hh => ⟨0, hh.1, rfl, hh.2.1, hh.2.2⟩) ?_)
    clear f x20 x21 x22
    rintro a1 y nh hs hd x0 x1 x5 x7 x9 x10 x15 x16 x17 x18 x19 x20 x21 x22 x23 x24 x25 ⟨rfl, hk, hy⟩
    refine wp_seq (ch_31f hs hd x0 x1 x5 x7 x9 x10 x15 x16 x17 x18 x19 x23 x24 x25 rfl ?_)
    clear hs hd x0 x1 x5 x7 x9 x10 x15 x16 x17 x18 x19 x20 x21 x22 x23 x24 x25
    intro a2 hs hd x0 x1 x5 x7 x9 x10 x15 x16 x17 x18 x19
    exact hX a2 y ⟨now, used, ct, it, G, (r0 :: R), g, rc, ⟨hs, hd, x0, x1, x5, x7, x9, x10, x15, x16, x17, x18, x19⟩, ⟨hy.weak (by simp) (Nat.le_refl _), h.rows.kept hk, h.ne, h.sets⟩, by omega, by omega, by omega⟩
  have hune : ((used : Int) == n) = false := by simp; omega
  by_cases ho : old = r0.v.h
  · subst ho
    refine wp_seq (ch_30 f.hs f.hd f.x0 f.x1 f.x5 f.x7 f.x9 f.x10 f.x15 f.x16 f.x17 f.x18 f.x19 x20 x21 x22 hob (t := true) (er := 0) (PP := fun h' x' => ¬ h' = 0 ∧ (∀ z ∈ (r0 :: R).map VRow.v, z.h ≠ h') ∧ Keeps x x' ∧ LY W x' 1 n p kb c c2 (used + 1) (it + 1) now (fun k => if k = h' then l else G k) (⟨h', oa, now⟩ :: (r0 :: R).map VRow.v) (Value.slice va l.length vc).ownBlock.toList) ((yPushOk h.y (by omega) (by omega) hr (by omega) oa i 0 0).mono fun e x' ⟨h', a1, a2, a3, a4, a5⟩ => ⟨h', a3, a1, a2, a4, a5⟩) ?_)
    clear f x20 x21 x22
    rintro a1 y nh hs hd x0 x1 x5 x7 x9 x10 x15 x16 x17 x18 x19 x20 x21 x22 x23 x24 x25 ⟨hz, hne, hk, hy⟩
    refine wp_seq (ch_31 hs hd x0 x1 x5 x7 x9 x10 x15 x16 x17 x18 x19 x20 x21 x22 x23 x24 x25 hune ?_)
    clear hs hd x0 x1 x5 x7 x9 x10 x15 x16 x17 x18 x19 x20 x21 x22 x23 x24 x25
    intro a2 hs hd x0 x1 x5 x7 x9 x10 x15 x16 x17 x18 x19 x20 x21 x22 x23 x24 x25
    have hR := h.rows.kept hk
    have hr2 := hr.kept hk
    have hob2 : y.heap[ob]? = some (opO kd oa od sa sl sc) := hk.blk _ _ _ (by decide) hob
    have c0 := (hR.cell (k := 0) (by simp)).1
    refine wp_seq (ch_34t hs hd x0 x1 x5 x7 x9 x10 x15 x16 x17 x18 x19 x20 x21 x22 x23 x24 x25 hob2 (by simpa using c0) (by simp) (by simpa using hz) (cInts hr2.view (hv.still hy.turned) (by omega)) ?_)
    clear hs hd x0 x1 x5 x7 x9 x10 x15 x16 x17 x18 x19 x20 x21 x22 x23 x24 x25
    intro a3 y2 hs hd x0 x1 x5 x7 x9 x10 x15 x16 x17 x18 x19 x20 x21 x23 x24 ht2
    have hr3 := hr2.still ht2
    have hob3 := ht2.heap hob2 (by simp)
    -- the chain holds one version more than the rows: written on with the rows beside
    refine wp_seq (ch_loop3 ⟨hs, hd, x0, x1, x5, x7, x9, x10, x15, x16, x17, x18, x19⟩ x20 x21 x23 x24 hr3 (by omega) ?_)
    clear hs hd x0 x1 x5 x7 x9 x10 x15 x16 x17 x18 x19 x20 x21 x23 x24
    intro a4 y3 f x20 x23 x24 ht3
    have hob4 := op_off hob3 hr3 ht3
    have hy3 : LY W y3 1 n p kb c c2 (used + 1) (it + 1) now (fun k => if k = nh then l else G k) (⟨nh, oa, now⟩ :: (r0 :: R).map VRow.v) [] := LY.wrote (hy.still ht2) hr3 hB ht3
    have hR3 : VR W.heap.size y3 _ (r0 :: R) := VR.wrote (hR.still ht2) hr3 ht3
    have h2 := hy3.turned.size
    refine wp_endB (ch_40t (R := r0 :: R) f.hs f.hd f.x0 f.x1 f.x5 f.x7 f.x9 f.x10 f.x15 f.x16 f.x17 f.x18 f.x19 x20 x23 x24 hob4 hR3 (by omega) (by omega) (B2 := W.heap.size) h2 ?_)
    clear f x20 x23 x24
    intro a5 y4 v hs hd x0 x1 x5 x7 x9 x10 x15 x16 x17 x18 x19 hV ht4
    obtain ⟨g', rc', rfl, -⟩ := hV.at_ (by simp)
    refine hN a5 y4 ⟨now, used + 1, ct, it + 1, _, ⟨⟨nh, oa, now⟩, .slice sa sl sc⟩ :: r0 :: R, g', rc', ⟨hs, hd, x0, x1, x5, x7, x9, x10, x15, x16, x17, x18, x19⟩, ⟨hy3.still ht4, hV, by simp, fun r hr' => ?_⟩, by omega, by omega, by omega⟩
    simp only [List.mem_cons] at hr'
    rcases hr' with rfl | hr'
    · simp only [if_pos]; exact ⟨hv, hl⟩
    · have hm : r ∈ r0 :: R := by simpa using hr'
      have := hne r.v (List.mem_map.2 ⟨r, hm, rfl⟩)
      simp only [if_neg this]
      exact h.sets r hm
  · refine wp_seq (ch_30 f.hs f.hd f.x0 f.x1 f.x5 f.x7 f.x9 f.x10 f.x15 f.x16 f.x17 f.x18 f.x19 x20 x21 x22 hob (t := false) (er := 0) (PP := fun h' x' => h' = 0 ∧ Keeps x x' ∧ LY W x' 1 n p kb c c2 used (it + 2) now G ((r0 :: R).map VRow.v) (Value.slice va l.length vc).ownBlock.toList) ((yPushNot h.y (by omega) (by omega) hr (by omega) (fun e => ho e.symm) oa i 0 0).mono fun e x' hh => ⟨0, hh.1, rfl, hh.2.1, hh.2.2⟩) ?_)
    clear f x20 x21 x22
    rintro a1 y nh hs hd x0 x1 x5 x7 x9 x10 x15 x16 x17 x18 x19 x20 x21 x22 x23 x24 x25 ⟨hz, hk, hy⟩
    refine wp_seq (ch_31 hs hd x0 x1 x5 x7 x9 x10 x15 x16 x17 x18 x19 x20 x21 x22 x23 x24 x25 hune ?_)
    clear hs hd x0 x1 x5 x7 x9 x10 x15 x16 x17 x18 x19 x20 x21 x22 x23 x24 x25
    intro a2 hs hd x0 x1 x5 x7 x9 x10 x15 x16 x17 x18 x19 x20 x21 x22 x23 x24 x25
    have hR := h.rows.kept hk
    have hr2 := hr.kept hk
    have hob2 : y.heap[ob]? = some (opO kd oa od sa sl sc) := hk.blk _ _ _ (by decide) hob
    have c0 := (hR.cell (k := 0) (by simp)).1
    refine wp_seq (ch_34f hs hd x0 x1 x5 x7 x9 x10 x15 x16 x17 x18 x19 x20 x21 x22 x23 x24 x25 hob2 (lh := r0.v.h) (by simpa using c0) (by simp) (by simpa using ho) hz (cInts hr2.view (hv.still hy.turned) (by omega)) ?_)
    clear hs hd x0 x1 x5 x7 x9 x10 x15 x16 x17 x18 x19 x20 x21 x22 x23 x24 x25
    intro a3 y2 hs hd x0 x1 x5 x7 x9 x10 x15 x16 x17 x18 x19 x20 x21 x23 x24 ht2
    have hr3 := hr2.still ht2
    refine wp_seq (ch_loop3 ⟨hs, hd, x0, x1, x5, x7, x9, x10, x15, x16, x17, x18, x19⟩ x20 x21 x23 x24 hr3 (by omega) ?_)
    clear hs hd x0 x1 x5 x7 x9 x10 x15 x16 x17 x18 x19 x20 x21 x23 x24
    intro a4 y3 f x20 x23 x24 ht3
    refine wp_endB (ch_40f f.hs f.hd f.x0 f.x1 f.x5 f.x7 f.x9 f.x10 f.x15 f.x16 f.x17 f.x18 f.x19 x24 ?_)
    clear f x20 x23 x24
    intro a5 hs hd x0 x1 x5 x7 x9 x10 x15 x16 x17 x18 x19
    have h3 : LS W y2 n p kb c c2 used (it + 2) now G (r0 :: R) (.slice (some ⟨g, 0, none⟩) (r0 :: R).length rc) (Value.slice va l.length vc).ownBlock.toList := ⟨hy.still ht2, hR.still ht2, h.ne, h.sets⟩
    exact hN a5 y3 ⟨now, used, ct, it + 2, G, r0 :: R, g, rc, ⟨hs, hd, x0, x1, x5, x7, x9, x10, x15, x16, x17, x18, x19⟩, h3.write hr3 hB ht3, by omega, by omega, by omega⟩
theorem ch_k1 (f : FB n p kb c c2 ta Lc tc g R.length rc now used ct i a) (x20 : a.eval (.tmp 20) = .pointer (some ⟨ob, 0, none⟩)) (h : LS W x n p kb c c2 used it now G R (.slice (some ⟨g, 0, none⟩) R.length rc) []) (hob : x.heap[ob]? = some (opO kd oa od sa sl sc)) (hv : IV W (.slice sa sl sc) l) (hn : n ≤ 200) (hit : it ≤ 900)
    (hN : ∀ a' y, ST W n p kb c c2 ta Lc tc i (now + 1) (ct + 1) (it + 2) a' y → Q .normal a' y) (hX : ∀ a' y, ST W n p kb c c2 ta Lc tc i (now + 1) (ct + 1) (it + 2) a' y → Q (.exit 2) a' y) : (atc Try.f3.body [1, 1, 1, 1, 1, 1, 1, 1, 1, 1, 1, 1, 1, 1, 0, 1, 0, 0, 1, 0, 0, 1, 0, 1, 0, 1, 0]).wp Try.prog Q a x := by
  have hsl := hv.len
  by_cases hlong : (50 : Int) < sl
  · refine wp_seq (ch_25x f.hs f.hd f.x0 f.x1 f.x5 f.x7 f.x9 f.x10 f.x15 f.x16 f.x17 f.x18 f.x19 x20 hob hlong ?_)
    clear f x20
    intro a1 hs hd x0 x1 x5 x7 x9 x10 x15 x16 x17 x18 x19
    exact hX a1 x ⟨now, used, ct, it, G, R, g, rc, ⟨hs, hd, x0, x1, x5, x7, x9, x10, x15, x16, x17, x18, x19⟩, h, by omega, by omega, by omega⟩
  refine wp_seq (ch_25 f.hs f.hd f.x0 f.x1 f.x5 f.x7 f.x9 f.x10 f.x15 f.x16 f.x17 f.x18 f.x19 x20 hob hlong ?_)
  clear f x20
  intro a1 hs hd x0 x1 x5 x7 x9 x10 x15 x16 x17 x18 x19 x20
  refine wp_seq (ch_26 hs hd x0 x1 x5 x7 x9 x10 x15 x16 x17 x18 x19 x20 hob (hv.still h.y.turned) (by omega) ?_)
  clear hs hd x0 x1 x5 x7 x9 x10 x15 x16 x17 x18 x19 x20
  intro a2 y v hs hd x0 x1 x5 x7 x9 x10 x15 x16 x17 x18 x19 x20 x21 hr ht
  obtain ⟨va, vc, rfl⟩ := hr.form
  have hs0 := h.y.turned.size
  have hob2 := ht.heap hob (by simp)
  have h2 : LS W y n p kb c c2 used it now G R (.slice (some ⟨g, 0, none⟩) R.length rc) (Value.slice va l.length vc).ownBlock.toList := ⟨h.y.fresh ht (fun b hb => hr.fresh (by simpa using hb)), h.rows.still ht, h.ne, h.sets⟩
  clear h
  obtain ⟨r0, R, rfl⟩ : ∃ r0 R', R = r0 :: R' := by
    cases R with
    | nil => exact absurd rfl h2.ne
    | cons r0 R => exact ⟨r0, R, rfl⟩
  have c0 := (h2.rows.cell (k := 0) (by simp)).1
  refine wp_seq (ch_27 hs hd x0 x1 x5 x7 x9 x10 x15 x16 x17 x18 x19 x20 x21 (lh := r0.v.h) (by simpa using c0) (by simp) ?_)
  clear hs hd x0 x1 x5 x7 x9 x10 x15 x16 x17 x18 x19 x20 x21
  intro a3 hs hd x0 x1 x5 x7 x9 x10 x15 x16 x17 x18 x19 x20 x21 x22
  by_cases hz : od = 0
  · refine wp_seq (ch_28z hs hd x0 x1 x5 x7 x9 x10 x15 x16 x17 x18 x19 x20 x21 x22 hob2 hz ?_)
    clear hs hd x0 x1 x5 x7 x9 x10 x15 x16 x17 x18 x19 x20 x21 x22
    intro a4 hs hd x0 x1 x5 x7 x9 x10 x15 x16 x17 x18 x19 x20 x21 x22
    exact ch_k1b ⟨hs, hd, x0, x1, x5, x7, x9, x10, x15, x16, x17, x18, x19⟩ x20 x21 x22 h2 hob2 hr hs0 hv (by omega) hn hit hN hX
  · refine wp_seq (ch_28n hs hd x0 x1 x5 x7 x9 x10 x15 x16 x17 x18 x19 x20 x21 x22 hob2 (by simpa using hz) ?_)
    clear hs hd x0 x1 x5 x7 x9 x10 x15 x16 x17 x18 x19 x20 x21 x22
    intro a4 hs hd x0 x1 x5 x7 x9 x10 x15 x16 x17 x18 x19 x20 x21 x22
    exact ch_k1b ⟨hs, hd, x0, x1, x5, x7, x9, x10, x15, x16, x17, x18, x19⟩ x20 x21 x22 h2 hob2 hr hs0 hv (by omega) hn hit hN hX
theorem ch_k2 (f : FB n p kb c c2 ta Lc tc g R.length rc now used ct i a) (h : LS W x n p kb c c2 used it now G R (.slice (some ⟨g, 0, none⟩) R.length rc) [])
    (hN : ∀ a' y, ST W n p kb c c2 ta Lc tc i (now + 1) (ct + 1) (it + 2) a' y → Q .normal a' y) : (atc Try.f3.body [1, 1, 1, 1, 1, 1, 1, 1, 1, 1, 1, 1, 1, 1, 0, 1, 0, 0, 1, 0, 0, 1, 0, 1, 0, 1, 1, 1, 0]).wp Try.prog Q a x := by
  obtain ⟨r0, R, rfl⟩ : ∃ r0 R', R = r0 :: R' := by
    cases R with
    | nil => exact absurd rfl h.ne
    | cons r0 R => exact ⟨r0, R, rfl⟩
  refine wp_seq (ch_44 f.hs f.hd f.x0 f.x1 f.x5 f.x7 f.x9 f.x10 f.x15 f.x16 f.x17 f.x18 f.x19 (yTop (v := r0.v) (L := R.map VRow.v) h.y) ?_)
  clear f
  rintro a1 y hs hd x0 x1 x5 x7 x9 x10 x15 x16 x17 x18 x19 x27 x28 x29 ⟨hk, hy⟩
  have hR := h.rows.kept hk
  have c0 := hR.cell (k := 0) (by simp)
  refine wp_endB (ch_45 hs hd x0 x1 x5 x7 x9 x10 x15 x16 x17 x18 x19 x27 x28 x29 (by simpa using c0.1) (by simp) (by simpa using c0.2.2.1) ?_)
  clear hs hd x0 x1 x5 x7 x9 x10 x15 x16 x17 x18 x19 x27 x28 x29
  intro a2 hs hd x0 x1 x5 x7 x9 x10 x15 x16 x17 x18 x19
  exact hN a2 y ⟨now, used, ct, it, G, r0 :: R, g, rc, ⟨hs, hd, x0, x1, x5, x7, x9, x10, x15, x16, x17, x18, x19⟩, ⟨hy, hR, h.ne, h.sets⟩, by omega, by omega, by omega⟩
end
end Go.Proofs.Ytaaibhgbkdnlbaa
/- ChainAlone: kinds 3, 4, 5. (Written by tools/gen/genchl2.py.) -/
namespace Go.Proofs.Ytaaibhgbkdnlbaa
open Go.RowKit
theorem at_first (t : Int) : ∀ R : List VRow, ∃ k, k ≤ R.length ∧ (∀ j (h : j < R.length), j < k → t < R[j].v.st) ∧ ((k = R.length ∧ atV (R.map VRow.v) t = none) ∨ ∃ h : k < R.length, R[k].v.st ≤ t ∧ atV (R.map VRow.v) t = some R[k].v)
  | [] => ⟨0, Nat.le_refl _, (fun j h => by simp at h), .inl ⟨rfl, rfl⟩⟩
  | r :: R => by
    by_cases hle : r.v.st ≤ t
    · refine ⟨0, Nat.zero_le _, (fun j _ h => by omega), .inr ⟨by simp, hle, ?_⟩⟩
      unfold atV
      rw [List.map_cons, List.find?_cons, decide_eq_true hle]
      rfl
    · obtain ⟨k, h1, h2, h3⟩ := at_first t R
      have e : atV ((r :: R).map VRow.v) t = atV (R.map VRow.v) t := by
        unfold atV
        rw [List.map_cons, List.find?_cons, decide_eq_false hle]
      refine ⟨k + 1, by simp; omega, fun j h hj => ?_, ?_⟩
      · cases j with
        | zero => simp; omega
        | succ j => exact h2 j (by simp at h; omega) (by omega)
      · rw [e]
        rcases h3 with ⟨h3, h4⟩ | ⟨h3, h4, h5⟩
        · exact .inl ⟨by simp; omega, h4⟩
        · exact .inr ⟨by simp; omega, h4, h5⟩
section
variable {x x' : World} {nl p kb lb cp c sb it : Nat} {E : Nat → Nat} {F : List Nat} {s : PSt} {St : List Nat} {now head : Int} {S : Nat → Option SRec} {L : List Ver}
/-- A row of versions is written. -/
theorem CS.besideV (h : CS x nl p kb lb cp E c sb F s St it now head S L) {g : Nat} {cs : Array Value} (hg : x.heap[g]? = some (.cells cs 42 (0, 0))) (ht : Turned [g] x x') : CS x' nl p kb lb cp E c sb F s St it now head S L := by
  obtain ⟨cur, hcur, -⟩ := h.ck.row
  have d : ∀ {b : Nat} {y : Array Value} {T : TypeId}, x.heap[b]? = some (.cells y T (0, 0)) → T ≠ 42 → b ∉ [g] := fun hb hT hm => by
    simp at hm; subst hm; exact other_type hb hg hT rfl
  refine ⟨⟨poolLaws.keep h.ca.pool ht (fun y hy hm => ?_), ht.heap h.ca.clk (d h.ca.clk (by decide)), ht.heap h.ca.obj (d h.ca.obj (by decide)), h.ca.sets.keep ht (d h.ca.sets.row (by decide)) (fun y hy => by simp at hy; subst hy; exact h.ca.sets.other hg (by decide))⟩, h.ck.keep ht (d h.ck.obj (by decide)) (d hcur (by decide)) (fun k hk => d (h.ck.lease k hk) (by decide)), h.nE, h.pv, h.fa, h.vs, h.nd, h.room, h.own, h.pos⟩
  simp at hy; subst hy
  exact poolAt_other h.ca.pool hg (by decide) hm
end
section
variable {W x : World} {n p kb c c2 used it ct i : Nat} {now : Int} {G : Int → List Int} {R : List VRow} {N : List Nat} {ta : Option Addr} {Lc tc g rl rc ob B : Nat} {kd oa od : Int} {sa va : Option Addr} {sl sc vl vc : Nat} {old nh : Int} {r0 : VRow} {t : Bool} {l : List Int} {a : Act} {K : Act → World → Prop} {Q : Exit → Act → World → Prop}
theorem LY.rowed {x' : World} {m : Nat} {L : List Ver} (h : LY W x m n p kb c c2 used it now G L N) {g : Nat} {cs : Array Value} (hg : x.heap[g]? = some (.cells cs 42 (0, 0))) (hw : W.heap.size ≤ g) (ht : Turned [g] x x') : LY W x' m n p kb c c2 used it now G L N := by
  obtain ⟨_, _, _, _, _, F, s, _, _, _, S, h⟩ := h.ex
  have hC := h.cs.besideV hg ht
  have d : ∀ {b : Nat} {y : Array Value} {T : TypeId}, x.heap[b]? = some (.cells y T (0, 0)) → T ≠ 42 → b ∉ [g] := fun hb hT hm => by
    simp at hm; subst hm; exact other_type hb hg hT rfl
  exact ⟨_, _, _, _, _, _, _, _, _, _, _, ⟨hC, fun h1 => ht.heap (h.oc h1) (d (h.oc h1) (by decide)), fun h1 => (h.os h1).keep ht (d (h.os h1).row (by decide)) (fun z _ => setB_none _ z), h.nc, h.ns, h.tw.inner ht (fun z hz => by simp at hz; subst hz; exact .inr hw), h.low, h.lowk, h.lowS, h.n_, h.used_, h.it_, h.G_, fun g hg => ⟨Nat.lt_of_lt_of_le (h.out g hg).1 ht.size, (h.out g hg).2⟩⟩⟩
theorem LY.pos {m : Nat} {L : List Ver} (h : LY W x m n p kb c c2 used it now G L N) : 1 ≤ now := by
  obtain ⟨_, _, _, _, _, F, s, _, _, _, S, h⟩ := h.ex
  exact h.cs.pos.1
theorem VR.block {v : Value} (h : VR B x v R) {g : Nat} (hg : v.ownBlock = some g) : ∃ cs, x.heap[g]? = some (.cells cs 42 (0, 0)) := by
  rcases h.own.2 with ⟨h0, _⟩ | ⟨g', c, cs, hv, _, hh, _⟩
  · rw [h0] at hg; cases hg
  · rw [hv] at hg; cases hg; exact ⟨cs, hh⟩
theorem VR.cap {g c : Nat} (h : VR B x (.slice (some ⟨g, 0, none⟩) R.length c) R) : R.length ≤ c := by
  rcases h.own.2 with ⟨h0, _⟩ | ⟨g', c', cs, hv, _, hh, hn, _⟩
  · cases h0
  · cases hv; exact hn
theorem ch_loop5 {er : Int} (f : FB n p kb c c2 ta Lc tc g R.length rc now used ct i a) (x20 : a.eval (.tmp 20) = .pointer (some ⟨ob, 0, none⟩)) (x30 : a.eval (.tmp 30) = .int .i64 nh) (x31 : a.eval (.tmp 31) = .int .i64 er) (x32 : a.eval (.tmp 32) = .int .i64 0) (hob : x.heap[ob]? = some (opO kd oa od sa sl sc)) (hR : VR B x (.slice (some ⟨g, 0, none⟩) R.length rc) R) (hlen : R.length ≤ 300) (k : Nat) (hk : k ≤ R.length) (hlo : ∀ j (h : j < R.length), j < k → oa < R[j].v.st) (hend : k = R.length ∨ ∃ h : k < R.length, R[k].v.st ≤ oa)
    (hK : ∀ a' y, FB n p kb c c2 ta Lc tc g R.length rc now used ct i a' → a'.eval (.tmp 30) = .int .i64 nh → a'.eval (.tmp 31) = .int .i64 er → a'.eval (.tmp 32) = .int .i64 k → Turned [] x y → K a' y) : (atc Try.f3.body [1, 1, 1, 1, 1, 1, 1, 1, 1, 1, 1, 1, 1, 1, 0, 1, 0, 0, 1, 0, 0, 1, 0, 1, 0, 1, 1, 1, 1, 1, 0, 1, 1, 0]).wp Try.prog (Exit.then K Q) a x := by
  refine wp_block ?_
  refine wp_loop (fun a' y => Turned [] x y ∧ FB n p kb c c2 ta Lc tc g R.length rc now used ct i a' ∧ a'.eval (.tmp 20) = .pointer (some ⟨ob, 0, none⟩) ∧ a'.eval (.tmp 30) = .int .i64 nh ∧ a'.eval (.tmp 31) = .int .i64 er ∧ ∃ j : Nat, j ≤ k ∧ a'.eval (.tmp 32) = .int .i64 j) (fun a' _ => R.length - (intOf (a'.eval (.tmp 32))).toNat) ⟨Turned.refl _ _, f, x20, x30, x31, 0, Nat.zero_le _, x32⟩ ?_
  clear f x20 x30 x31 x32
  rintro a1 y ⟨ht, f, x20, x30, x31, j, hj, x32⟩
  have hob2 := ht.heap hob (by simp)
  have hR2 := hR.still ht
  by_cases hlt : j < k
  · have hjl : j < R.length := by omega
    refine ch_50go f.hs f.hd f.x0 f.x1 f.x5 f.x7 f.x9 f.x10 f.x15 f.x16 f.x17 f.x18 f.x19 x20 x30 x31 x32 hob2 (by omega) hlen (hR2.cell hjl).2.2.1 (hlo j hjl hlt) ?_
    intro a2 y2 hs hd x0 x1 x5 x7 x9 x10 x15 x16 x17 x18 x19 y20 y30 y31 y32 ht2
    refine ⟨⟨ht.trans ht2, ⟨hs, hd, x0, x1, x5, x7, x9, x10, x15, x16, x17, x18, x19⟩, y20, y30, y31, j + 1, by omega, y32⟩, ?_⟩
    rw [y32, x32]; simp only [intOf]; omega
  · have e : j = k := by omega
    subst e
    rcases hend with e | ⟨hjl, hle⟩
    · subst e
      refine ch_50end f.hs f.hd f.x0 f.x1 f.x5 f.x7 f.x9 f.x10 f.x15 f.x16 f.x17 f.x18 f.x19 x20 x30 x31 x32 ?_
      intro a2 y2 hs hd x0 x1 x5 x7 x9 x10 x15 x16 x17 x18 x19 y20 y30 y31 y32 ht2
      exact hK a2 y2 ⟨hs, hd, x0, x1, x5, x7, x9, x10, x15, x16, x17, x18, x19⟩ y30 y31 y32 (ht.trans ht2)
    · refine ch_50at f.hs f.hd f.x0 f.x1 f.x5 f.x7 f.x9 f.x10 f.x15 f.x16 f.x17 f.x18 f.x19 x20 x30 x31 x32 hob2 (by omega) (hR2.cell hjl).2.2.1 (by omega) ?_
      intro a2 y2 hs hd x0 x1 x5 x7 x9 x10 x15 x16 x17 x18 x19 y20 y30 y31 y32 ht2
      exact hK a2 y2 ⟨hs, hd, x0, x1, x5, x7, x9, x10, x15, x16, x17, x18, x19⟩ y30 y31 y32 (ht.trans ht2)
theorem ch_k3 (f : FB n p kb c c2 ta Lc tc g R.length rc now used ct i a) (x20 : a.eval (.tmp 20) = .pointer (some ⟨ob, 0, none⟩)) (h : LS W x n p kb c c2 used it now G R (.slice (some ⟨g, 0, none⟩) R.length rc) []) (hob : x.heap[ob]? = some (opO kd oa od sa sl sc)) (hn : n ≤ 200)
    (hN : ∀ a' y, ST W n p kb c c2 ta Lc tc i (now + 1) (ct + 1) (it + 2) a' y → Q .normal a' y) : (atc Try.f3.body [1, 1, 1, 1, 1, 1, 1, 1, 1, 1, 1, 1, 1, 1, 0, 1, 0, 0, 1, 0, 0, 1, 0, 1, 0, 1, 1, 1, 1, 1, 0]).wp Try.prog Q a x := by
  have hlen := h.y.len
  rw [List.length_map] at hlen
  obtain ⟨r0, R', rfl⟩ : ∃ r0 R', R = r0 :: R' := by
    cases R with
    | nil => exact absurd rfl h.ne
    | cons r0 R => exact ⟨r0, R, rfl⟩
  have HA := yAt (v := r0.v) (L := R'.map VRow.v) h.y oa
  obtain ⟨k, hk, hlo, hcase⟩ := at_first oa (r0 :: R')
  have hfin : ∀ a' y, FB n p kb c c2 ta Lc tc g (r0 :: R').length rc now used ct i a' → Keeps x y → LY W y 1 n p kb c c2 used it now G ((r0 :: R').map VRow.v) [] → Q .normal a' y := fun a' y f' hk' hy => hN a' y ⟨now, used, ct, it, G, r0 :: R', g, rc, f', ⟨hy, h.rows.kept hk', h.ne, h.sets⟩, by omega, by omega, by omega⟩
  rcases hcase with ⟨hk2, hat⟩ | ⟨hk2, hle, hat⟩
  · rw [show atV (r0.v :: R'.map VRow.v) oa = none from hat] at HA
    refine wp_seq (ch_48 f.hs f.hd f.x0 f.x1 f.x5 f.x7 f.x9 f.x10 f.x15 f.x16 f.x17 f.x18 f.x19 x20 hob (nh := 0) (er := 141) HA ?_)
    clear f x20
    rintro a1 y hs hd x0 x1 x5 x7 x9 x10 x15 x16 x17 x18 x19 x20 x30 x31 ⟨hkp, hy⟩
    refine wp_seq (ch_49 hs hd x0 x1 x5 x7 x9 x10 x15 x16 x17 x18 x19 x20 x30 x31 ?_)
    clear hs hd x0 x1 x5 x7 x9 x10 x15 x16 x17 x18 x19 x20 x30 x31
    intro a2 hs hd x0 x1 x5 x7 x9 x10 x15 x16 x17 x18 x19 x20 x30 x31 x32
    have hob2 : y.heap[ob]? = some (opO kd oa od sa sl sc) := hkp.blk _ _ _ (by decide) hob
    refine wp_seq (ch_loop5 ⟨hs, hd, x0, x1, x5, x7, x9, x10, x15, x16, x17, x18, x19⟩ x20 x30 x31 x32 hob2 (h.rows.kept hkp) (by omega) k hk hlo (.inl hk2) ?_)
    clear hs hd x0 x1 x5 x7 x9 x10 x15 x16 x17 x18 x19 x20 x30 x31 x32
    intro a3 y2 f x30 x31 x32 ht
    rw [hk2] at x32
    refine wp_endB (ch_52n f.hs f.hd f.x0 f.x1 f.x5 f.x7 f.x9 f.x10 f.x15 f.x16 f.x17 f.x18 f.x19 x30 x31 x32 ?_)
    clear f x30 x31 x32
    intro a4 hs hd x0 x1 x5 x7 x9 x10 x15 x16 x17 x18 x19
    exact hfin a4 y2 ⟨hs, hd, x0, x1, x5, x7, x9, x10, x15, x16, x17, x18, x19⟩ (hkp.trans (Keeps.of ht)) (hy.still ht)
  · rw [show atV (r0.v :: R'.map VRow.v) oa = some (r0 :: R')[k].v from hat] at HA
    refine wp_seq (ch_48 f.hs f.hd f.x0 f.x1 f.x5 f.x7 f.x9 f.x10 f.x15 f.x16 f.x17 f.x18 f.x19 x20 hob (nh := (r0 :: R')[k].v.h) (er := 0) HA ?_)
    clear f x20
    rintro a1 y hs hd x0 x1 x5 x7 x9 x10 x15 x16 x17 x18 x19 x20 x30 x31 ⟨hkp, hy⟩
    refine wp_seq (ch_49 hs hd x0 x1 x5 x7 x9 x10 x15 x16 x17 x18 x19 x20 x30 x31 ?_)
    clear hs hd x0 x1 x5 x7 x9 x10 x15 x16 x17 x18 x19 x20 x30 x31
    intro a2 hs hd x0 x1 x5 x7 x9 x10 x15 x16 x17 x18 x19 x20 x30 x31 x32
    have hob2 : y.heap[ob]? = some (opO kd oa od sa sl sc) := hkp.blk _ _ _ (by decide) hob
    refine wp_seq (ch_loop5 ⟨hs, hd, x0, x1, x5, x7, x9, x10, x15, x16, x17, x18, x19⟩ x20 x30 x31 x32 hob2 (h.rows.kept hkp) (by omega) k hk hlo (.inr ⟨hk2, hle⟩) ?_)
    clear hs hd x0 x1 x5 x7 x9 x10 x15 x16 x17 x18 x19 x20 x30 x31 x32
    intro a3 y2 f x30 x31 x32 ht
    have hc := (((h.rows.kept hkp).still ht).cell hk2).1
    refine wp_endB (ch_52s f.hs f.hd f.x0 f.x1 f.x5 f.x7 f.x9 f.x10 f.x15 f.x16 f.x17 f.x18 f.x19 x30 x31 x32 (by omega) (by simp at hk2 ⊢; omega) hc ?_)
    clear f x30 x31 x32
    intro a4 hs hd x0 x1 x5 x7 x9 x10 x15 x16 x17 x18 x19
    exact hfin a4 y2 ⟨hs, hd, x0, x1, x5, x7, x9, x10, x15, x16, x17, x18, x19⟩ (hkp.trans (Keeps.of ht)) (hy.still ht)
theorem ch_k5 (f : FB n p kb c c2 ta Lc tc g R.length rc now used ct i a) (h : LS W x n p kb c c2 used it now G R (.slice (some ⟨g, 0, none⟩) R.length rc) []) (hnow : now ≤ 1000)
    (hN : ∀ a' y, ST W n p kb c c2 ta Lc tc i (now + 1) (ct + 1) (it + 2) a' y → Q .normal a' y) : (atc Try.f3.body [1, 1, 1, 1, 1, 1, 1, 1, 1, 1, 1, 1, 1, 1, 0, 1, 0, 0, 1, 0, 0, 1, 0, 1, 0, 1, 1, 1, 1, 1, 1, 1, 1, 1, 0]).wp Try.prog Q a x := by
  have hp := h.y.pos
  refine wp_seq (ch_75 f.hs f.hd f.x0 f.x1 f.x5 f.x7 f.x9 f.x10 f.x15 f.x16 f.x17 f.x18 f.x19 (yTick h.y (by omega)) ?_)
  clear f
  rintro a1 y z hs hd x0 x1 x5 x7 x9 x10 x15 x16 x17 x18 x19 x37 x38 ⟨hk, hrel⟩ rfl
  refine wp_seq (ch_76 hs hd x0 x1 x5 x7 x9 x10 x15 x16 x17 x18 x19 x37 x38 (blk_new _ _) (hrel _ ((Turned.refl [] _).alloc _)) ?_)
  clear hs hd x0 x1 x5 x7 x9 x10 x15 x16 x17 x18 x19 x37 x38
  rintro a2 y2 hs hd x0 x1 x5 x7 x9 x10 x15 x16 x17 x18 x19 ⟨hk2, hy⟩
  refine wp_endB (ch_78 hs hd x0 x1 x5 x7 x9 x10 x15 x16 x17 x18 x19 (by omega) (by omega) ?_)
  clear hs hd x0 x1 x5 x7 x9 x10 x15 x16 x17 x18 x19
  intro a3 hs hd x0 x1 x5 x7 x9 x10 x15 x16 x17 x18 x19
  exact hN a3 y2 ⟨now + 1, used, ct, it, G, R, g, rc, ⟨hs, hd, x0, x1, x5, x7, x9, x10, x15, x16, x17, x18, x19⟩, ⟨hy, ((h.rows.kept hk).still ((Turned.refl [] _).alloc _)).kept hk2, h.ne, h.sets⟩, by omega, by omega, by omega⟩
theorem ch_k4 (f : FB n p kb c c2 ta Lc tc g R.length rc now used ct i a) (x20 : a.eval (.tmp 20) = .pointer (some ⟨ob, 0, none⟩)) (h : LS W x n p kb c c2 used it now G R (.slice (some ⟨g, 0, none⟩) R.length rc) []) (hob : x.heap[ob]? = some (opO kd oa od sa sl sc)) (hn : n ≤ 200) (hct : ct ≤ 300)
    (hN : ∀ a' y, ST W n p kb c c2 ta Lc tc i (now + 1) (ct + 1) (it + 2) a' y → Q .normal a' y) (hX : ∀ a' y, ST W n p kb c c2 ta Lc tc i (now + 1) (ct + 1) (it + 2) a' y → Q (.exit 2) a' y) : (atc Try.f3.body [1, 1, 1, 1, 1, 1, 1, 1, 1, 1, 1, 1, 1, 1, 0, 1, 0, 0, 1, 0, 0, 1, 0, 1, 0, 1, 1, 1, 1, 1, 1, 1, 0]).wp Try.prog Q a x := by
  have hlen := h.y.len
  rw [List.length_map] at hlen
  have hsame : ∀ a' y, FB n p kb c c2 ta Lc tc g R.length rc now used ct i a' → Keeps x y → LY W y 1 n p kb c c2 used it now G (R.map VRow.v) [] → Q (.exit 2) a' y := fun a' y f' hk' hy => hX a' y ⟨now, used, ct, it, G, R, g, rc, f', ⟨hy, h.rows.kept hk', h.ne, h.sets⟩, by omega, by omega, by omega⟩
  by_cases h1 : oa < 0
  · refine wp_seq (ch_58lo f.hs f.hd f.x0 f.x1 f.x5 f.x7 f.x9 f.x10 f.x15 f.x16 f.x17 f.x18 f.x19 x20 hob h1 ?_)
    clear f x20
    intro a1 hs hd x0 x1 x5 x7 x9 x10 x15 x16 x17 x18 x19
    exact hsame a1 x ⟨hs, hd, x0, x1, x5, x7, x9, x10, x15, x16, x17, x18, x19⟩ (Keeps.of (Turned.refl _ _)) h.y
  by_cases h2 : (R.length : Int) ≤ oa
  · refine wp_seq (ch_58hi f.hs f.hd f.x0 f.x1 f.x5 f.x7 f.x9 f.x10 f.x15 f.x16 f.x17 f.x18 f.x19 x20 hob h1 h2 ?_)
    clear f x20
    intro a1 hs hd x0 x1 x5 x7 x9 x10 x15 x16 x17 x18 x19
    exact hsame a1 x ⟨hs, hd, x0, x1, x5, x7, x9, x10, x15, x16, x17, x18, x19⟩ (Keeps.of (Turned.refl _ _)) h.y
  obtain ⟨k, rfl⟩ : ∃ k : Nat, oa = k := ⟨oa.toNat, by omega⟩
  have hk : k < R.length := by omega
  obtain ⟨pre, r, post, rfl, rfl⟩ : ∃ pre r post, R = pre ++ r :: post ∧ pre.length = k := ⟨R.take k, R[k], R.drop (k + 1), by rw [← List.drop_eq_getElem_cons hk, List.take_append_drop], by simp; omega⟩
  refine wp_seq (ch_58 f.hs f.hd f.x0 f.x1 f.x5 f.x7 f.x9 f.x10 f.x15 f.x16 f.x17 f.x18 f.x19 x20 hob (by omega) ?_)
  clear f x20
  intro a1 hs hd x0 x1 x5 x7 x9 x10 x15 x16 x17 x18 x19 x20
  have hc := h.rows.cell hk
  have er : (pre ++ r :: post)[pre.length] = r := by simp
  rw [er] at hc
  have hy := h.y
  rw [List.map_append, List.map_cons] at hy
  cases post with
  | nil =>
    refine wp_seq (ch_59 hs hd x0 x1 x5 x7 x9 x10 x15 x16 x17 x18 x19 x20 hob (by omega) hc.1 (nh := 0) (PP := fun u x' => u = .slice none 0 0 ∧ Keeps x x' ∧ LY W x' 1 n p kb c c2 used it now G (pre.map VRow.v ++ [r.v]) []) ((yCutNone hy).mono fun e x' hh => ⟨_, hh.1, rfl, hh.2.1, hh.2.2⟩) ?_)
    clear hs hd x0 x1 x5 x7 x9 x10 x15 x16 x17 x18 x19 x20
    rintro a2 y u hs hd x0 x1 x5 x7 x9 x10 x15 x16 x17 x18 x19 x20 x33 x34 x35 ⟨rfl, hkp, hy2⟩
    refine wp_seq (ch_60 hs hd x0 x1 x5 x7 x9 x10 x15 x16 x17 x18 x19 x20 x33 x34 x35 ?_)
    clear hs hd x0 x1 x5 x7 x9 x10 x15 x16 x17 x18 x19 x20 x33 x34 x35
    intro a3 hs hd x0 x1 x5 x7 x9 x10 x15 x16 x17 x18 x19 x20 x33 x34
    have hob2 : y.heap[ob]? = some (opO kd (pre.length : Int) od sa sl sc) := hkp.blk _ _ _ (by decide) hob
    refine wp_seq (ch_62x hs hd x0 x1 x5 x7 x9 x10 x15 x16 x17 x18 x19 x20 x33 x34 hob2 (by simp) (by omega) ?_)
    clear hs hd x0 x1 x5 x7 x9 x10 x15 x16 x17 x18 x19 x20 x33 x34
    intro a4 hs hd x0 x1 x5 x7 x9 x10 x15 x16 x17 x18 x19
    exact hsame a4 y ⟨hs, hd, x0, x1, x5, x7, x9, x10, x15, x16, x17, x18, x19⟩ hkp (by rw [List.map_append]; exact hy2)
  | cons z post =>
    have hlr : (pre ++ r :: z :: post).length = pre.length + 1 + (post.length + 1) := by simp; omega
    obtain ⟨hiv, hgl⟩ := h.sets r (by simp)
    refine wp_seq (ch_59 hs hd x0 x1 x5 x7 x9 x10 x15 x16 x17 x18 x19 x20 hob (by omega) hc.1 (nh := z.v.h) (PP := fun u x' => (∀ y ∈ pre.map VRow.v, y.h ≠ r.v.h) ∧ IR W.heap.size x' u (G r.v.h) ∧ Keeps x x' ∧ LY W x' 1 n p kb c c2 used it now (fun k => if k = r.v.h then [] else G k) (pre.map VRow.v ++ [r.v]) u.ownBlock.toList) ((yCut hy).mono fun e x' ⟨u, b1, b2, b3, b4, b5⟩ => ⟨u, b1, b2, b3, b4, b5⟩) ?_)
    clear hs hd x0 x1 x5 x7 x9 x10 x15 x16 x17 x18 x19 x20
    rintro a2 y u hs hd x0 x1 x5 x7 x9 x10 x15 x16 x17 x18 x19 x20 x33 x34 x35 ⟨hne, hu, hkp, hy2⟩
    obtain ⟨va, vc, rfl⟩ := hu.form
    refine wp_seq (ch_60 hs hd x0 x1 x5 x7 x9 x10 x15 x16 x17 x18 x19 x20 x33 x34 x35 ?_)
    clear hs hd x0 x1 x5 x7 x9 x10 x15 x16 x17 x18 x19 x20 x33 x34 x35
    intro a3 hs hd x0 x1 x5 x7 x9 x10 x15 x16 x17 x18 x19 x20 x33 x34
    have hob2 : y.heap[ob]? = some (opO kd (pre.length : Int) od sa sl sc) := hkp.blk _ _ _ (by decide) hob
    refine wp_seq (ch_62 hs hd x0 x1 x5 x7 x9 x10 x15 x16 x17 x18 x19 x20 x33 x34 hob2 (by omega) (by omega) ?_)
    clear hs hd x0 x1 x5 x7 x9 x10 x15 x16 x17 x18 x19 x20 x33 x34
    intro a4 hs hd x0 x1 x5 x7 x9 x10 x15 x16 x17 x18 x19 x20 x33 x34
    have hR := h.rows.kept hkp
    have d0 := hR.cell hk
    rw [er] at d0
    have d1 := (hR.cell (k := pre.length + 1) (by omega)).1
    have er2 : (pre ++ r :: z :: post)[pre.length + 1]'(by omega) = z := by
      rw [List.getElem_append_right (by omega)]
      simp
    rw [er2] at d1
    obtain ⟨ta2, tc2, hru, -⟩ := hiv.ex
    have d3 := d0.2.2.2
    rw [hru] at d3
    refine wp_seq (ch_65 hs hd x0 x1 x5 x7 x9 x10 x15 x16 x17 x18 x19 x20 x33 x34 hob2 (by omega) (by omega) d1 d3 (by rw [← hru]; exact cInts hu.view (hiv.still hy2.turned) (by omega)) ?_)
    clear hs hd x0 x1 x5 x7 x9 x10 x15 x16 x17 x18 x19 x20 x33 x34
    intro a5 y2 hs hd x0 x1 x5 x7 x9 x10 x15 x16 x17 x18 x19 x20 x33 x34 ht2
    have hu2 := hu.still ht2
    have hob3 := ht2.heap hob2 (by simp)
    refine wp_seq (ch_loop7 ⟨hs, hd, x0, x1, x5, x7, x9, x10, x15, x16, x17, x18, x19⟩ x20 x33 x34 hu2 (by omega) ?_)
    clear hs hd x0 x1 x5 x7 x9 x10 x15 x16 x17 x18 x19 x20 x33 x34
    intro a6 y3 f x20 ht3
    have hob4 := op_off hob3 hu2 ht3
    have hy3 := LY.wrote (hy2.still ht2) hu2 (Nat.le_refl _) ht3
    have hR3 := VR.wrote (hR.still ht2) hu2 ht3
    have e0 := hR3.cell hk
    rw [er] at e0
    refine wp_seq (ch_71 f.hs f.hd f.x0 f.x1 f.x5 f.x7 f.x9 f.x10 f.x15 f.x16 f.x17 f.x18 f.x19 x20 hob4 (by omega) e0.2.2.2 (hR3.froz _) ?_)
    clear f x20
    rintro a7 y4 hs hd x0 x1 x5 x7 x9 x10 x15 x16 x17 x18 x19 x20 rfl
    obtain ⟨cs, hcs⟩ := hR3.block (g := g) rfl
    obtain ⟨gg, cc, hge, -, -, hgW, -⟩ := hR3.at_ (by simp)
    simp only [Value.slice.injEq, Option.some.injEq, Addr.mk.injEq, and_true] at hge
    obtain ⟨rfl, -, rfl⟩ := hge
    have ht4 : Turned [g] y3 (y3.setCell ⟨g, pre.length * 4 + 3, none⟩ (.slice none 0 0)) := (Turned.refl _ _).set (.inl (by simp)) _ _
    have hy4 := hy3.rowed hcs hgW ht4
    have hob5 := ht4.heap hob4 (by simp; exact other_type hob4 hcs (by decide))
    have hR4 := hR3.put (u := .slice none 0 0) rfl
    have hcap := hR3.cap
    refine wp_endB (ch_72 hs hd x0 x1 x5 x7 x9 x10 x15 x16 x17 x18 x19 x20 hob5 (by omega) (by omega) hct ?_)
    clear hs hd x0 x1 x5 x7 x9 x10 x15 x16 x17 x18 x19 x20
    intro a8 hs hd x0 x1 x5 x7 x9 x10 x15 x16 x17 x18 x19
    have el : (pre ++ [(⟨r.v, .slice none 0 0⟩ : VRow)]).length = pre.length + 1 := by simp
    have hR5 : VR W.heap.size (y3.setCell ⟨g, pre.length * 4 + 3, none⟩ (.slice none 0 0)) (.slice (some ⟨g, 0, none⟩) (pre ++ [(⟨r.v, .slice none 0 0⟩ : VRow)]).length rc) (pre ++ [⟨r.v, .slice none 0 0⟩]) := by
      refine VR.take (post := z :: post) ?_
      rw [show (pre ++ [(⟨r.v, .slice none 0 0⟩ : VRow)] ++ z :: post) = pre ++ ⟨r.v, .slice none 0 0⟩ :: z :: post by simp, show (pre ++ (⟨r.v, .slice none 0 0⟩ : VRow) :: z :: post).length = (pre ++ r :: z :: post).length by simp]
      exact hR4
    refine hN a8 _ ⟨now, used, ct + 1, it, _, pre ++ [⟨r.v, .slice none 0 0⟩], g, rc, by rw [el]; exact ⟨hs, hd, x0, x1, x5, x7, x9, x10, x15, x16, x17, x18, x19⟩, ⟨by rw [List.map_append]; exact hy4, hR5, by simp, fun q hq => ?_⟩, by omega, by omega, by omega⟩
    simp only [List.mem_append, List.mem_singleton] at hq
    rcases hq with hq | rfl
    · have := hne q.v (List.mem_map.2 ⟨q, hq, rfl⟩)
      simp only [if_neg this]
      exact h.sets q (by simp [hq])
    · simp only [if_pos]
      exact ⟨⟨none, 0, rfl, fun _ => rfl, fun h => absurd rfl h⟩, by simp⟩
end
end Go.Proofs.Ytaaibhgbkdnlbaa
