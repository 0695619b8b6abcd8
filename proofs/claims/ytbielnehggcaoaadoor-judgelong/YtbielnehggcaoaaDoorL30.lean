/-
  What one event is blamed for by itself: its mathematics, an event's cells. (By the verifier; no statement.)
-/
import Derived.Test.YtbielnehggcaoaaDoorL29
import Derived.Test.YtbielnehggcaoaaDoorL27
import Derived.Deep.CutRange
import Derived.Test.YtbielnehggcaoaaDoorL21
import Derived.Test.YtbielnehggcaoaaDoorL28
import Derived.Test.YtbielnehggcaoaaDoorL23
import Derived.Test.YtbielnehggcaoaaDoorL25
import Derived.Test.YtbielnehggcaoaaDoorL20
namespace Go.Proofs.YtbielnehggcaoaaDoor
open Go.RowKit
/-- An event's cells at every world behind x. -/
structure EC (x : World) (b o : Nat) (e : Ev) (nv pv : Value) : Prop where
  all : ∀ y, Turned [] x y → b < y.heap.size ∧ y.cell? ⟨b, o, none⟩ = some (.int .i64 e.wk) ∧ y.cell? ⟨b, o + 1, none⟩ = some (.int .i64 e.b) ∧ y.cell? ⟨b, o + 2, none⟩ = some (.int .i64 e.e) ∧ y.cell? ⟨b, o + 3, none⟩ = some (.int .i64 e.k) ∧ y.cell? ⟨b, o + 4, none⟩ = some (.int .i64 e.p) ∧ y.cell? ⟨b, o + 5, none⟩ = some (.int .i64 e.key) ∧ y.cell? ⟨b, o + 6, none⟩ = some (.int .i64 e.num) ∧ y.cell? ⟨b, o + 7, none⟩ = some (.bool e.had) ∧ y.cell? ⟨b, o + 8, none⟩ = some (.int .i64 e.val) ∧ y.cell? ⟨b, o + 9, none⟩ = some (.bool e.has) ∧ y.cell? ⟨b, o + 10, none⟩ = some (.int .i64 e.new) ∧ y.cell? ⟨b, o + 11, none⟩ = some nv ∧ y.cell? ⟨b, o + 12, none⟩ = some pv
theorem EvAt.ec {x : World} {b o : Nat} {e : Ev} (h : EvAt x b o e) : ∃ na nc pa pc, EC x b o e (.slice na e.ns.length nc) (.slice pa e.ps.length pc) ∧ IV x (.slice na e.ns.length nc) e.ns ∧ PW x (.slice pa e.ps.length pc) e.ps := by
  obtain ⟨nv, n1, n2⟩ := h.c11
  obtain ⟨pv, q1, q2⟩ := h.c12
  obtain ⟨na, nc, rfl, -, -⟩ := id n2.ex
  obtain ⟨pa, pc, rfl, -⟩ := id q2.ex
  exact ⟨na, nc, pa, pc, ⟨fun y hy => ⟨Nat.lt_of_lt_of_le h.lt hy.size, hy.cell h.c0 (by simp), hy.cell h.c1 (by simp), hy.cell h.c2 (by simp), hy.cell h.c3 (by simp), hy.cell h.c4 (by simp), hy.cell h.c5 (by simp), hy.cell h.c6 (by simp), hy.cell h.c7 (by simp), hy.cell h.c8 (by simp), hy.cell h.c9 (by simp), hy.cell h.c10 (by simp), hy.cell n1 (by simp), hy.cell q1 (by simp)⟩⟩, n2, q2⟩
/-- An event in a block of its own. -/
theorem EC.block {x : World} {g : Nat} {e : Ev} {nv pv : Value} (h : x.heap[g]? = some (.cells (evA e nv pv) 52 (0, 0))) : ∀ y, Turned [] x y → g < y.heap.size ∧ y.cell? ⟨g, 0, none⟩ = some (.int .i64 e.wk) ∧ y.cell? ⟨g, 1, none⟩ = some (.int .i64 e.b) ∧ y.cell? ⟨g, 2, none⟩ = some (.int .i64 e.e) ∧ y.cell? ⟨g, 3, none⟩ = some (.int .i64 e.k) ∧ y.cell? ⟨g, 4, none⟩ = some (.int .i64 e.p) ∧ y.cell? ⟨g, 5, none⟩ = some (.int .i64 e.key) ∧ y.cell? ⟨g, 6, none⟩ = some (.int .i64 e.num) ∧ y.cell? ⟨g, 7, none⟩ = some (.bool e.had) ∧ y.cell? ⟨g, 8, none⟩ = some (.int .i64 e.val) ∧ y.cell? ⟨g, 9, none⟩ = some (.bool e.has) ∧ y.cell? ⟨g, 10, none⟩ = some (.int .i64 e.new) ∧ y.cell? ⟨g, 11, none⟩ = some nv ∧ y.cell? ⟨g, 12, none⟩ = some pv := fun y hy => by
  have hg := hy.heap h (by simp)
  exact ⟨lt_of_heap hg, by rw [cell_at hg]; rfl, by rw [cell_at hg]; rfl, by rw [cell_at hg]; rfl, by rw [cell_at hg]; rfl, by rw [cell_at hg]; rfl, by rw [cell_at hg]; rfl, by rw [cell_at hg]; rfl, by rw [cell_at hg]; rfl, by rw [cell_at hg]; rfl, by rw [cell_at hg]; rfl, by rw [cell_at hg]; rfl, by rw [cell_at hg]; rfl, by rw [cell_at hg]; rfl⟩
theorem selfL_bad {S : List (List (Int × Int))} {D : List Ev} {i : Nat} (h : (eAt D i).good S.length = false) : selfL S D i = [((i : Int), -1, 1)] ∧ endB S.length (eAt D i) = false := by
  unfold selfL endB
  rw [h]
  exact ⟨rfl, rfl⟩
theorem selfL_open {S : List (List (Int × Int))} {D : List Ev} {i : Nat} (h : (eAt D i).good S.length = true) (h2 : (eAt D i).e = 0) : selfL S D i = [] ∧ endB S.length (eAt D i) = false := by
  have e : endB S.length (eAt D i) = false := by unfold endB; rw [h, decide_eq_true h2]; rfl
  unfold selfL
  rw [h, e]
  exact ⟨rfl, rfl⟩
theorem selfL_snap {S : List (List (Int × Int))} {D : List Ev} {i : Nat} (h : (eAt D i).good S.length = true) (h2 : (eAt D i).e ≠ 0) (h3 : (eAt D i).k = 4) : selfL S D i = [] ∧ endB S.length (eAt D i) = true := by
  have e : endB S.length (eAt D i) = true := by unfold endB; rw [h, decide_eq_false h2]; rfl
  have e2 : untoldB S.length D (lastF S D) i = false := by unfold untoldB Ev.snap; rw [decide_eq_true h3]; rfl
  have et : (eAt D i).told = 0 := by unfold Ev.told; rw [if_neg (by omega), if_neg (by omega)]
  have e3 : fourL S D i = [] := by
    unfold fourL
    rw [et]
    rfl
  unfold selfL
  rw [h, e, e2, e3]
  exact ⟨rfl, rfl⟩
/-- Of an event of a part. -/
theorem selfL_part {S : List (List (Int × Int))} {D : List Ev} {i p : Nat} (h : (eAt D i).good S.length = true) (h2 : (eAt D i).e ≠ 0) (h3 : (eAt D i).k ≠ 4) (hp : (eAt D i).p = p) : selfL S D i = (if decide (((vsOf S D p).length : Int) < (eAt D i).num) && !busyB S.length D D.length (p : Int) then [((i : Int), -1, 3)] else []) ++ fourL S D i ∧ endB S.length (eAt D i) = true := by
  have e : endB S.length (eAt D i) = true := by unfold endB; rw [h, decide_eq_false h2]; rfl
  have e2 : untoldB S.length D (lastF S D) i = (decide (((vsOf S D p).length : Int) < (eAt D i).num) && !busyB S.length D D.length (p : Int)) := by
    unfold untoldB Ev.snap
    rw [decide_eq_false h3, hp, lastF_vs, Int.toNat_natCast]
    rfl
  unfold selfL
  rw [h, e, e2]
  exact ⟨rfl, rfl⟩
theorem fourL_no {S : List (List (Int × Int))} {D : List Ev} {i p : Nat} (hp : (eAt D i).p = p) (h : (eAt D i).k = 5 ∨ ¬ (eAt D i).told ≤ ((vsOf S D p).length : Int)) : fourL S D i = [] := by
  unfold fourL
  rcases h with h | h
  · have e : (eAt D i).told = 0 := by unfold Ev.told; rw [if_neg (by omega), if_neg (by omega)]
    rw [e]
    rfl
  · rw [hp, Int.toNat_natCast, decide_eq_false h, Bool.and_false]
    rfl
theorem fourL_yes {S : List (List (Int × Int))} {D : List Ev} {i p j : Nat} (hp : (eAt D i).p = p) (h : (eAt D i).told = (j : Int) + 1) (hj : j < (vsOf S D p).length) : fourL S D i = if otherB ((vsOf S D p).getD j Hold.none) (eAt D i) then [((i : Int), -1, 4)] else [] := by
  unfold fourL
  rw [hp, Int.toNat_natCast, h, decide_eq_true (show 1 ≤ (j : Int) + 1 by omega), decide_eq_true (show (j : Int) + 1 ≤ ((vsOf S D p).length : Int) by omega), show ((j : Int) + 1).toNat - 1 = j by omega]
  rfl
/-- What a right event that has ended says of its numbers. -/
theorem good_partX {m : Nat} {e : Ev} (h : e.good m = true) (h2 : e.e ≠ 0) (h3 : e.k ≠ 4) : ∃ p : Nat, e.p = p ∧ p < m ∧ (e.k = 1 ∨ e.k = 2 ∨ e.k = 3 ∨ e.k = 5) ∧ 1 ≤ e.num ∧ (e.k = 2 → 2 ≤ e.num) := by
  unfold Ev.good at h
  simp only [Bool.and_eq_true, decide_eq_true_eq] at h
  obtain ⟨⟨⟨⟨h4, h5⟩, _⟩, h6⟩, h7⟩ := h
  unfold Ev.inPart at h6
  rw [if_neg h3] at h6
  rw [if_neg h2, if_neg h3] at h7
  simp only [Bool.and_eq_true, decide_eq_true_eq] at h6
  refine ⟨e.p.toNat, by omega, by omega, by omega, ?_, fun hk => ?_⟩
  · cases hp : e.pub
    · rw [hp] at h7; simpa using h7
    · rw [hp] at h7
      have : 2 ≤ e.num := by simpa using h7
      omega
  · have hp : e.pub = true := by unfold Ev.pub; rw [decide_eq_true hk]; rfl
    rw [hp] at h7
    simpa using h7
end Go.Proofs.YtbielnehggcaoaaDoor
/-
  Two equal events: the law's own look, by contract. (By the verifier; no statement.)
-/
namespace Go.Proofs.YtbielnehggcaoaaDoor
open Go.RowKit
set_option maxRecDepth 100000 in
set_option maxHeartbeats 6400000 in
theorem cSameE {w : World} {wk eb en k p key num val new : Int} {had has : Bool} {na pa1 ma qa : Option Addr} {nl nc mc pl pc qc : Nat} (hI : ∀ y, Turned [] w y → Calls Tryd.prog 14 #[.slice na nl nc, .slice ma nl mc] y fun r w' => r = .returned (.bool true) ∧ Turned [] y w') (hP : ∀ y, Turned [] w y → Calls Tryd.prog 42 #[.slice pa1 pl pc, .slice qa pl qc] y fun r w' => r = .returned (.bool true) ∧ Turned [] y w') : Calls Tryd.prog 24 #[.agg #[.int .i64 wk, .int .i64 eb, .int .i64 en, .int .i64 k, .int .i64 p, .int .i64 key, .int .i64 num, .bool had, .int .i64 val, .bool has, .int .i64 new, .slice na nl nc, .slice pa1 pl pc], .agg #[.int .i64 wk, .int .i64 eb, .int .i64 en, .int .i64 k, .int .i64 p, .int .i64 key, .int .i64 num, .bool had, .int .i64 val, .bool has, .int .i64 new, .slice ma nl mc, .slice qa pl qc]] w fun r w' => r = .returned (.bool true) ∧ Turned [] w w' := by
  have HI : Hid _ := hI
  have HP : Hid _ := hP
  clear hI hP
  go_enter Tryd.func24, Tryd.ntmps24
  go_upto_region 1 with fail
  have h1 : ((w.alloc (.cells #[.int .i64 wk, .int .i64 eb, .int .i64 en, .int .i64 k, .int .i64 p, .int .i64 key, .int .i64 num, .bool had, .int .i64 val, .bool has, .int .i64 new, .slice na nl nc, .slice pa1 pl pc] 52 (0, 0))).alloc (.cells #[.int .i64 wk, .int .i64 eb, .int .i64 en, .int .i64 k, .int .i64 p, .int .i64 key, .int .i64 num, .bool had, .int .i64 val, .bool has, .int .i64 new, .slice ma nl mc, .slice qa pl qc] 52 (0, 0))).heap[w.heap.size]? = some (.cells #[.int .i64 wk, .int .i64 eb, .int .i64 en, .int .i64 k, .int .i64 p, .int .i64 key, .int .i64 num, .bool had, .int .i64 val, .bool has, .int .i64 new, .slice na nl nc, .slice pa1 pl pc] 52 (0, 0)) := ((Turned.refl [] _).alloc _).heap (blk_new _ _) (by simp)
  have h2 : ((w.alloc (.cells #[.int .i64 wk, .int .i64 eb, .int .i64 en, .int .i64 k, .int .i64 p, .int .i64 key, .int .i64 num, .bool had, .int .i64 val, .bool has, .int .i64 new, .slice na nl nc, .slice pa1 pl pc] 52 (0, 0))).alloc (.cells #[.int .i64 wk, .int .i64 eb, .int .i64 en, .int .i64 k, .int .i64 p, .int .i64 key, .int .i64 num, .bool had, .int .i64 val, .bool has, .int .i64 new, .slice ma nl mc, .slice qa pl qc] 52 (0, 0))).heap[w.heap.size + 1]? = some (.cells #[.int .i64 wk, .int .i64 eb, .int .i64 en, .int .i64 k, .int .i64 p, .int .i64 key, .int .i64 num, .bool had, .int .i64 val, .bool has, .int .i64 new, .slice ma nl mc, .slice qa pl qc] 52 (0, 0)) := by
    have h := blk_new (w.alloc (.cells #[.int .i64 wk, .int .i64 eb, .int .i64 en, .int .i64 k, .int .i64 p, .int .i64 key, .int .i64 num, .bool had, .int .i64 val, .bool has, .int .i64 new, .slice na nl nc, .slice pa1 pl pc] 52 (0, 0))) (.cells #[.int .i64 wk, .int .i64 eb, .int .i64 en, .int .i64 k, .int .i64 p, .int .i64 key, .int .i64 num, .bool had, .int .i64 val, .bool has, .int .i64 new, .slice ma nl mc, .slice qa pl qc] 52 (0, 0))
    rw [World.size_alloc] at h
    exact h
  have HT : Hid (Turned [] w ((w.alloc (.cells #[.int .i64 wk, .int .i64 eb, .int .i64 en, .int .i64 k, .int .i64 p, .int .i64 key, .int .i64 num, .bool had, .int .i64 val, .bool has, .int .i64 new, .slice na nl nc, .slice pa1 pl pc] 52 (0, 0))).alloc (.cells #[.int .i64 wk, .int .i64 eb, .int .i64 en, .int .i64 k, .int .i64 p, .int .i64 key, .int .i64 num, .bool had, .int .i64 val, .bool has, .int .i64 new, .slice ma nl mc, .slice qa pl qc] 52 (0, 0)))) := ((Turned.refl [] w).alloc _).alloc _
  generalize (w.alloc (.cells #[.int .i64 wk, .int .i64 eb, .int .i64 en, .int .i64 k, .int .i64 p, .int .i64 key, .int .i64 num, .bool had, .int .i64 val, .bool has, .int .i64 new, .slice na nl nc, .slice pa1 pl pc] 52 (0, 0))).alloc (.cells #[.int .i64 wk, .int .i64 eb, .int .i64 en, .int .i64 k, .int .i64 p, .int .i64 key, .int .i64 num, .bool had, .int .i64 val, .bool has, .int .i64 new, .slice ma nl mc, .slice qa pl qc] 52 (0, 0)) = x at h1 h2 HT ⊢
  have ga := lt_of_heap h1
  have gb := lt_of_heap h2
  have a0 : x.cell? ⟨w.heap.size, 0, none⟩ = some (.int .i64 wk) := by { rw [cell_at h1]; rfl }
  have a1 : x.cell? ⟨w.heap.size, 1, none⟩ = some (.int .i64 eb) := by { rw [cell_at h1]; rfl }
  have a2 : x.cell? ⟨w.heap.size, 2, none⟩ = some (.int .i64 en) := by { rw [cell_at h1]; rfl }
  have a3 : x.cell? ⟨w.heap.size, 3, none⟩ = some (.int .i64 k) := by { rw [cell_at h1]; rfl }
  have a4 : x.cell? ⟨w.heap.size, 4, none⟩ = some (.int .i64 p) := by { rw [cell_at h1]; rfl }
  have a5 : x.cell? ⟨w.heap.size, 5, none⟩ = some (.int .i64 key) := by { rw [cell_at h1]; rfl }
  have a6 : x.cell? ⟨w.heap.size, 6, none⟩ = some (.int .i64 num) := by { rw [cell_at h1]; rfl }
  have a7 : x.cell? ⟨w.heap.size, 7, none⟩ = some (.bool had) := by { rw [cell_at h1]; rfl }
  have a8 : x.cell? ⟨w.heap.size, 8, none⟩ = some (.int .i64 val) := by { rw [cell_at h1]; rfl }
  have a9 : x.cell? ⟨w.heap.size, 9, none⟩ = some (.bool has) := by { rw [cell_at h1]; rfl }
  have a10 : x.cell? ⟨w.heap.size, 10, none⟩ = some (.int .i64 new) := by { rw [cell_at h1]; rfl }
  have a11 : x.cell? ⟨w.heap.size, 11, none⟩ = some (.slice na nl nc) := by { rw [cell_at h1]; rfl }
  have a12 : x.cell? ⟨w.heap.size, 12, none⟩ = some (.slice pa1 pl pc) := by { rw [cell_at h1]; rfl }
  have b0 : x.cell? ⟨(w.heap.size + 1), 0, none⟩ = some (.int .i64 wk) := by { rw [cell_at h2]; rfl }
  have b1 : x.cell? ⟨(w.heap.size + 1), 1, none⟩ = some (.int .i64 eb) := by { rw [cell_at h2]; rfl }
  have b2 : x.cell? ⟨(w.heap.size + 1), 2, none⟩ = some (.int .i64 en) := by { rw [cell_at h2]; rfl }
  have b3 : x.cell? ⟨(w.heap.size + 1), 3, none⟩ = some (.int .i64 k) := by { rw [cell_at h2]; rfl }
  have b4 : x.cell? ⟨(w.heap.size + 1), 4, none⟩ = some (.int .i64 p) := by { rw [cell_at h2]; rfl }
  have b5 : x.cell? ⟨(w.heap.size + 1), 5, none⟩ = some (.int .i64 key) := by { rw [cell_at h2]; rfl }
  have b6 : x.cell? ⟨(w.heap.size + 1), 6, none⟩ = some (.int .i64 num) := by { rw [cell_at h2]; rfl }
  have b7 : x.cell? ⟨(w.heap.size + 1), 7, none⟩ = some (.bool had) := by { rw [cell_at h2]; rfl }
  have b8 : x.cell? ⟨(w.heap.size + 1), 8, none⟩ = some (.int .i64 val) := by { rw [cell_at h2]; rfl }
  have b9 : x.cell? ⟨(w.heap.size + 1), 9, none⟩ = some (.bool has) := by { rw [cell_at h2]; rfl }
  have b10 : x.cell? ⟨(w.heap.size + 1), 10, none⟩ = some (.int .i64 new) := by { rw [cell_at h2]; rfl }
  have b11 : x.cell? ⟨(w.heap.size + 1), 11, none⟩ = some (.slice ma nl mc) := by { rw [cell_at h2]; rfl }
  have b12 : x.cell? ⟨(w.heap.size + 1), 12, none⟩ = some (.slice qa pl qc) := by { rw [cell_at h2]; rfl }
  have H1 : Hid _ := h1
  have H2 : Hid _ := h2
  clear h1 h2
  go_quiet (fail)
  obtain ⟨y, hy⟩ : ∃ y, y = x.drewN nq := ⟨_, rfl⟩
  rw [← hy]
  have hty : Turned [] x y := by rw [hy]; exact (Turned.refl [] x).drewN _
  have HTy : Hid (Turned [] w y) := HT.out.trans hty
  have k1 : y.heap[w.heap.size]? = some (.cells #[.int .i64 wk, .int .i64 eb, .int .i64 en, .int .i64 k, .int .i64 p, .int .i64 key, .int .i64 num, .bool had, .int .i64 val, .bool has, .int .i64 new, .slice na nl nc, .slice pa1 pl pc] 52 (0, 0)) := hty.heap H1.out (by simp)
  have k2 : y.heap[w.heap.size + 1]? = some (.cells #[.int .i64 wk, .int .i64 eb, .int .i64 en, .int .i64 k, .int .i64 p, .int .i64 key, .int .i64 num, .bool had, .int .i64 val, .bool has, .int .i64 new, .slice ma nl mc, .slice qa pl qc] 52 (0, 0)) := hty.heap H2.out (by simp)
  clear ga gb a0 a1 a2 a3 a4 a5 a6 a7 a8 a9 a10 a11 a12 b0 b1 b2 b3 b4 b5 b6 b7 b8 b9 b10 b11 b12 hy hty HT H1 H2
  have ga := lt_of_heap k1
  have gb := lt_of_heap k2
  have a0 : y.cell? ⟨w.heap.size, 0, none⟩ = some (.int .i64 wk) := by { rw [cell_at k1]; rfl }
  have a1 : y.cell? ⟨w.heap.size, 1, none⟩ = some (.int .i64 eb) := by { rw [cell_at k1]; rfl }
  have a2 : y.cell? ⟨w.heap.size, 2, none⟩ = some (.int .i64 en) := by { rw [cell_at k1]; rfl }
  have a3 : y.cell? ⟨w.heap.size, 3, none⟩ = some (.int .i64 k) := by { rw [cell_at k1]; rfl }
  have a4 : y.cell? ⟨w.heap.size, 4, none⟩ = some (.int .i64 p) := by { rw [cell_at k1]; rfl }
  have a5 : y.cell? ⟨w.heap.size, 5, none⟩ = some (.int .i64 key) := by { rw [cell_at k1]; rfl }
  have a6 : y.cell? ⟨w.heap.size, 6, none⟩ = some (.int .i64 num) := by { rw [cell_at k1]; rfl }
  have a7 : y.cell? ⟨w.heap.size, 7, none⟩ = some (.bool had) := by { rw [cell_at k1]; rfl }
  have a8 : y.cell? ⟨w.heap.size, 8, none⟩ = some (.int .i64 val) := by { rw [cell_at k1]; rfl }
  have a9 : y.cell? ⟨w.heap.size, 9, none⟩ = some (.bool has) := by { rw [cell_at k1]; rfl }
  have a10 : y.cell? ⟨w.heap.size, 10, none⟩ = some (.int .i64 new) := by { rw [cell_at k1]; rfl }
  have a11 : y.cell? ⟨w.heap.size, 11, none⟩ = some (.slice na nl nc) := by { rw [cell_at k1]; rfl }
  have a12 : y.cell? ⟨w.heap.size, 12, none⟩ = some (.slice pa1 pl pc) := by { rw [cell_at k1]; rfl }
  have b0 : y.cell? ⟨(w.heap.size + 1), 0, none⟩ = some (.int .i64 wk) := by { rw [cell_at k2]; rfl }
  have b1 : y.cell? ⟨(w.heap.size + 1), 1, none⟩ = some (.int .i64 eb) := by { rw [cell_at k2]; rfl }
  have b2 : y.cell? ⟨(w.heap.size + 1), 2, none⟩ = some (.int .i64 en) := by { rw [cell_at k2]; rfl }
  have b3 : y.cell? ⟨(w.heap.size + 1), 3, none⟩ = some (.int .i64 k) := by { rw [cell_at k2]; rfl }
  have b4 : y.cell? ⟨(w.heap.size + 1), 4, none⟩ = some (.int .i64 p) := by { rw [cell_at k2]; rfl }
  have b5 : y.cell? ⟨(w.heap.size + 1), 5, none⟩ = some (.int .i64 key) := by { rw [cell_at k2]; rfl }
  have b6 : y.cell? ⟨(w.heap.size + 1), 6, none⟩ = some (.int .i64 num) := by { rw [cell_at k2]; rfl }
  have b7 : y.cell? ⟨(w.heap.size + 1), 7, none⟩ = some (.bool had) := by { rw [cell_at k2]; rfl }
  have b8 : y.cell? ⟨(w.heap.size + 1), 8, none⟩ = some (.int .i64 val) := by { rw [cell_at k2]; rfl }
  have b9 : y.cell? ⟨(w.heap.size + 1), 9, none⟩ = some (.bool has) := by { rw [cell_at k2]; rfl }
  have b10 : y.cell? ⟨(w.heap.size + 1), 10, none⟩ = some (.int .i64 new) := by { rw [cell_at k2]; rfl }
  have b11 : y.cell? ⟨(w.heap.size + 1), 11, none⟩ = some (.slice ma nl mc) := by { rw [cell_at k2]; rfl }
  have b12 : y.cell? ⟨(w.heap.size + 1), 12, none⟩ = some (.slice qa pl qc) := by { rw [cell_at k2]; rfl }
  have K1 : Hid _ := k1
  have K2 : Hid _ := k2
  clear k1 k2
  go_wp2_with (first | (go_at_call 14; refine (HI.out _ HTy.out).mono ?_; rintro r z ⟨rfl, tz⟩; have HTz : Hid (Turned [] w z) := HTy.out.trans tz; have z1 : z.heap[w.heap.size]? = some (.cells #[.int .i64 wk, .int .i64 eb, .int .i64 en, .int .i64 k, .int .i64 p, .int .i64 key, .int .i64 num, .bool had, .int .i64 val, .bool has, .int .i64 new, .slice na nl nc, .slice pa1 pl pc] 52 (0, 0)) := tz.heap K1.out (by simp); have z2 : z.heap[w.heap.size + 1]? = some (.cells #[.int .i64 wk, .int .i64 eb, .int .i64 en, .int .i64 k, .int .i64 p, .int .i64 key, .int .i64 num, .bool had, .int .i64 val, .bool has, .int .i64 new, .slice ma nl mc, .slice qa pl qc] 52 (0, 0)) := tz.heap K2.out (by simp); have zga := lt_of_heap z1; have zgb := lt_of_heap z2; have za12 : z.cell? ⟨w.heap.size, 12, none⟩ = some (.slice pa1 pl pc) := by { rw [cell_at z1]; rfl }; have zb12 : z.cell? ⟨(w.heap.size + 1), 12, none⟩ = some (.slice qa pl qc) := by { rw [cell_at z2]; rfl }; clear z1 z2 tz) | (go_at_call 42; refine (HP.out _ HTz.out).mono ?_; rintro r z9 ⟨rfl, tz9⟩; have HT9 : Hid (Turned [] w z9) := HTz.out.trans tz9; clear tz9))
  go_ret
  exact ⟨rfl, HT9.out⟩
end Go.Proofs.YtbielnehggcaoaaDoor
/-
  Two equal lists of numbers, of any length: the law's own look, by contract. (By the verifier; no statement.)
-/
namespace Go.Proofs.YtbielnehggcaoaaDoor
open Go.RowKit
set_option maxRecDepth 100000 in
set_option maxHeartbeats 1600000 in
theorem cSameIE {w : World} {u v : Value} {xs : List Int} (hu : IV w u xs) (hv : IV w v xs) (hn : xs.length ≤ 140737488355328) : Calls Tryd.prog 14 #[u, v] w fun r w' => r = .returned (.bool true) ∧ ∃ n, w' = w.drewN n := by
  have HU : Hid (IV w u xs) := hu
  have HV : Hid (IV w v xs) := hv
  obtain ⟨a, c, rfl, -, -⟩ := hu.ex
  obtain ⟨a', c', rfl, -, -⟩ := hv.ex
  clear hu hv
  have d0 : ((xs.length : Int) != (xs.length : Int)) = false := by simp
  have HX : Hid (∀ k, k < xs.length → ∃ b o b' o', a = some ⟨b, o, none⟩ ∧ a' = some ⟨b', o', none⟩ ∧ b < w.heap.size ∧ b' < w.heap.size ∧ w.cell? ⟨b, o + k, none⟩ = some (.int .i64 (xs.getD k 0)) ∧ w.cell? ⟨b', o' + k, none⟩ = some (.int .i64 (xs.getD k 0))) := fun k hk => by
    obtain ⟨b, o, c2, e, hb, h1⟩ := HU.out.get hk
    obtain ⟨b', o', c3, e', hb', h1'⟩ := HV.out.get hk
    simp only [Value.slice.injEq] at e e'
    exact ⟨b, o, b', o', e.1, e'.1, hb, hb', h1, h1'⟩
  generalize hnn : xs.length = n at *
  clear HU HV hnn
  go_enter Tryd.func14, Tryd.ntmps14
  go_wp2
  go_loopw [5] (fun i wx => ∃ k : Nat, k ≤ n ∧ i = .int .i64 k ∧ Hid (∃ q, wx = w.drewN q)) (fun i _ => n - (intOf i).toNat)
  case atStart => exact ⟨0, Nat.zero_le _, rfl, ⟨0, rfl⟩⟩
  case round =>
    obtain ⟨k, hk, rfl, HW⟩ := hrel
    obtain ⟨q, hq⟩ := HW.out
    have HQ : Hid (wr = w.drewN q) := hq
    by_cases hlt : k < n
    · obtain ⟨b, o, b', o', rfl, rfl, hb, hb', h1, h2⟩ := HX.out k hlt
      have k1 : wr.cell? ⟨b, o + k, none⟩ = some (.int .i64 (xs.getD k 0)) := by rw [hq]; exact h1
      have k2 : wr.cell? ⟨b', o' + k, none⟩ = some (.int .i64 (xs.getD k 0)) := by rw [hq]; exact h2
      have kb : b < wr.heap.size := by rw [hq]; exact hb
      have kb' : b' < wr.heap.size := by rw [hq]; exact hb'
      clear h1 h2 hb hb' hq HX
      generalize xs.getD k 0 = x1 at *
      have d1 : (x1 != x1) = false := by simp
      go_wp2
      go_quiet (fail)
      go_wp2
      go_roundw
      case rel => exact ⟨k + 1, by omega, by go_num, ⟨_, by rw [HQ.out, World.drewN_drewN]⟩⟩
      case measure => simp [intOf]; omega
    · have e : k = n := by omega
      subst e
      clear hq
      go_wp2
      go_ret
      exact ⟨rfl, q, HQ.out⟩
end Go.Proofs.YtbielnehggcaoaaDoor
/-
  Events in new memory: the law's own copies, by contract. (By the verifier; no statement.)
-/
namespace Go.Proofs.YtbielnehggcaoaaDoor
open Go.RowKit
def encX (r : Ev × SV × SV) : List Value := (evA r.1 (slV r.2.1) (slV r.2.2)).toList
theorem enX : En 13 encX := ⟨fun _ => rfl, fun r u hu => by
  unfold encX evA at hu
  simp only [List.mem_cons, List.not_mem_nil, or_false] at hu
  rcases hu with rfl | rfl | rfl | rfl | rfl | rfl | rfl | rfl | rfl | rfl | rfl | rfl | rfl <;> rfl⟩
theorem elX : El 52 39 13 136 (.agg #[.int .i64 0, .int .i64 0, .int .i64 0, .int .i64 0, .int .i64 0, .int .i64 0, .int .i64 0, .bool false, .int .i64 0, .bool false, .int .i64 0, .slice none 0 0, .slice none 0 0]) := ⟨by kernel_rfl, by kernel_rfl, rfl, by decide, by decide⟩
/-- Events as the law is given them: lists of any length. -/
structure XE (w : World) (ev : Value) (D : List Ev) : Prop where
  ex : ∃ L : List (Ev × SV × SV), VW encX w ev L ∧ L.length = D.length ∧ ∀ i, i < D.length → ∃ sa sb, L[i]? = some (eAt D i, sa, sb) ∧ VW (fun q : Int => [Value.int .i64 q]) w (slV sa) (eAt D i).ns ∧ VW encP w (slV sb) (eAt D i).ps ∧ (eAt D i).ns.length * 8 ≤ 140737488355328 ∧ (eAt D i).ps.length * 16 ≤ 140737488355328
/-- The copies so far. -/
structure CpAt (B : Nat) (w : World) (v : Value) (D : List Ev) (k : Nat) : Prop where
  ex : ∃ L : List (Ev × SV × SV), OW 52 13 encX B w v L ∧ L.length = k ∧ ∀ i, i < k → ∃ sa sb, L[i]? = some (eAt D i, sa, sb) ∧ OW 3 1 (fun q : Int => [Value.int .i64 q]) B w (slV sa) (eAt D i).ns ∧ OW 67 2 encP B w (slV sb) (eAt D i).ps
set_option maxRecDepth 100000 in
set_option maxHeartbeats 6400000 in
theorem cCopies {w : World} {lv : Value} {D : List Ev} (hX : XE w lv D) (hl : D.length * 136 ≤ 140737488355328) : Calls Tryd.prog 20 #[lv] w fun r w' => ∃ v, r = .returned v ∧ CpAt w.heap.size w' v D D.length ∧ Turned [] w w' := by
  obtain ⟨L, hv, hL, hi⟩ := hX.ex
  obtain ⟨la, lc, rfl, -, -⟩ := id hv.ex
  rw [hL] at hv ⊢
  have HV : Hid (VW encX w (.slice la D.length lc) L) := hv
  have HI : Hid _ := hi
  have HL : Hid _ := hL
  clear hX hv hi hL
  go_enter Tryd.func20, Tryd.ntmps20
  go_wp2
  go_loopw [3, 4, 5] (fun c i _ wx => Bx (∃ k : Nat, k ≤ D.length ∧ i = .int .i64 k ∧ Hid (CpAt w.heap.size wx c D k) ∧ Hid (Turned [] w wx))) (fun _ i _ _ => D.length - (intOf i).toNat)
  case atStart => exact ⟨0, Nat.zero_le _, rfl, ⟨[], ⟨World.ownsRow_nil _ _ _ _⟩, rfl, fun i hi => absurd hi (Nat.not_lt_zero _)⟩, Turned.refl _ _⟩
  case round =>
    obtain ⟨k, hk, rfl, HC, HT⟩ := hrel.ex
    clear hrel
    by_cases hlt : k < D.length
    · obtain ⟨sa, sb, e1, hn, hp, hn8, hp8⟩ := HI.out k hlt
      obtain ⟨b, o, c', el, hb, hc⟩ := (HV.out.still HT.out).get enX (by decide) (i := k) (by rw [HL.out]; exact hlt)
      have e2 : L[k]'(by rw [HL.out]; exact hlt) = (eAt D k, sa, sb) := (List.getElem?_eq_some_iff.1 e1).2
      rw [e2] at hc
      have HN : Hid _ := hn.still HT.out
      have HP : Hid _ := hp.still HT.out
      have HN8 : Hid _ := hn8
      have HP8 : Hid _ := hp8
      obtain ⟨na, nl, nc⟩ := sa
      obtain ⟨pa, pl, pc⟩ := sb
      have ens : nl = (eAt D k).ns.length := by
        obtain ⟨a1, c1, h1, -⟩ := hn.ex
        simp only [slV, Value.slice.injEq] at h1
        exact h1.2.1
      have eps : pl = (eAt D k).ps.length := by
        obtain ⟨a1, c1, h1, -⟩ := hp.ex
        simp only [slV, Value.slice.injEq] at h1
        exact h1.2.1
      subst ens eps
      simp only [Value.slice.injEq] at el
      obtain ⟨rfl, -, rfl⟩ := el
      clear e1 e2 hn hp hn8 hp8
      generalize hee : eAt D k = e at *
      obtain ⟨wk, eb, en, kd, p, key, num, had, val, has, new, ns, ps⟩ := e
      have HEe : Hid _ := hee
      clear hee
      have f0 : wr.cell? ⟨b, o + k * 13, none⟩ = some (.int .i64 wk) := by
        have h := hc 0 _ rfl
        exact h
      have f1 : wr.cell? ⟨b, o + k * 13 + 1, none⟩ = some (.int .i64 eb) := by
        have h := hc 1 _ rfl
        rw [Nat.add_assoc]; exact h
      have f2 : wr.cell? ⟨b, o + k * 13 + 2, none⟩ = some (.int .i64 en) := by
        have h := hc 2 _ rfl
        rw [Nat.add_assoc]; exact h
      have f3 : wr.cell? ⟨b, o + k * 13 + 3, none⟩ = some (.int .i64 kd) := by
        have h := hc 3 _ rfl
        rw [Nat.add_assoc]; exact h
      have f4 : wr.cell? ⟨b, o + k * 13 + 4, none⟩ = some (.int .i64 p) := by
        have h := hc 4 _ rfl
        rw [Nat.add_assoc]; exact h
      have f5 : wr.cell? ⟨b, o + k * 13 + 5, none⟩ = some (.int .i64 key) := by
        have h := hc 5 _ rfl
        rw [Nat.add_assoc]; exact h
      have f6 : wr.cell? ⟨b, o + k * 13 + 6, none⟩ = some (.int .i64 num) := by
        have h := hc 6 _ rfl
        rw [Nat.add_assoc]; exact h
      have f7 : wr.cell? ⟨b, o + k * 13 + 7, none⟩ = some (.bool had) := by
        have h := hc 7 _ rfl
        rw [Nat.add_assoc]; exact h
      have f8 : wr.cell? ⟨b, o + k * 13 + 8, none⟩ = some (.int .i64 val) := by
        have h := hc 8 _ rfl
        rw [Nat.add_assoc]; exact h
      have f9 : wr.cell? ⟨b, o + k * 13 + 9, none⟩ = some (.bool has) := by
        have h := hc 9 _ rfl
        rw [Nat.add_assoc]; exact h
      have f10 : wr.cell? ⟨b, o + k * 13 + 10, none⟩ = some (.int .i64 new) := by
        have h := hc 10 _ rfl
        rw [Nat.add_assoc]; exact h
      have f11 : wr.cell? ⟨b, o + k * 13 + 11, none⟩ = some (.slice na ns.length nc) := by
        have h := hc 11 _ rfl
        rw [Nat.add_assoc]; exact h
      have f12 : wr.cell? ⟨b, o + k * 13 + 12, none⟩ = some (.slice pa ps.length pc) := by
        have h := hc 12 _ rfl
        rw [Nat.add_assoc]; exact h
      clear hc
      go_upto_region 6 with fail
      have x1b : (wr.alloc (.cells #[.int .i64 wk, .int .i64 eb, .int .i64 en, .int .i64 kd, .int .i64 p, .int .i64 key, .int .i64 num, .bool had, .int .i64 val, .bool has, .int .i64 new, .slice na ns.length nc, .slice pa ps.length pc] 52 (0, 0))).heap[wr.heap.size]? = some (.cells #[.int .i64 wk, .int .i64 eb, .int .i64 en, .int .i64 kd, .int .i64 p, .int .i64 key, .int .i64 num, .bool had, .int .i64 val, .bool has, .int .i64 new, .slice na ns.length nc, .slice pa ps.length pc] 52 (0, 0)) := blk_new _ _
      have HT1 : Hid (Turned [] wr (wr.alloc (.cells #[.int .i64 wk, .int .i64 eb, .int .i64 en, .int .i64 kd, .int .i64 p, .int .i64 key, .int .i64 num, .bool had, .int .i64 val, .bool has, .int .i64 new, .slice na ns.length nc, .slice pa ps.length pc] 52 (0, 0)))) := (Turned.refl [] wr).alloc _
      generalize wr.alloc (.cells #[.int .i64 wk, .int .i64 eb, .int .i64 en, .int .i64 kd, .int .i64 p, .int .i64 key, .int .i64 num, .bool had, .int .i64 val, .bool has, .int .i64 new, .slice na ns.length nc, .slice pa ps.length pc] 52 (0, 0)) = x1 at x1b HT1 ⊢
      have HG : Hid (w.heap.size ≤ wr.heap.size) := HT.out.size
      have HC1 : Hid (CpAt w.heap.size wr u3 D k ∧ ∀ y, Turned [] wr y → True) := ⟨HC.out, fun _ _ => trivial⟩
      generalize hgw : wr.heap.size = g at x1b HG ⊢
      have HGw : Hid (wr.heap.size = g) := hgw
      have q0 := lt_of_heap x1b
      have q1 : x1.cell? ⟨g, 11, none⟩ = some (.slice na ns.length nc) := by rw [cell_at x1b]; rfl
      have X1 : Hid _ := x1b
      clear x1b f0 f1 f2 f3 f4 f5 f6 f7 f8 f9 f10 f11 f12 hb hgw HC1
      go_upto_region 7 with (at_builtin; refine wpList_apO elI enI (B := x1.heap.size) (v := .slice none 0 0) (u := .slice na ns.length nc) (R := []) (M := ns) rfl _ _ rfl rfl (OW.nil _ _ _ _ _) rfl (HN.out.still HT1.out) (by have h := HN8.out; dsimp only at h; simp only [List.length_nil, Nat.zero_add]; exact h) (Nat.le_refl _) ?_; intro v1 z1 ho ht _; have HO1 : Hid (OW 3 1 (fun q : Int => [Value.int .i64 q]) x1.heap.size z1 v1 ns) := ho; have HTz : Hid (Turned [] x1 z1) := ht; obtain ⟨a1, c1, rfl⟩ := HO1.out.slice; clear ho ht; have z1b := HTz.out.heap X1.out (by simp); have r0 := lt_of_heap z1b; have r1 : z1.cell? ⟨g, 11, none⟩ = some (.slice na ns.length nc) := by { rw [cell_at z1b]; rfl }; have r2 : z1.frozen? ⟨g, 11, none⟩ = false := froz_at z1b 11; have Z1 : Hid _ := z1b; clear z1b)
      have X2 : Hid ((z1.setCell ⟨g, 11, none⟩ (.slice a1 ns.length c1)).heap[g]? = some (.cells #[.int .i64 wk, .int .i64 eb, .int .i64 en, .int .i64 kd, .int .i64 p, .int .i64 key, .int .i64 num, .bool had, .int .i64 val, .bool has, .int .i64 new, .slice a1 ns.length c1, .slice pa ps.length pc] 52 (0, 0))) := by
        have h := blk_set Z1.out 11 (.slice a1 ns.length c1)
        rw [Hid]
        simpa using h
      have HT2 : Hid (Turned [] wr (z1.setCell ⟨g, 11, none⟩ (.slice a1 ns.length c1))) := (HT1.out.trans HTz.out).set (.inr (by rw [HGw.out]; exact Nat.le_refl _)) _ _
      have HO2 : Hid (OW 3 1 (fun q : Int => [Value.int .i64 q]) (wr.heap.size + 1) (z1.setCell ⟨g, 11, none⟩ (.slice a1 ns.length c1)) (.slice a1 ns.length c1) ns) := ((HO1.out.far ((Turned.refl [g] z1).set (by simp) _ _) (fun q hq => by rw [List.mem_singleton.1 hq]; exact q0)).lower (by rw [HGw.out]; exact q0))
      clear HO1 HTz Z1 r0 r1 r2 q0 q1 X1 HT1 HN HN8
      generalize z1.setCell ⟨g, 11, none⟩ (.slice a1 ns.length c1) = x2 at X2 HT2 HO2 ⊢
      have q0 := lt_of_heap X2.out
      have q1 : x2.cell? ⟨g, 12, none⟩ = some (.slice pa ps.length pc) := by rw [cell_at X2.out]; rfl
      go_upto_region 8 with (at_builtin; refine wpList_apO elP enP (B := x2.heap.size) (v := .slice none 0 0) (u := .slice pa ps.length pc) (R := []) (M := ps) rfl _ _ rfl rfl (OW.nil _ _ _ _ _) rfl (HP.out.still HT2.out) (by have h := HP8.out; dsimp only at h; simp only [List.length_nil, Nat.zero_add]; exact h) (Nat.le_refl _) ?_; intro v2 z2 ho ht _; have HO3 : Hid (OW 67 2 encP x2.heap.size z2 v2 ps) := ho; have HTz2 : Hid (Turned [] x2 z2) := ht; obtain ⟨a2, c2, rfl⟩ := HO3.out.slice; clear ho ht; have z2b := HTz2.out.heap X2.out (by simp); have r0 := lt_of_heap z2b; have r1 : z2.cell? ⟨g, 12, none⟩ = some (.slice pa ps.length pc) := by { rw [cell_at z2b]; rfl }; have r2 : z2.frozen? ⟨g, 12, none⟩ = false := froz_at z2b 12; have Z2 : Hid _ := z2b; clear z2b)
      have X3 : Hid ((z2.setCell ⟨g, 12, none⟩ (.slice a2 ps.length c2)).heap[g]? = some (.cells #[.int .i64 wk, .int .i64 eb, .int .i64 en, .int .i64 kd, .int .i64 p, .int .i64 key, .int .i64 num, .bool had, .int .i64 val, .bool has, .int .i64 new, .slice a1 ns.length c1, .slice a2 ps.length c2] 52 (0, 0))) := by
        have h := blk_set Z2.out 12 (.slice a2 ps.length c2)
        rw [Hid]
        simpa using h
      have HS2 : Hid (Turned [g] z2 (z2.setCell ⟨g, 12, none⟩ (.slice a2 ps.length c2))) := (Turned.refl [g] z2).set (by simp) _ _
      have HT3 : Hid (Turned [] wr (z2.setCell ⟨g, 12, none⟩ (.slice a2 ps.length c2))) := (HT2.out.trans HTz2.out).set (.inr (by rw [HGw.out]; exact Nat.le_refl _)) _ _
      have HO4 : Hid (OW 3 1 (fun q : Int => [Value.int .i64 q]) (wr.heap.size + 1) (z2.setCell ⟨g, 12, none⟩ (.slice a2 ps.length c2)) (.slice a1 ns.length c1) ns) := (HO2.out.still HTz2.out).far HS2.out (fun q hq => by rw [List.mem_singleton.1 hq, HGw.out]; exact Nat.lt_succ_self _)
      have HO5 : Hid (OW 67 2 encP (wr.heap.size + 1) (z2.setCell ⟨g, 12, none⟩ (.slice a2 ps.length c2)) (.slice a2 ps.length c2) ps) := ((HO3.out.far HS2.out (fun q hq => by rw [List.mem_singleton.1 hq]; exact q0)).lower (by rw [HGw.out]; exact q0))
      clear HO2 HO3 HTz2 Z2 r0 r1 r2 q0 q1 X2 HT2 HP HP8 HS2
      generalize z2.setCell ⟨g, 12, none⟩ (.slice a2 ps.length c2) = x3 at X3 HT3 HO4 HO5 ⊢
      obtain ⟨M, hM, hMl, hMi⟩ := HC.out.ex
      obtain ⟨oa, oc, rfl⟩ := hM.slice
      have HM : Hid (OW 52 13 encX w.heap.size wr (.slice oa M.length oc) M) := hM
      have HMi : Hid _ := hMi
      have HMl : Hid (M.length = k) := hMl
      clear hM hMi hMl
      have hsz : x3.heap.size ≥ w.heap.size := Nat.le_trans HT.out.size HT3.out.size
      have HSz : Hid _ := hsz
      clear hsz
      have q0 := lt_of_heap X3.out
      have f0 : x3.cell? ⟨g, 0, none⟩ = some (.int .i64 wk) := by rw [cell_at X3.out]; rfl
      have f1 : x3.cell? ⟨g, 1, none⟩ = some (.int .i64 eb) := by rw [cell_at X3.out]; rfl
      have f2 : x3.cell? ⟨g, 2, none⟩ = some (.int .i64 en) := by rw [cell_at X3.out]; rfl
      have f3 : x3.cell? ⟨g, 3, none⟩ = some (.int .i64 kd) := by rw [cell_at X3.out]; rfl
      have f4 : x3.cell? ⟨g, 4, none⟩ = some (.int .i64 p) := by rw [cell_at X3.out]; rfl
      have f5 : x3.cell? ⟨g, 5, none⟩ = some (.int .i64 key) := by rw [cell_at X3.out]; rfl
      have f6 : x3.cell? ⟨g, 6, none⟩ = some (.int .i64 num) := by rw [cell_at X3.out]; rfl
      have f7 : x3.cell? ⟨g, 7, none⟩ = some (.bool had) := by rw [cell_at X3.out]; rfl
      have f8 : x3.cell? ⟨g, 8, none⟩ = some (.int .i64 val) := by rw [cell_at X3.out]; rfl
      have f9 : x3.cell? ⟨g, 9, none⟩ = some (.bool has) := by rw [cell_at X3.out]; rfl
      have f10 : x3.cell? ⟨g, 10, none⟩ = some (.int .i64 new) := by rw [cell_at X3.out]; rfl
      have f11 : x3.cell? ⟨g, 11, none⟩ = some (.slice a1 ns.length c1) := by rw [cell_at X3.out]; rfl
      have f12 : x3.cell? ⟨g, 12, none⟩ = some (.slice a2 ps.length c2) := by rw [cell_at X3.out]; rfl
      have HVr : Hid (VW encX (x3.alloc (.cells #[.int .i64 wk, .int .i64 eb, .int .i64 en, .int .i64 kd, .int .i64 p, .int .i64 key, .int .i64 num, .bool had, .int .i64 val, .bool has, .int .i64 new, .slice a1 ns.length c1, .slice a2 ps.length c2] 52 (0, 0))) (.slice (some ⟨x3.heap.size, 0, none⟩) 1 1) [((⟨wk, eb, en, kd, p, key, num, had, val, has, new, ns, ps⟩ : Ev), ((a1, ns.length, c1) : SV), ((a2, ps.length, c2) : SV))]) := VW.block (R := [((⟨wk, eb, en, kd, p, key, num, had, val, has, new, ns, ps⟩ : Ev), ((a1, ns.length, c1) : SV), ((a2, ps.length, c2) : SV))]) (c := 1) (blk_new _ _) (fun i u hu => by simpa [encX, evA, slV] using hu)
      have HBy : Hid ((M.length + [((⟨wk, eb, en, kd, p, key, num, had, val, has, new, ns, ps⟩ : Ev), ((a1, ns.length, c1) : SV), ((a2, ps.length, c2) : SV))].length) * 136 ≤ 140737488355328) := by
        rw [Hid, HMl.out]
        simp only [List.length_cons, List.length_nil]
        omega
      have HBb : Hid (w.heap.size ≤ (x3.alloc (.cells #[.int .i64 wk, .int .i64 eb, .int .i64 en, .int .i64 kd, .int .i64 p, .int .i64 key, .int .i64 num, .bool had, .int .i64 val, .bool has, .int .i64 new, .slice a1 ns.length c1, .slice a2 ps.length c2] 52 (0, 0))).heap.size) := Nat.le_trans HSz.out ((Turned.refl [] x3).alloc _).size
      go_upto_region 4 with (at_builtin; refine wpList_apO elX enX (B := w.heap.size) (v := .slice oa M.length oc) (u := .slice (some ⟨x3.heap.size, 0, none⟩) 1 1) (R := M) (M := [((⟨wk, eb, en, kd, p, key, num, had, val, has, new, ns, ps⟩ : Ev), ((a1, ns.length, c1) : SV), ((a2, ps.length, c2) : SV))]) rfl _ _ rfl rfl ((HM.out.still HT3.out).still ((Turned.refl [] x3).alloc _)) rfl HVr.out HBy.out HBb.out ?_; intro v4 x4 ho ht _; have HO6 : Hid _ := ho; have HT4 : Hid _ := ht; clear ho ht)
      have HR : Hid (CpAt w.heap.size x4 v4 D (k + 1)) := by
        refine ⟨M ++ [((⟨wk, eb, en, kd, p, key, num, had, val, has, new, ns, ps⟩ : Ev), ((a1, ns.length, c1) : SV), ((a2, ps.length, c2) : SV))], HO6.out, by rw [List.length_append, HMl.out]; rfl, fun i hi => ?_⟩
        by_cases hik : i < k
        · obtain ⟨sa, sb, h1, h2, h3⟩ := HMi.out i hik
          refine ⟨sa, sb, by rw [List.getElem?_append_left (by rw [HMl.out]; exact hik)]; exact h1, ?_, ?_⟩
          · refine ((h2.still HT3.out).still ((Turned.refl [] x3).alloc _)).keep HT4.out fun q hq hm => ?_
            simp only [Option.mem_toList] at hm
            obtain ⟨cs1, t1⟩ := h2.type hq
            obtain ⟨cs2, t2⟩ := HM.out.type hm
            exact absurd (t1.symm.trans t2) (by simp)
          · refine ((h3.still HT3.out).still ((Turned.refl [] x3).alloc _)).keep HT4.out fun q hq hm => ?_
            simp only [Option.mem_toList] at hm
            obtain ⟨cs1, t1⟩ := h3.type hq
            obtain ⟨cs2, t2⟩ := HM.out.type hm
            exact absurd (t1.symm.trans t2) (by simp)
        · obtain rfl : i = k := by omega
          have hB1 : w.heap.size ≤ wr.heap.size + 1 := Nat.le_succ_of_le HT.out.size
          refine ⟨(a1, ns.length, c1), (a2, ps.length, c2), by rw [List.getElem?_append_right (by rw [HMl.out]; exact Nat.le_refl _), HMl.out, Nat.sub_self, HEe.out]; rfl, ?_, ?_⟩
          · rw [HEe.out]
            refine ((HO4.out.still ((Turned.refl [] x3).alloc _)).keep HT4.out fun q hq hm => ?_).lower hB1
            simp only [Option.mem_toList] at hm
            have h5 := (HO4.out.fresh hq).1
            have h6 := (HM.out.fresh hm).2
            omega
          · rw [HEe.out]
            refine ((HO5.out.still ((Turned.refl [] x3).alloc _)).keep HT4.out fun q hq hm => ?_).lower hB1
            simp only [Option.mem_toList] at hm
            have h5 := (HO5.out.fresh hq).1
            have h6 := (HM.out.fresh hm).2
            omega
      have HTf : Hid (Turned [] w x4) := (HT.out.trans (HT3.out.trans ((Turned.refl [] x3).alloc _))).inner HT4.out fun q hq => .inr (HM.out.fresh (by simpa using hq)).1
      clear HO6 HT4 HO4 HO5 HT3 HM HMi HMl HVr HBy HBb HSz X3 q0 f0 f1 f2 f3 f4 f5 f6 f7 f8 f9 f10 f11 f12 HC
      go_wp2
      go_roundw
      case rel => exact ⟨k + 1, by omega, by go_num, HR, HTf⟩
      case measure => simp [intOf]; omega
    · obtain rfl : k = D.length := by omega
      go_wp2
      go_ret
      exact ⟨_, rfl, HC.out, HT.out⟩
end Go.Proofs.YtbielnehggcaoaaDoor
/-
  Events in memory, of any kind of row, as the program's judge reads them. (By the verifier; no statement.)
-/
namespace Go.Proofs.YtbielnehggcaoaaDoor
open Go.RowKit
theorem VW.iv {w : World} {v : Value} {l : List Int} (h : VW (fun q : Int => [Value.int .i64 q]) w v l) : IV w v l := by
  obtain ⟨a, c, rfl, hz, hc⟩ := h.ex
  refine ⟨a, c, rfl, hz, fun hne => ?_⟩
  obtain ⟨b, o, ha, hk⟩ := hc hne
  exact ⟨b, o, ha, fun i hi => hk i _ (by rw [flat_single (Value.int .i64 ·)]; simp [hi])⟩
theorem VW.pw {w : World} {v : Value} {l : List (Int × Int)} (h : VW encP w v l) (hl : l.length ≤ 1000000) : PW w v l := by
  obtain ⟨a, c, rfl, hz, hc⟩ := h.ex
  refine ⟨hl, a, c, rfl, fun hne => ?_⟩
  obtain ⟨b, o, ha, hk⟩ := hc hne
  refine ⟨b, o, ha, fun i hi => ⟨?_, ?_⟩⟩
  · have h1 := rowO_at enP l (i := i) (j := 0) hi (by decide)
    exact hk (i * 2) _ (h1.trans rfl)
  · have h1 := rowO_at enP l (i := i) (j := 1) hi (by decide)
    rw [Nat.add_assoc]
    exact hk (i * 2 + 1) _ (h1.trans rfl)
theorem events_at {w : World} {ev : Value} {D : List Ev} {L : List (Ev × SV × SV)} (hv : VW encX w ev L) (hL : L.length = D.length) (h : ∀ i, i < D.length → ∃ sa sb, L[i]? = some (eAt D i, sa, sb) ∧ VW (fun q : Int => [Value.int .i64 q]) w (slV sa) (eAt D i).ns ∧ VW encP w (slV sb) (eAt D i).ps) (hl : D.length ≤ 100000) (hp : ∀ i, (eAt D i).ps.length ≤ 1000000) : EsAt w ev D := by
  obtain ⟨a, c, rfl, -, -⟩ := id hv.ex
  refine ⟨hl, a, c, by rw [hL], fun i e he => ?_⟩
  have hi : i < D.length := (List.getElem?_eq_some_iff.1 he).1
  obtain ⟨sa, sb, e1, hn, hq⟩ := h i hi
  obtain ⟨b, o, c', el, hb, hc⟩ := hv.get enX (by decide) (i := i) (by rw [hL]; exact hi)
  have e2 : L[i]'(by rw [hL]; exact hi) = (eAt D i, sa, sb) := (List.getElem?_eq_some_iff.1 e1).2
  have e3 : eAt D i = e := eAt_of he
  rw [e2] at hc
  simp only [Value.slice.injEq] at el
  have hps := hp i
  rw [e3] at hc hn hq hps
  refine ⟨b, o, el.1, ⟨hb, ?_, ?_, ?_, ?_, ?_, ?_, ?_, ?_, ?_, ?_, ?_, ⟨_, ?_, hn.iv⟩, ⟨_, ?_, hq.pw hps⟩⟩⟩
  · exact hc 0 _ rfl
  · rw [Nat.add_assoc]; exact hc 1 _ rfl
  · rw [Nat.add_assoc]; exact hc 2 _ rfl
  · rw [Nat.add_assoc]; exact hc 3 _ rfl
  · rw [Nat.add_assoc]; exact hc 4 _ rfl
  · rw [Nat.add_assoc]; exact hc 5 _ rfl
  · rw [Nat.add_assoc]; exact hc 6 _ rfl
  · rw [Nat.add_assoc]; exact hc 7 _ rfl
  · rw [Nat.add_assoc]; exact hc 8 _ rfl
  · rw [Nat.add_assoc]; exact hc 9 _ rfl
  · rw [Nat.add_assoc]; exact hc 10 _ rfl
  · rw [Nat.add_assoc]; exact hc 11 _ rfl
  · rw [Nat.add_assoc]; exact hc 12 _ rfl
theorem XE.es {w : World} {ev : Value} {D : List Ev} (h : XE w ev D) (hl : D.length ≤ 100000) (hp : ∀ i, (eAt D i).ps.length ≤ 1000000) : EsAt w ev D := by
  obtain ⟨L, hv, hL, hi⟩ := h.ex
  exact events_at hv hL (fun i h => by obtain ⟨sa, sb, e1, e2, e3, -⟩ := hi i h; exact ⟨sa, sb, e1, e2, e3⟩) hl hp
theorem CpAt.es {B : Nat} {w : World} {ev : Value} {D : List Ev} (h : CpAt B w ev D D.length) (hl : D.length ≤ 100000) (hp : ∀ i, (eAt D i).ps.length ≤ 1000000) : EsAt w ev D := by
  obtain ⟨L, hv, hL, hi⟩ := h.ex
  exact events_at hv.view hL (fun i h => by obtain ⟨sa, sb, e1, e2, e3⟩ := hi i h; exact ⟨sa, sb, e1, e2.view, e3.view⟩) hl hp
theorem CpAt.still {B k : Nat} {w w' : World} {ev : Value} {D : List Ev} (h : CpAt B w ev D k) (ht : Turned [] w w') : CpAt B w' ev D k := by
  obtain ⟨L, hv, hL, hi⟩ := h.ex
  exact ⟨L, hv.still ht, hL, fun i h => by obtain ⟨sa, sb, e1, e2, e3⟩ := hi i h; exact ⟨sa, sb, e1, e2.still ht, e3.still ht⟩⟩
end Go.Proofs.YtbielnehggcaoaaDoor
/-
  The story in memory: its maps, its numbers, its events; the turner beside it. (By the verifier; no statement.)
-/
namespace Go.Proofs.YtbielnehggcaoaaDoor
open Go.RowKit
/-- The story at sb: maps Ms (in a row at nb), numbers (at ub), events lv; the turner at tb; m parts. What lay ahead of W1 is as it was, but for these. -/
structure MY (tb sb ub nb uc nc m : Nat) (Ms : List Nat) (W1 x : World) (nu : Nat → Int) (ho : Nat → Hold) (lv : Value) (D : List Ev) : Prop where
  tu : Turned (tb :: sb :: ub :: Ms) W1 x
  low : tb < W1.heap.size ∧ sb < W1.heap.size ∧ ub < W1.heap.size ∧ nb < W1.heap.size
  tn : ∃ t : Int, 0 ≤ t ∧ t < 2147483648 ∧ x.heap[tb]? = some (tObj t)
  st : x.heap[sb]? = some (.cells #[.slice (some ⟨nb, 0, none⟩) m nc, .slice (some ⟨ub, 0, none⟩) m uc, lv] 64 (0, 0))
  nus : ∃ cs, x.heap[ub]? = some (.cells cs 3 (0, 0)) ∧ ∀ p, p < m → cs[p]? = some (.int .i64 (nu p))
  row : ∃ cs, x.heap[nb]? = some (.cells cs 65 (0, 0)) ∧ ∀ p, p < m → cs[p]? = some (.map (some (Ms.getD p 0)))
  maps : ∀ p, p < m → HM x (Ms.getD p 0) (ho p)
  inj : Ms.length = m ∧ Ms.Nodup
  l : CpAt W1.heap.size x lv D D.length
section
variable {tb sb ub nb uc nc m : Nat} {Ms : List Nat} {W1 x : World} {nu : Nat → Int} {ho : Nat → Hold} {lv : Value} {D : List Ev}
theorem tyneM {w : World} {a b : Nat} {cs : Array Value} {T : TypeId} {f : Hold} (h1 : w.heap[a]? = some (.cells cs T (0, 0))) (h2 : HM w b f) : a ≠ b := fun e => by
  obtain ⟨es, c, ps, h3, -⟩ := h2.ex
  subst e
  rw [h1] at h3
  cases h3
theorem MY.map_in (h : MY tb sb ub nb uc nc m Ms W1 x nu ho lv D) {g : Nat} (hg : g ∈ Ms) : ∃ p, p < m ∧ Ms.getD p 0 = g := by
  obtain ⟨p, hp, e⟩ := List.getElem_of_mem hg
  rw [h.inj.1] at hp
  exact ⟨p, hp, by simp [e, h.inj.1, hp]⟩
theorem MY.in_map (h : MY tb sb ub nb uc nc m Ms W1 x nu ho lv D) {p : Nat} (hp : p < m) : Ms.getD p 0 ∈ Ms := by
  have : p < Ms.length := by rw [h.inj.1]; exact hp
  simp [this]
theorem MY.same (h : MY tb sb ub nb uc nc m Ms W1 x nu ho lv D) {p q : Nat} (hp : p < m) (hq : q < m) (e : Ms.getD p 0 = Ms.getD q 0) : p = q := by
  have h1 : p < Ms.length := by rw [h.inj.1]; exact hp
  have h2 : q < Ms.length := by rw [h.inj.1]; exact hq
  rw [List.getD_eq_getElem?_getD, List.getD_eq_getElem?_getD, List.getElem?_eq_getElem h1, List.getElem?_eq_getElem h2] at e
  exact (List.getElem_inj h.inj.2).1 e
theorem MY.re {ho2 : Nat → Hold} (h : MY tb sb ub nb uc nc m Ms W1 x nu ho lv D) (he : ∀ q, ho q = ho2 q) : MY tb sb ub nb uc nc m Ms W1 x nu ho2 lv D := by
  rw [← show ho = ho2 from funext he]
  exact h
/-- Blocks of cells are none of the maps'. -/
theorem MY.off (h : MY tb sb ub nb uc nc m Ms W1 x nu ho lv D) {g : Nat} {cs : Array Value} {T : TypeId} (hg : x.heap[g]? = some (.cells cs T (0, 0))) : g ∉ Ms := fun hm => by
  obtain ⟨p, hp, e⟩ := h.map_in hm
  exact tyneM hg (h.maps p hp) e.symm
/-- A change beside it. -/
theorem MY.far {y : World} {F : List Nat} (h : MY tb sb ub nb uc nc m Ms W1 x nu ho lv D) (ht : Turned F x y) (hF : ∀ g ∈ F, W1.heap.size ≤ g ∧ ∀ cs T, x.heap[g]? = some (.cells cs T (0, 0)) → T ≠ 3 ∧ T ≠ 52 ∧ T ≠ 67) (hM : ∀ g ∈ F, g ∉ Ms) : MY tb sb ub nb uc nc m Ms W1 y nu ho lv D := by
  have off : ∀ g, g < W1.heap.size → g ∉ F := fun g hg hm => by have := (hF g hm).1; omega
  obtain ⟨l1, l2, l3, l4⟩ := h.low
  obtain ⟨t, t0, t1, t2⟩ := h.tn
  obtain ⟨cs, c1, c2⟩ := h.nus
  obtain ⟨ds, d1, d2⟩ := h.row
  refine ⟨h.tu.inner ht fun g hg => .inr (hF g hg).1, h.low, ⟨t, t0, t1, ht.heap t2 (off _ l1)⟩, ht.heap h.st (off _ l2), ⟨cs, ht.heap c1 (off _ l3), c2⟩, ⟨ds, ht.heap d1 (off _ l4), d2⟩, fun p hp => (h.maps p hp).keep ht fun hm => hM _ hm (h.in_map hp), h.inj, ?_⟩
  obtain ⟨L, v1, v2, v3⟩ := h.l.ex
  have ty : ∀ g T cs', x.heap[g]? = some (.cells cs' T (0, 0)) → (T = 3 ∨ T = 52 ∨ T = 67) → g ∉ F := fun g T cs' hg ho hm => by
    obtain ⟨n1, n2, n3⟩ := (hF g hm).2 _ _ hg
    rcases ho with e | e | e
    · exact n1 e
    · exact n2 e
    · exact n3 e
  refine ⟨L, v1.keep ht fun g hg => by obtain ⟨cs', e⟩ := v1.type hg; exact ty _ _ _ e (.inr (.inl rfl)), v2, fun i hi => ?_⟩
  obtain ⟨sa, sb', e1, e2, e3⟩ := v3 i hi
  exact ⟨sa, sb', e1, e2.keep ht fun g hg => by obtain ⟨cs', e⟩ := e2.type hg; exact ty _ _ _ e (.inl rfl), e3.keep ht fun g hg => by obtain ⟨cs', e⟩ := e3.type hg; exact ty _ _ _ e (.inr (.inr rfl))⟩
theorem MY.still {y : World} (h : MY tb sb ub nb uc nc m Ms W1 x nu ho lv D) (ht : Turned [] x y) : MY tb sb ub nb uc nc m Ms W1 y nu ho lv D := h.far ht (fun g hg => by cases hg) (fun g hg => by cases hg)
/-- The blocks of what was told lie behind W1. -/
theorem CpAt.off {B k : Nat} {x y : World} {lv : Value} {D : List Ev} {F : List Nat} (h : CpAt B x lv D k) (ht : Turned F x y) (hF : ∀ g ∈ F, g < B) : CpAt B y lv D k := by
  obtain ⟨L, v1, v2, v3⟩ := h.ex
  refine ⟨L, v1.keep ht fun g hg hm => by have := (v1.fresh hg).1; have := hF g hm; omega, v2, fun i hi => ?_⟩
  obtain ⟨sa, sb', e1, e2, e3⟩ := v3 i hi
  exact ⟨sa, sb', e1, e2.keep ht fun g hg hm => by have := (e2.fresh hg).1; have := hF g hm; omega, e3.keep ht fun g hg hm => by have := (e3.fresh hg).1; have := hF g hm; omega⟩
theorem MY.next {n : Int} (h : MY tb sb ub nb uc nc m Ms W1 x nu ho lv D) (hn : 0 < n) (hn2 : n ≤ 1000) : Calls Tryd.prog 28 #[.pointer (some ⟨tb, 0, none⟩), .int .i64 n] x fun r x' => ∃ q : Int, r = .returned (.int .i64 q) ∧ 0 ≤ q ∧ q < n ∧ MY tb sb ub nb uc nc m Ms W1 x' nu ho lv D ∧ Turned [tb] x x' := by
  obtain ⟨l1, l2, l3, l4⟩ := h.low
  obtain ⟨t, t0, t1, t2⟩ := h.tn
  obtain ⟨cs, c1, c2⟩ := h.nus
  obtain ⟨ds, d1, d2⟩ := h.row
  refine (cNext t2 ⟨t0, t1⟩ hn hn2).mono ?_
  rintro r x' ⟨q, t', rfl, q0, q1, h0, h1, h2, ht⟩
  refine ⟨q, rfl, q0, q1, ⟨h.tu.inner ht (by simp), h.low, ⟨t', h0, h1, h2⟩, ht.heap h.st (by simpa using tyne h.st t2 (by decide)), ⟨cs, ht.heap c1 (by simpa using tyne c1 t2 (by decide)), c2⟩, ⟨ds, ht.heap d1 (by simpa using tyne d1 t2 (by decide)), d2⟩, fun p hp => (h.maps p hp).keep ht (by simpa using (tyneM t2 (h.maps p hp)).symm), h.inj, h.l.off ht (by simpa using l1)⟩, ht⟩
/-- A number is written. -/
theorem MY.setnu (h : MY tb sb ub nb uc nc m Ms W1 x nu ho lv D) {p : Nat} (hp : p < m) (v : Int) : MY tb sb ub nb uc nc m Ms W1 (x.setCell ⟨ub, p, none⟩ (.int .i64 v)) (fun q => if q = p then v else nu q) ho lv D := by
  obtain ⟨l1, l2, l3, l4⟩ := h.low
  obtain ⟨t, t0, t1, t2⟩ := h.tn
  obtain ⟨cs, c1, c2⟩ := h.nus
  obtain ⟨ds, d1, d2⟩ := h.row
  have ht : Turned [ub] x (x.setCell ⟨ub, p, none⟩ (.int .i64 v)) := (Turned.refl [ub] x).set (.inl (by simp)) _ _
  refine ⟨h.tu.inner ht (by simp), h.low, ⟨t, t0, t1, ht.heap t2 (by simpa using tyne t2 c1 (by decide))⟩, ht.heap h.st (by simpa using tyne h.st c1 (by decide)), ⟨_, blk_set c1 p (.int .i64 v), fun q hq => ?_⟩, ⟨ds, ht.heap d1 (by simpa using tyne d1 c1 (by decide)), d2⟩, fun q hq => (h.maps q hq).keep ht (by simpa using (tyneM c1 (h.maps q hq)).symm), h.inj, h.l.off ht (by simpa using l3)⟩
  have hsz : p < cs.size := (Array.getElem?_eq_some_iff.1 (c2 p hp)).1
  rw [set_at hsz]
  by_cases e : q = p
  · subst e
    rw [if_pos rfl, if_pos rfl]
  · rw [if_neg (fun e2 => e e2.symm), if_neg e]
    exact c2 q hq
/-- A map is written. -/
theorem MY.setmap {y : World} {f : Hold} (h : MY tb sb ub nb uc nc m Ms W1 x nu ho lv D) {p : Nat} (hp : p < m) (ht : Turned [Ms.getD p 0] x y) (hM : HM y (Ms.getD p 0) f) : MY tb sb ub nb uc nc m Ms W1 y nu (fun q => if q = p then f else ho q) lv D := by
  obtain ⟨l1, l2, l3, l4⟩ := h.low
  obtain ⟨t, t0, t1, t2⟩ := h.tn
  obtain ⟨cs, c1, c2⟩ := h.nus
  obtain ⟨ds, d1, d2⟩ := h.row
  have off : ∀ g cs' T, x.heap[g]? = some (.cells cs' T (0, 0)) → g ∉ [Ms.getD p 0] := fun g cs' T hg => by simpa using tyneM hg (h.maps p hp)
  refine ⟨h.tu.inner ht fun g hg => .inl (by rw [List.mem_singleton.1 hg]; exact List.mem_cons_of_mem _ (List.mem_cons_of_mem _ (List.mem_cons_of_mem _ (h.in_map hp)))), h.low, ⟨t, t0, t1, ht.heap t2 (off _ _ _ t2)⟩, ht.heap h.st (off _ _ _ h.st), ⟨cs, ht.heap c1 (off _ _ _ c1), c2⟩, ⟨ds, ht.heap d1 (off _ _ _ d1), d2⟩, fun q hq => ?_, h.inj, ?_⟩
  · by_cases e : q = p
    · subst e
      rw [if_pos rfl]
      exact hM
    · rw [if_neg e]
      exact (h.maps q hq).keep ht (by simpa using fun e2 => e (h.same hq hp e2))
  · obtain ⟨L, v1, v2, v3⟩ := h.l.ex
    refine ⟨L, v1.keep ht fun g hg => by obtain ⟨cs', e⟩ := v1.type hg; exact off _ _ _ e, v2, fun i hi => ?_⟩
    obtain ⟨sa, sb', e1, e2, e3⟩ := v3 i hi
    exact ⟨sa, sb', e1, e2.keep ht fun g hg => by obtain ⟨cs', e⟩ := e2.type hg; exact off _ _ _ e, e3.keep ht fun g hg => by obtain ⟨cs', e⟩ := e3.type hg; exact off _ _ _ e⟩
/-- What loads read. -/
theorem MY.cells (h : MY tb sb ub nb uc nc m Ms W1 x nu ho lv D) : sb < x.heap.size ∧ x.cell? ⟨sb, 0, none⟩ = some (.slice (some ⟨nb, 0, none⟩) m nc) ∧ x.cell? ⟨sb, 1, none⟩ = some (.slice (some ⟨ub, 0, none⟩) m uc) ∧ x.cell? ⟨sb, 2, none⟩ = some lv ∧ x.frozen? ⟨sb, 2, none⟩ = false :=
  ⟨lt_of_heap h.st, by rw [cell_at h.st]; rfl, by rw [cell_at h.st]; rfl, by rw [cell_at h.st]; rfl, froz_at h.st 2⟩
theorem MY.cellu (h : MY tb sb ub nb uc nc m Ms W1 x nu ho lv D) {p : Nat} (hp : p < m) : ub < x.heap.size ∧ x.cell? ⟨ub, p, none⟩ = some (.int .i64 (nu p)) ∧ x.frozen? ⟨ub, p, none⟩ = false := by
  obtain ⟨cs, c1, c2⟩ := h.nus
  exact ⟨lt_of_heap c1, by rw [cell_at c1]; exact c2 p hp, froz_at c1 p⟩
theorem MY.celln (h : MY tb sb ub nb uc nc m Ms W1 x nu ho lv D) {p : Nat} (hp : p < m) : nb < x.heap.size ∧ x.cell? ⟨nb, p, none⟩ = some (.map (some (Ms.getD p 0))) := by
  obtain ⟨ds, d1, d2⟩ := h.row
  exact ⟨lt_of_heap d1, by rw [cell_at d1]; exact d2 p hp⟩
end
end Go.Proofs.YtbielnehggcaoaaDoor
