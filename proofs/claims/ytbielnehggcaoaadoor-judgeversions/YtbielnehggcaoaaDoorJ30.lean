/-
  Pairs that are lent, with room behind them; by contract. (By the verifier; no statement.)
-/
import Derived.Test.YtbielnehggcaoaaDoorJ29
import Derived.Test.YtbielnehggcaoaaDoorJ26
namespace Go.Proofs.YtbielnehggcaoaaDoor
open Go.RowKit
theorem run_mkPr (n : Nat) (h : n * 16 ≤ 140737488355328) (w : World) :
    (Instr.makeSlice 41 (.int .i64 0) (.int .i64 ((n : Int) + 2))).run Tryd.prog w = .ok (.slice (some ⟨w.heap.size, 0, none⟩) 0 (n + 2)) (w.alloc (.cells (madeCells #[.int .i64 0, .int .i64 0] ((n + 2) * 2)) 67 (0, 0))) := by
  obtain ⟨i, hi, hzz⟩ := Option.map_eq_some_iff.1 elP.info
  simp only [Prod.mk.injEq] at hzz
  obtain ⟨hz, hs, hb⟩ := hzz
  have hr := run_make (P := Tryd.prog) w 41 67 i _ (by kernel_rfl) hi hz .i64 .i64 0 ((n : Int) + 2) (by omega) (by omega) (by rw [hb]; omega) (by omega)
  simp only [show ((n : Int) + 2).toNat = n + 2 by omega, hs, Int.toNat_zero] at hr
  exact hr
/-- Pairs that were lent: the room behind them is marked. -/
structure LentP (w : World) (B g : Nat) (F : List (Int × Int)) : Prop where
  bk : ∃ cs, w.heap[g]? = some (.cells cs 67 (0, 0)) ∧ (∀ (i : Nat) (u : Value), (F.flatMap encP)[i]? = some u → cs[i]? = some u) ∧ cs[F.length * 2]? = some (.int .i64 (-4000)) ∧ cs[F.length * 2 + 1]? = some (.int .i64 0) ∧ cs[F.length * 2 + 2]? = some (.int .i64 (-4001)) ∧ cs[F.length * 2 + 3]? = some (.int .i64 0)
  le : B ≤ g
abbrev lentPV (g : Nat) (F : List (Int × Int)) : Value := .slice (some ⟨g, 0, none⟩) F.length (F.length + 2)
theorem LentP.keep {w w' : World} {B g : Nat} {F : List (Int × Int)} {l : List Nat} (h : LentP w B g F) (ht : Turned l w w') (hl : g ∉ l) : LentP w' B g F := by
  obtain ⟨cs, h1, h2⟩ := h.bk
  exact ⟨⟨cs, ht.heap h1 hl, h2⟩, h.le⟩
theorem LentP.view {w : World} {B g : Nat} {F : List (Int × Int)} (h : LentP w B g F) : VW encP w (lentPV g F) F := by
  obtain ⟨cs, h1, h2, _⟩ := h.bk
  exact ⟨_, _, rfl, (fun h => by cases h), fun _ => ⟨g, 0, rfl, fun i u hu => by rw [Nat.zero_add, cell_at h1]; exact h2 i u hu⟩⟩
theorem lentP_of {cs : Array Value} {F : List (Int × Int)} {w : World} {B g : Nat} (hg : w.heap[g]? = some (.cells cs 67 (0, 0))) (hs : cs.size = (F.length + 2) * 2) (hc : ∀ (i : Nat) (u : Value), (F.flatMap encP)[i]? = some u → cs[i]? = some u) (hB : B ≤ g) : LentP ((((w.setCell ⟨g, F.length * 2, none⟩ (.int .i64 (-4000))).setCell ⟨g, F.length * 2 + 1, none⟩ (.int .i64 0)).setCell ⟨g, F.length * 2 + 2, none⟩ (.int .i64 (-4001))).setCell ⟨g, F.length * 2 + 3, none⟩ (.int .i64 0)) B g F := by
  have k1 := blk_set hg (F.length * 2) (.int .i64 (-4000))
  have k2 := blk_set k1 (F.length * 2 + 1) (.int .i64 0)
  have k3 := blk_set k2 (F.length * 2 + 2) (.int .i64 (-4001))
  have k4 := blk_set k3 (F.length * 2 + 3) (.int .i64 0)
  have e : ∀ j, ((((cs.setIfInBounds (F.length * 2) (.int .i64 (-4000))).setIfInBounds (F.length * 2 + 1) (.int .i64 0)).setIfInBounds (F.length * 2 + 2) (.int .i64 (-4001))).setIfInBounds (F.length * 2 + 3) (.int .i64 0))[j]? = if F.length * 2 + 3 = j then some (Value.int .i64 0) else if F.length * 2 + 2 = j then some (.int .i64 (-4001)) else if F.length * 2 + 1 = j then some (.int .i64 0) else if F.length * 2 = j then some (.int .i64 (-4000)) else cs[j]? := fun j => by
    rw [set_at (by simp; omega), set_at (by simp; omega), set_at (by simp; omega), set_at (by omega)]
  refine ⟨⟨_, k4, fun i u hu => ?_, ?_, ?_, ?_, ?_⟩, hB⟩
  · have hi : i < F.length * 2 := by
      have := (List.getElem?_eq_some_iff.1 hu).1
      rwa [rowO_len enP] at this
    rw [e, if_neg (by omega), if_neg (by omega), if_neg (by omega), if_neg (by omega)]
    exact hc i u hu
  · rw [e, if_neg (by omega), if_neg (by omega), if_neg (by omega), if_pos rfl]
  · rw [e, if_neg (by omega), if_neg (by omega), if_pos rfl]
  · rw [e, if_neg (by omega), if_pos rfl]
  · rw [e, if_pos rfl]
set_option maxRecDepth 100000 in
set_option maxHeartbeats 3200000 in
theorem cLentP {w : World} {fv : Value} {F : List (Int × Int)} (hF : VW encP w fv F) (hn : F.length * 16 ≤ 140737488355328) : Calls Tryd.prog 19 #[fv] w fun r w' => ∃ g, r = .returned (lentPV g F) ∧ LentP w' w.heap.size g F ∧ Turned [] w w' := by
  have HF : Hid (VW encP w fv F) := hF
  obtain ⟨fa, fc, rfl, -, -⟩ := hF.ex
  clear hF
  have hmk := fun y => run_mkPr F.length hn y
  have hsz : (madeCells #[.int .i64 0, .int .i64 0] ((F.length + 2) * 2)).size = (F.length + 2) * 2 := by unfold madeCells; simp
  have HEnd : Hid (∀ w1 : World, Turned [] w w1 → w1.heap[w.heap.size]? = some (.cells (F.flatMap encP ++ (madeCells #[.int .i64 0, .int .i64 0] ((F.length + 2) * 2)).toList.drop (F.length * 2)).toArray 67 (0, 0)) → (∀ j, j < (F.length + 2) * 2 → ∃ v, w1.cell? ⟨w.heap.size, j, none⟩ = some v) ∧ (∀ j, w1.frozen? ⟨w.heap.size, j, none⟩ = false) ∧ w.heap.size < w1.heap.size ∧ LentP ((((w1.setCell ⟨w.heap.size, F.length * 2, none⟩ (.int .i64 (-4000))).setCell ⟨w.heap.size, F.length * 2 + 1, none⟩ (.int .i64 0)).setCell ⟨w.heap.size, F.length * 2 + 2, none⟩ (.int .i64 (-4001))).setCell ⟨w.heap.size, F.length * 2 + 3, none⟩ (.int .i64 0)) w.heap.size w.heap.size F ∧ Turned [] w ((((w1.setCell ⟨w.heap.size, F.length * 2, none⟩ (.int .i64 (-4000))).setCell ⟨w.heap.size, F.length * 2 + 1, none⟩ (.int .i64 0)).setCell ⟨w.heap.size, F.length * 2 + 2, none⟩ (.int .i64 (-4001))).setCell ⟨w.heap.size, F.length * 2 + 3, none⟩ (.int .i64 0))) := fun w1 ht h1 => by
    have hl : (F.flatMap encP ++ (madeCells #[.int .i64 0, .int .i64 0] ((F.length + 2) * 2)).toList.drop (F.length * 2)).toArray.size = (F.length + 2) * 2 := by
      have h2 : (madeCells #[.int .i64 0, .int .i64 0] ((F.length + 2) * 2)).toList.length = (F.length + 2) * 2 := by rw [Array.length_toList]; exact hsz
      rw [List.size_toArray, List.length_append, rowO_len enP, List.length_drop, h2]
      omega
    refine ⟨fun j hj => ⟨_, by rw [cell_at h1]; exact Array.getElem?_eq_getElem (by rw [hl]; exact hj)⟩, fun j => froz_at h1 j, lt_of_heap h1, lentP_of h1 hl (fun i u hu => ?_) (Nat.le_refl _), (((ht.set (.inr (Nat.le_refl _)) _ _).set (.inr (Nat.le_refl _)) _ _).set (.inr (Nat.le_refl _)) _ _).set (.inr (Nat.le_refl _)) _ _⟩
    have hi := (List.getElem?_eq_some_iff.1 hu).1
    rw [List.getElem?_toArray, List.getElem?_append_left hi]
    exact hu
  have hcm : F.length + 2 ≤ maxLen := by unfold maxLen; omega
  have hwr : IntKind.i64.wrap ((F.length : Int) + 2) = (F.length : Int) + 2 := by simp [IntKind.wrap, IntKind.bits, IntKind.signed]; omega
  have hwr2 : wrap64 ((F.length : Int) + 2) = (F.length : Int) + 2 := by unfold wrap64; omega
  go_enter Tryd.func19, Tryd.ntmps19
  go_upto_region 2 with (at_builtin; refine wpList_roomO elP enP (g := w.heap.size) (cap := F.length + 2) (cur := madeCells #[.int .i64 0, .int .i64 0] ((F.length + 2) * 2)) (u := .slice fa F.length fc) (M := F) rfl _ _ rfl rfl (blk_new _ _) hsz rfl (HF.out.still ((Turned.refl [] w).alloc _)) (by omega) hcm ?_; intro w2 ht2 hb2; have HE2 : Hid _ := HEnd.out w2 (((Turned.refl [] w).alloc _).inner ht2 (fun q hq => .inr (by rw [List.mem_singleton.1 hq]; exact Nat.le_refl _))) hb2; clear ht2 hb2)
  obtain ⟨e1, e2, e3, e4, e5⟩ := HE2.out
  have HL : Hid _ := e4
  have HT : Hid _ := e5
  obtain ⟨v0, c0⟩ := e1 (F.length * 2) (by omega)
  obtain ⟨v1, c1⟩ := e1 (F.length * 2 + 1) (by omega)
  obtain ⟨v2, c2⟩ := e1 (F.length * 2 + 2) (by omega)
  obtain ⟨v3, c3⟩ := e1 (F.length * 2 + 3) (by omega)
  clear e1 e4 e5 HE2 HEnd hmk hsz hcm HF
  generalize hgs : w.heap.size = g at *
  have HG : Hid (w.heap.size = g) := hgs
  clear hgs
  have q1 : (F.length + 1) * 2 = F.length * 2 + 2 := by omega
  have q2 : 2 + F.length = F.length + 2 := by omega
  go_wp2
  go_ret
  exact ⟨g, rfl, ⟨HL.out.bk, by rw [HG.out]; exact Nat.le_refl _⟩, HT.out⟩
theorem neqP (a b : Int) (w : World) : (binOp .neq 67 (.agg #[.int .i64 a, .int .i64 b]) (.agg #[.int .i64 a, .int .i64 b])).run Tryd.prog w = .ok (.bool false) w := by go_simp
theorem eqP (a b : Int) (w : World) : (binOp .eql 67 (.agg #[.int .i64 a, .int .i64 b]) (.agg #[.int .i64 a, .int .i64 b])).run Tryd.prog w = .ok (.bool true) w := by go_simp
/-- A pair of a list, cell by cell, wherever it stays. -/
theorem VW.pair {w : World} {a : Option Addr} {c : Nat} {l : List (Int × Int)} (h : VW encP w (.slice a l.length c) l) {k : Nat} (hk : k < l.length) : ∃ b o, a = some ⟨b, o, none⟩ ∧ ∀ y, Turned [] w y → b < y.heap.size ∧ y.cell? ⟨b, o + k * 2, none⟩ = some (.int .i64 (l.getD k (0, 0)).1) ∧ y.cell? ⟨b, o + k * 2 + 1, none⟩ = some (.int .i64 (l.getD k (0, 0)).2) := by
  obtain ⟨b, o, c', e, hb, hc⟩ := h.get enP (by decide) hk
  simp only [Value.slice.injEq] at e
  have e2 : l.getD k (0, 0) = l[k] := by simp [hk]
  rw [e2]
  refine ⟨b, o, e.1, fun y hy => ?_⟩
  have c0 := hy.cell (hc 0 _ rfl) (by simp)
  have c1 := hy.cell (hc 1 _ rfl) (by simp)
  exact ⟨World.block_lt_of_cell? _ _ c0, c0, by rw [Nat.add_assoc]; exact c1⟩
set_option maxRecDepth 100000 in
set_option maxHeartbeats 3200000 in
theorem cStayP {w : World} {B g : Nat} {fv : Value} {F : List (Int × Int)} (hL : LentP w B g F) (hF : VW encP w fv F) (hn : F.length ≤ 140737488355328) : Calls Tryd.prog 25 #[lentPV g F, fv] w fun r w' => r = .returned (.bool true) ∧ ∃ n, w' = w.drewN n := by
  have HF : Hid (VW encP w fv F) := hF
  have HG : Hid (VW encP w (lentPV g F) F) := hL.view
  obtain ⟨fa, fc, rfl, -, -⟩ := hF.ex
  obtain ⟨cs, h1, -, h2, h3, h4, h5⟩ := hL.bk
  have HR : Hid (∀ q, g < (w.drewN q).heap.size ∧ (w.drewN q).cell? ⟨g, F.length * 2, none⟩ = some (.int .i64 (-4000)) ∧ (w.drewN q).cell? ⟨g, F.length * 2 + 1, none⟩ = some (.int .i64 0) ∧ (w.drewN q).cell? ⟨g, F.length * 2 + 2, none⟩ = some (.int .i64 (-4001)) ∧ (w.drewN q).cell? ⟨g, F.length * 2 + 3, none⟩ = some (.int .i64 0)) := fun q => by
    have k1 : (w.drewN q).heap[g]? = some (.cells cs 67 (0, 0)) := h1
    exact ⟨lt_of_heap k1, by rw [cell_at k1]; exact h2, by rw [cell_at k1]; exact h3, by rw [cell_at k1]; exact h4, by rw [cell_at k1]; exact h5⟩
  have hwr2 : wrap64 ((F.length : Int) + 2) = (F.length : Int) + 2 := by unfold wrap64; omega
  have hwr : IntKind.i64.wrap ((F.length : Int) + 2) = (F.length : Int) + 2 := by simp [IntKind.wrap, IntKind.bits, IntKind.signed]; omega
  clear hL hF h1 h2 h3 h4 h5
  go_enter Tryd.func25, Tryd.ntmps25
  go_wp2
  go_loopw [5] (fun i wx => ∃ k : Nat, k ≤ F.length ∧ i = .int .i64 k ∧ Hid (∃ q, wx = w.drewN q)) (fun i _ => F.length - (intOf i).toNat)
  case atStart => exact ⟨0, Nat.zero_le _, rfl, ⟨0, rfl⟩⟩
  case round =>
    obtain ⟨k, hk, rfl, HW⟩ := hrel
    obtain ⟨q, hq⟩ := HW.out
    have HQ : Hid (wr = w.drewN q) := hq
    by_cases hlt : k < F.length
    · obtain ⟨b, o, e, hz⟩ := HG.out.pair hlt
      obtain ⟨b', o', rfl, hz'⟩ := HF.out.pair hlt
      simp only [Option.some.injEq, Addr.mk.injEq] at e
      obtain ⟨rfl, rfl, -⟩ := e
      obtain ⟨q1, q2, q3⟩ := hz wr (by rw [hq]; exact (Turned.refl [] w).drewN q)
      obtain ⟨r1, r2, r3⟩ := hz' wr (by rw [hq]; exact (Turned.refl [] w).drewN q)
      rw [Nat.zero_add] at q2 q3
      have hne := neqP (F.getD k (0, 0)).1 (F.getD k (0, 0)).2
      clear hz hz' hq
      generalize (F.getD k (0, 0)).1 = x1 at *
      generalize (F.getD k (0, 0)).2 = x2 at *
      go_wp2
      go_quiet (fail)
      go_wp2
      go_roundw
      case rel => exact ⟨k + 1, by omega, by go_num, ⟨_, by rw [HQ.out, World.drewN_drewN]⟩⟩
      case measure => simp [intOf]; omega
    · obtain rfl : k = F.length := by omega
      obtain ⟨m1, m2, m3, m4, m5⟩ := HR.out q
      rw [← hq] at m1 m2 m3 m4 m5
      have he1 := eqP (-4000) 0
      have he2 := eqP (-4001) 0
      clear hq
      go_wp2
      go_ret
      exact ⟨rfl, q, HQ.out⟩
end Go.Proofs.YtbielnehggcaoaaDoor
/-
  Two equal lists of pairs: the law's own look, by contract. (By the verifier; no statement.)
-/
namespace Go.Proofs.YtbielnehggcaoaaDoor
open Go.RowKit
set_option maxRecDepth 100000 in
set_option maxHeartbeats 3200000 in
theorem cSameP {w : World} {gv fv : Value} {F : List (Int × Int)} (hG : VW encP w gv F) (hF : VW encP w fv F) (hn : F.length ≤ 140737488355328) : Calls Tryd.prog 42 #[gv, fv] w fun r w' => r = .returned (.bool true) ∧ ∃ n, w' = w.drewN n := by
  obtain ⟨fa, fc, rfl, -, -⟩ := hF.ex
  obtain ⟨ga, gc, rfl, -, -⟩ := hG.ex
  have HF : Hid (VW encP w (.slice fa F.length fc) F) := hF
  have HG : Hid (VW encP w (.slice ga F.length gc) F) := hG
  have hll : ((F.length : Int) != (F.length : Int)) = false := by simp
  clear hG hF
  go_enter Tryd.func42, Tryd.ntmps42
  go_wp2
  go_loopw [5] (fun i wx => ∃ k : Nat, k ≤ F.length ∧ i = .int .i64 k ∧ Hid (∃ q, wx = w.drewN q)) (fun i _ => F.length - (intOf i).toNat)
  case atStart => exact ⟨0, Nat.zero_le _, rfl, ⟨0, rfl⟩⟩
  case round =>
    obtain ⟨k, hk, rfl, HW⟩ := hrel
    obtain ⟨q, hq⟩ := HW.out
    have HQ : Hid (wr = w.drewN q) := hq
    by_cases hlt : k < F.length
    · obtain ⟨b, o, rfl, hz⟩ := HG.out.pair hlt
      obtain ⟨b', o', rfl, hz'⟩ := HF.out.pair hlt
      obtain ⟨q1, q2, q3⟩ := hz wr (by rw [hq]; exact (Turned.refl [] w).drewN q)
      obtain ⟨r1, r2, r3⟩ := hz' wr (by rw [hq]; exact (Turned.refl [] w).drewN q)
      have hne := neqP (F.getD k (0, 0)).1 (F.getD k (0, 0)).2
      clear hz hz' hq
      generalize (F.getD k (0, 0)).1 = x1 at *
      generalize (F.getD k (0, 0)).2 = x2 at *
      go_wp2
      go_quiet (fail)
      go_wp2
      go_roundw
      case rel => exact ⟨k + 1, by omega, by go_num, ⟨_, by rw [HQ.out, World.drewN_drewN]⟩⟩
      case measure => simp [intOf]; omega
    · obtain rfl : k = F.length := by omega
      clear hq
      go_wp2
      go_ret
      exact ⟨rfl, q, HQ.out⟩
end Go.Proofs.YtbielnehggcaoaaDoor
/-
  An insertion sort by With and Why. (By the verifier; no statement, no memory.)
-/
namespace Go.Proofs.YtbielnehggcaoaaDoor
open Go.RowKit
/-- By With and Why. -/
def ltWy (x y : Bm) : Prop := x.2.1 < y.2.1 ∨ (x.2.1 = y.2.1 ∧ x.2.2 < y.2.2)
theorem ltWy_trans' {x y z : Bm} (h1 : ¬ ltWy y x) (h2 : ¬ ltWy z y) : ¬ ltWy z x := by
  unfold ltWy at *
  omega
theorem ltWy_asymm {x y : Bm} (h : ltWy x y) : ¬ ltWy y x := by
  unfold ltWy at *
  omega
abbrev leWy (x y : Bm) : Prop := ¬ ltWy y x
/-- In the midst of the insertion: what stands, what is laid, what has given way. -/
structure Ins (O0 : List Bm) (f i k : Nat) (O : List Bm) : Prop where
  len : O.length = O0.length
  ik : f ≤ k ∧ k ≤ i ∧ i < O0.length
  ex : ∃ (A : List Bm) (z : Bm) (C R : List Bm), O = O0.take f ++ (A ++ (z :: C) ++ R) ∧ A.length = k - f ∧ C.length = i - k ∧ R = O0.drop (i + 1) ∧ (A ++ C).Pairwise leWy ∧ (∀ c, c ∈ C → ltWy z c) ∧ (A ++ (z :: C) ++ R).Perm (O0.drop f)
/-- Behind i rounds. -/
structure Srt (O0 : List Bm) (f i : Nat) (O : List Bm) : Prop where
  len : O.length = O0.length
  ex : ∃ A : List Bm, O = O0.take f ++ (A ++ O0.drop i) ∧ A.Pairwise leWy ∧ A.length = i - f ∧ (A ++ O0.drop i).Perm (O0.drop f)
theorem Srt.start {O0 : List Bm} {f i : Nat} (hf : f ≤ O0.length) (hi : i = f ∨ i = f + 1) : Srt O0 f (min i O0.length) O0 := by
  rcases Nat.lt_or_ge f O0.length with h | h
  · rcases hi with rfl | rfl
    · rw [Nat.min_eq_left (by omega)]
      exact ⟨rfl, [], by simp, List.Pairwise.nil, by simp, by simp⟩
    · rw [Nat.min_eq_left (by omega)]
      refine ⟨rfl, [O0[f]], ?_, List.pairwise_singleton _ _, by simp, ?_⟩
      · rw [List.singleton_append, ← List.drop_eq_getElem_cons h, List.take_append_drop]
      · rw [List.singleton_append, ← List.drop_eq_getElem_cons h]
  · rw [Nat.min_eq_right (by omega)]
    have e : f = O0.length := by omega
    subst e
    exact ⟨rfl, [], by simp, List.Pairwise.nil, by simp, by simp⟩
theorem Srt.ins {O0 O : List Bm} {f i : Nat} (h : Srt O0 f i O) (hf : f ≤ i) (hi : i < O0.length) : Ins O0 f i i O := by
  obtain ⟨A, h1, h2, h3, h4⟩ := h.ex
  refine ⟨h.len, ⟨hf, Nat.le_refl _, hi⟩, A, O0[i], [], O0.drop (i + 1), ?_, h3, by simp, rfl, by simpa using h2, by simp, ?_⟩
  · rw [h1, List.drop_eq_getElem_cons hi, List.append_assoc, List.singleton_append]
  · rw [List.drop_eq_getElem_cons hi] at h4
    rw [List.append_assoc, List.singleton_append]
    exact h4
theorem Ins.done {O0 O : List Bm} {f i k : Nat} (h : Ins O0 f i k O) (hk : k = f ∨ leWy (O.getD (k - 1) (0, 0, 0)) (O.getD k (0, 0, 0))) : Srt O0 f (i + 1) O := by
  obtain ⟨A, z, C, R, h1, h2, h3, h4, h5, h6, h7⟩ := h.ex
  have hik := h.ik
  have hl := h.len
  subst h4
  refine ⟨h.len, A ++ z :: C, h1, ?_, by simp; omega, h7⟩
  rw [List.pairwise_append] at h5 ⊢
  obtain ⟨p1, p2, p3⟩ := h5
  have hAz : ∀ a, a ∈ A → leWy a z := by
    rcases hk with hk | hk
    · have : A = [] := List.length_eq_zero_iff.1 (by omega)
      subst this
      intro a ha; cases ha
    · rcases A.eq_nil_or_concat with rfl | ⟨A', y, rfl⟩
      · intro a ha; cases ha
      · have hc : A'.length + 1 = k - f := by simpa using h2
        have hf' : (O0.take f).length = f := by rw [List.length_take]; omega
        have e2 : O.getD (k - 1) (0, 0, 0) = y := by
          rw [h1, List.getD_eq_getElem?_getD, List.getElem?_append_right (by omega)]
          simp only [List.append_assoc, List.length_append, List.length_singleton, List.length_take, List.concat_eq_append, List.singleton_append] at h2 ⊢
          rw [List.getElem?_append_right (by omega), show k - 1 - min f O0.length - A'.length = 0 by omega]
          rfl
        have e3 : O.getD k (0, 0, 0) = z := by
          rw [h1, List.getD_eq_getElem?_getD, List.getElem?_append_right (by omega)]
          simp only [List.append_assoc, List.length_append, List.length_singleton, List.length_take, List.concat_eq_append, List.cons_append] at h2 ⊢
          rw [List.getElem?_append_right (by omega), show k - min f O0.length - A'.length = 1 by omega]
          rfl
        rw [e2, e3] at hk
        intro a ha
        rcases List.mem_append.1 (by simpa using ha : a ∈ A' ++ [y]) with ha | ha
        · simp only [List.concat_eq_append, List.pairwise_append] at p1
          exact ltWy_trans' (p1.2.2 a ha y (by simp)) hk
        · rw [List.mem_singleton.1 ha]; exact hk
  refine ⟨p1, ?_, ?_⟩
  · rw [List.pairwise_cons]
    exact ⟨fun c hc => ltWy_asymm (h6 c hc), p2⟩
  · intro a ha b hb
    rcases List.mem_cons.1 hb with rfl | hb
    · exact hAz a ha
    · exact p3 a ha b hb
theorem Ins.swap {O0 O : List Bm} {f i k : Nat} (h : Ins O0 f i k O) (hk : f < k) (hg : ltWy (O.getD k (0, 0, 0)) (O.getD (k - 1) (0, 0, 0))) : Ins O0 f i (k - 1) ((O.set (k - 1) (O.getD k (0, 0, 0))).set k (O.getD (k - 1) (0, 0, 0))) := by
  obtain ⟨A, z, C, R, h1, h2, h3, h4, h5, h6, h7⟩ := h.ex
  have hik := h.ik
  have hl := h.len
  rcases A.eq_nil_or_concat with rfl | ⟨A', y, rfl⟩
  · simp at h2; omega
  simp only [List.concat_eq_append] at h1 h2 h5 h7
  have hA' : A'.length = k - 1 - f := by simp at h2; omega
  have hP : (O0.take f ++ A').length = k - 1 := by rw [List.length_append, List.length_take, hA']; omega
  have hO : O = (O0.take f ++ A') ++ y :: z :: (C ++ R) := by rw [h1]; simp
  have e2 : O.getD (k - 1) (0, 0, 0) = y := by
    rw [hO, List.getD_eq_getElem?_getD, List.getElem?_append_right (by omega), hP, Nat.sub_self]; rfl
  have e3 : O.getD k (0, 0, 0) = z := by
    rw [hO, List.getD_eq_getElem?_getD, List.getElem?_append_right (by omega), hP, show k - (k - 1) = 1 by omega]; rfl
  rw [e2, e3] at hg ⊢
  have e4 : (O.set (k - 1) z).set k y = (O0.take f ++ A') ++ z :: y :: (C ++ R) := by
    rw [hO, List.set_append_right _ _ (by omega), hP, Nat.sub_self, List.set_cons_zero, List.set_append_right _ _ (by omega), hP, show k - (k - 1) = 1 by omega, List.set_cons_succ, List.set_cons_zero]
  refine ⟨by simp [hl], ⟨by omega, by omega, hik.2.2⟩, A', z, y :: C, R, by rw [e4]; simp, hA', by simp; omega, h4, by simpa using h5, ?_, ?_⟩
  · intro c hc
    rcases List.mem_cons.1 hc with rfl | hc
    · exact hg
    · exact h6 c hc
  · refine List.Perm.trans ?_ h7
    simp only [List.append_assoc, List.cons_append]
    exact (List.Perm.swap _ _ _).append_left _
theorem Srt.fin {O0 O : List Bm} {f i : Nat} (h : Srt O0 f i O) (hi : O0.length ≤ i) : O.take f = O0.take f ∧ (O.drop f).Perm (O0.drop f) ∧ (O.drop f).Pairwise leWy := by
  obtain ⟨A, h1, h2, h3, h4⟩ := h.ex
  rw [List.drop_eq_nil_of_le (by omega : O0.length ≤ i), List.append_nil] at h1 h4
  rcases Nat.lt_or_ge O0.length f with hf | hf
  · rw [List.take_of_length_le (by omega)] at h1
    rw [List.drop_eq_nil_of_le (by omega)] at h4
    have hA : A = [] := List.perm_nil.1 h4
    subst hA
    rw [List.append_nil] at h1
    subst h1
    rw [List.drop_eq_nil_of_le (by omega)]
    exact ⟨rfl, .refl _, .nil⟩
  · have hl : (O0.take f).length = f := by rw [List.length_take]; omega
    have e1 : O.drop f = A := by rw [h1, List.drop_append, List.drop_eq_nil_of_le (by omega), hl, Nat.sub_self]; rfl
    have e2 : O.take f = O0.take f := by rw [h1, List.take_append, List.take_of_length_le (by omega), hl, Nat.sub_self]; simp
    rw [e1, e2]
    exact ⟨rfl, h4, h2⟩
end Go.Proofs.YtbielnehggcaoaaDoor
/-
  The blames in the order of the document's own walk. (By the verifier; no statement, no memory.)
-/
namespace Go.Proofs.YtbielnehggcaoaaDoor
open Go.RowKit
/-- What is blamed of one event, in the order of the document's own walk. -/
def pairL (m : Int) (D : List Ev) (i k : Nat) : List Bm := (List.range k).flatMap fun j => if j ≠ i ∧ endB m (eAt D j) = true then cmpL D i j else []
def selfL (S : List (List (Int × Int))) (D : List Ev) (i : Nat) : List Bm :=
  if (eAt D i).good S.length then (if endB S.length (eAt D i) then (if untoldB S.length D (lastF S D) i then [((i : Int), -1, 3)] else []) ++ fourL S D i else []) else [((i : Int), -1, 1)]
def xL (S : List (List (Int × Int))) (D : List Ev) (i : Nat) : List Bm := selfL S D i ++ (if endB S.length (eAt D i) then pairL S.length D i D.length else [])
theorem pairL_succ (m : Int) (D : List Ev) (i k : Nat) : pairL m D i (k + 1) = pairL m D i k ++ (if k ≠ i ∧ endB m (eAt D k) = true then cmpL D i k else []) := by
  unfold pairL
  rw [List.range_succ, List.flatMap_append, List.flatMap_cons, List.flatMap_nil, List.append_nil]
theorem wasA_self {e : Ev} {m : Int} (h : e.good m = true) : wasA e.e e.b = false := by
  unfold Ev.good at h
  simp only [Bool.and_eq_true] at h
  obtain ⟨⟨⟨⟨_, _⟩, h3⟩, _⟩, _⟩ := h
  unfold timeB at h3
  unfold wasA
  simp only [Bool.and_eq_true, Bool.or_eq_true, decide_eq_true_eq, Bool.and_eq_false_iff, decide_eq_false_iff_not] at *
  omega
theorem cmpL_self {D : List Ev} {m : Int} {i : Nat} (h : (eAt D i).good m = true) : cmpL D i i = [] := by
  unfold cmpL
  rw [wasA_self h, decide_eq_false (Nat.lt_irrefl i)]
  rfl
theorem pairL_all {D : List Ev} {m : Int} {i : Nat} (h : (eAt D i).good m = true) : pairL m D i D.length = (endL m D D.length).flatMap (cmpL D i) := by
  unfold pairL endL
  rw [flat_if]
  refine flat_congr _ fun j _ => ?_
  by_cases e : j = i
  · subst e
    rw [if_neg (by simp), cmpL_self h]
    split <;> rfl
  · cases hj : endB m (eAt D j)
    · rw [if_neg (by simp)]; rfl
    · rw [if_pos ⟨e, rfl⟩]; rfl
theorem endX_good {m : Int} {e : Ev} (h : endB m e = true) : e.good m = true := by
  unfold endB at h
  rw [Bool.and_eq_true] at h
  exact h.1
theorem xL_perm (S : List (List (Int × Int))) (D : List Ev) (i : Nat) : (xL S D i).Perm (refL S D i) := by
  unfold xL refL selfL
  cases hg : (eAt D i).good S.length with
  | false =>
    have he : endB S.length (eAt D i) = false := by
      cases h : endB S.length (eAt D i) with
      | false => rfl
      | true => rw [endX_good h] at hg; cases hg
    rw [he]
    exact .refl _
  | true =>
    cases he : endB S.length (eAt D i) with
    | false => exact .refl _
    | true =>
      simp only [if_true]
      rw [pairL_all hg]
      unfold eachL
      simp only [List.nil_append]
      rw [← List.append_assoc]
      exact List.perm_append_comm.append_right _
theorem cmpL_len4 (D : List Ev) (i j : Nat) : (cmpL D i j).length ≤ 4 := by
  unfold cmpL
  simp only [List.length_append]
  split <;> split <;> split <;> split <;> simp
theorem pairL_len (m : Int) (D : List Ev) (i : Nat) : ∀ k, (pairL m D i k).length ≤ 4 * k
  | 0 => Nat.le_refl _
  | k + 1 => by
    have := pairL_len m D i k
    have h2 := cmpL_len4 D i k
    rw [pairL_succ, List.length_append]
    split
    · omega
    · simp; omega
theorem selfL_len (S : List (List (Int × Int))) (D : List Ev) (i : Nat) : (selfL S D i).length ≤ 2 := by
  unfold selfL fourL
  split
  · split
    · rw [List.length_append]
      split <;> split <;> simp
    · simp
  · simp
theorem refL_at {S : List (List (Int × Int))} {D : List Ev} {i : Nat} {x : Bm} (h : x ∈ refL S D i) : x.1 = i := by
  unfold refL fourL eachL at h
  simp only [List.mem_append] at h
  rcases h with h | h | h
  · split at h
    · cases h
    · rw [List.mem_singleton.1 h]
  · split at h
    · split at h
      · rw [List.mem_singleton.1 h]
      · cases h
    · cases h
  · split at h
    · rcases List.mem_append.1 h with h | h
      · split at h
        · rw [List.mem_singleton.1 h]
        · cases h
      · obtain ⟨j, _, hx⟩ := List.mem_flatMap.1 h
        exact (mem_cmp hx).1
    · cases h
/-- The blames of the first i events, in their order. -/
structure VO (S : List (List (Int × Int))) (D : List Ev) (i : Nat) (O : List Bm) : Prop where
  pm : O.Perm ((List.range i).flatMap (refL S D))
  so : O.Pairwise fun x y => ¬ ltBm y x
theorem VO.start (S : List (List (Int × Int))) (D : List Ev) : VO S D 0 [] := ⟨.refl _, .nil⟩
theorem VO.lt {S : List (List (Int × Int))} {D : List Ev} {i : Nat} {O : List Bm} (h : VO S D i O) {x : Bm} (hx : x ∈ O) : x.1 < (i : Int) := by
  obtain ⟨j, hj, hm⟩ := List.mem_flatMap.1 (h.pm.mem_iff.1 hx)
  rw [refL_at hm]
  have := List.mem_range.1 hj
  omega
theorem VO.next {S : List (List (Int × Int))} {D : List Ev} {i : Nat} {O O' : List Bm} (h : VO S D i O) (h1 : O'.take O.length = O) (h2 : (O'.drop O.length).Perm (xL S D i)) (h3 : (O'.drop O.length).Pairwise leWy) : VO S D (i + 1) O' := by
  have e : O' = O ++ O'.drop O.length := by
    conv => lhs; rw [← List.take_append_drop O.length O', h1]
  have hat : ∀ b, b ∈ O'.drop O.length → b.1 = (i : Int) := fun b hb => refL_at ((h2.trans (xL_perm S D i)).mem_iff.1 hb)
  generalize O'.drop O.length = X at e h2 h3 hat
  subst e
  refine ⟨?_, ?_⟩
  · rw [List.range_succ, List.flatMap_append, List.flatMap_cons, List.flatMap_nil, List.append_nil]
    exact h.pm.append (h2.trans (xL_perm S D i))
  · rw [List.pairwise_append]
    refine ⟨h.so, ?_, fun a ha b hb => ?_⟩
    · refine List.Pairwise.imp_of_mem ?_ h3
      intro a b ha hb hab
      have h4 := hat a ha
      have h5 := hat b hb
      unfold leWy ltWy at hab
      unfold ltBm
      omega
    · have h4 := h.lt ha
      have h5 := hat b hb
      unfold ltBm
      omega
theorem VO.len {S : List (List (Int × Int))} {D : List Ev} {i : Nat} {O : List Bm} (h : VO S D i O) (hi : i ≤ D.length) (hD : D.length ≤ 1024) (h64 : S.length ≤ 64) : O.length ≤ 1000000000 := by
  have h1 := h.pm.length_eq
  have h2 := (ref_perm S D).length_eq
  have h3 := allBm_len (S := S) (D := D) hD h64
  obtain ⟨k, hk⟩ : ∃ k, D.length = i + k := ⟨D.length - i, by omega⟩
  rw [hk, List.range_add, List.flatMap_append, List.length_append] at h2
  omega
theorem VO.fin {S : List (List (Int × Int))} {D : List Ev} {O R : List Bm} (h : VO S D D.length O) (h1 : R.Perm (allBm S D)) (h2 : R.Pairwise fun x y => ¬ ltBm y x) : R = O :=
  sorted_one (h1.trans ((h.pm.trans (ref_perm S D)).symm)) h2 h.so
end Go.Proofs.YtbielnehggcaoaaDoor
/-
  A version without a key, as the document makes it; by contract. (By the verifier; no statement.)
-/
namespace Go.Proofs.YtbielnehggcaoaaDoor
open Go.RowKit
def noKey (key : Int) (l : List (Int × Int)) : List (Int × Int) := l.filter fun p => decide (p.1 ≠ key)
/-- A list of pairs in the making, in a cell of its own. -/
structure MkP (w : World) (ob : Nat) (T : TypeId) (R : List (Int × Int)) (x : World) : Prop where
  tu : Turned [] w x
  le : w.heap.size ≤ ob
  ex : ∃ v, x.heap[ob]? = some (.cells #[v] T (0, 0)) ∧ OW 67 2 encP w.heap.size x v R
theorem MkP.still {w x y : World} {ob : Nat} {T : TypeId} {R : List (Int × Int)} (h : MkP w ob T R x) (ht : Turned [] x y) : MkP w ob T R y := by
  obtain ⟨v, h1, h2⟩ := h.ex
  exact ⟨h.tu.trans ht, h.le, v, ht.heap h1 (by simp), h2.still ht⟩
/-- One more pair: what the append and the store leave. -/
theorem MkP.push {w x y z : World} {ob : Nat} {T : TypeId} {R : List (Int × Int)} {q : Int × Int} {v v2 : Value} (hT : T ≠ 67) (h : MkP w ob T R x) (hv : x.heap[ob]? = some (.cells #[v] T (0, 0))) (hxy : Turned [] x y) (hO : OW 67 2 encP w.heap.size y v R) (ht : Turned v.ownBlock.toList y z) (ho : OW 67 2 encP w.heap.size z v2 (R ++ [q])) : ob < z.heap.size ∧ z.cell? ⟨ob, 0, none⟩ = some v ∧ z.frozen? ⟨ob, 0, none⟩ = false ∧ MkP w ob T (R ++ [q]) (z.setCell ⟨ob, 0, none⟩ v2) := by
  have h1 := hxy.heap hv (by simp)
  have hne : ob ∉ v.ownBlock.toList := fun hm => by
    simp only [Option.mem_toList] at hm
    obtain ⟨cs, h2⟩ := hO.type hm
    exact tyne h1 h2 hT rfl
  have h3 := ht.heap h1 hne
  refine ⟨lt_of_heap h3, by rw [cell_at h3]; rfl, froz_at h3 0, ?_, h.le, v2, ?_, ?_⟩
  · exact ((h.tu.trans hxy).inner ht (fun g hg => .inr (by simp only [Option.mem_toList] at hg; exact (hO.fresh hg).1))).set (.inr h.le) _ _
  · have := blk_set h3 0 v2
    simpa using this
  · refine ho.keep ((Turned.refl [ob] z).set (by simp) _ _) fun g hg hm => ?_
    obtain ⟨cs, h4⟩ := ho.type hg
    rw [List.mem_singleton.1 hm] at h4
    exact tyne h3 h4 hT rfl
end Go.Proofs.YtbielnehggcaoaaDoor
/-
  A version without a key, as the document makes it; by contract: its walk. (By the verifier; no statement.)
-/
namespace Go.Proofs.YtbielnehggcaoaaDoor
open Go.RowKit
theorem noKey_take {key : Int} {l : List (Int × Int)} {k : Nat} (h : k < l.length) : noKey key (l.take (k + 1)) = noKey key (l.take k) ++ (if l[k].1 = key then [] else [l[k]]) := by
  unfold noKey
  rw [List.take_add_one, List.getElem?_eq_getElem h, Option.toList_some, List.filter_append]
  congr 1
  by_cases e : l[k].1 = key <;> simp [e]
/-- The two other cells of the function stay. -/
structure Wo (w : World) (sb rb ob : Nat) (sv : Value) (R : List (Int × Int)) (x : World) : Prop where
  mp : MkP w ob 118 R x
  s : x.heap[sb]? = some (.cells #[sv] 118 (0, 0))
  r : x.heap[rb]? = some (.cells #[.slice none 0 0] 118 (0, 0))
  ne : sb ≠ ob ∧ rb ≠ ob ∧ w.heap.size ≤ rb
theorem Wo.still {w x y : World} {sb rb ob : Nat} {sv : Value} {R : List (Int × Int)} (h : Wo w sb rb ob sv R x) (ht : Turned [] x y) : Wo w sb rb ob sv R y := ⟨h.mp.still ht, ht.heap h.s (by simp), ht.heap h.r (by simp), h.ne⟩
theorem Wo.push {w x y z : World} {sb rb ob : Nat} {sv : Value} {R : List (Int × Int)} {q : Int × Int} {v v2 : Value} (h : Wo w sb rb ob sv R x) (hv : x.heap[ob]? = some (.cells #[v] 118 (0, 0))) (hxy : Turned [] x y) (hO : OW 67 2 encP w.heap.size y v R) (ht : Turned v.ownBlock.toList y z) (ho : OW 67 2 encP w.heap.size z v2 (R ++ [q])) : ob < z.heap.size ∧ z.cell? ⟨ob, 0, none⟩ = some v ∧ z.frozen? ⟨ob, 0, none⟩ = false ∧ Wo w sb rb ob sv (R ++ [q]) (z.setCell ⟨ob, 0, none⟩ v2) := by
  obtain ⟨p1, p2, p3, p4⟩ := h.mp.push (by decide) hv hxy hO ht ho
  have hk : ∀ b cs, b ≠ ob → x.heap[b]? = some (.cells cs 118 (0, 0)) → (z.setCell ⟨ob, 0, none⟩ v2).heap[b]? = some (.cells cs 118 (0, 0)) := fun b cs hb hx => by
    have h1 := hxy.heap hx (by simp)
    have h2 := ht.heap h1 (fun hm => by
      simp only [Option.mem_toList] at hm
      obtain ⟨cs', h3⟩ := hO.type hm
      exact tyne h1 h3 (by decide) rfl)
    exact ((Turned.refl [ob] z).set (by simp) _ _).heap h2 (by simpa using hb)
  exact ⟨p1, p2, p3, p4, hk sb _ h.ne.1 h.s, hk rb _ h.ne.2.1 h.r, h.ne⟩
set_option maxRecDepth 100000 in
set_option maxHeartbeats 6400000 in
theorem cWithout {w : World} {a : Option Addr} {c : Nat} {l : List (Int × Int)} {key : Int} (hV : VW encP w (.slice a l.length c) l) (hn : l.length ≤ 1000000000) : Calls Tryd.prog 72 #[.agg #[.slice a l.length c], .int .i64 key] w fun r w' => (∃ v, r = .returned (.agg #[v]) ∧ OW 67 2 encP w.heap.size w' v (noKey key l)) ∧ Turned [] w w' := by
  have HV : Hid (∀ k, k < l.length → ∃ b o, a = some ⟨b, o, none⟩ ∧ ∀ y, Turned [] w y → b < y.heap.size ∧ y.cell? ⟨b, o + k * 2, none⟩ = some (.int .i64 (l.getD k (0, 0)).1) ∧ y.cell? ⟨b, o + k * 2 + 1, none⟩ = some (.int .i64 (l.getD k (0, 0)).2)) := fun k hk => by
    obtain ⟨b, o, c', e, hb, hc⟩ := hV.get enP (by decide) hk
    simp only [Value.slice.injEq] at e
    have e2 : l.getD k (0, 0) = l[k] := by simp [hk]
    rw [e2]
    refine ⟨b, o, e.1, fun y hy => ?_⟩
    have c0 := hy.cell (hc 0 _ rfl) (by simp)
    have c1 := hy.cell (hc 1 _ rfl) (by simp)
    exact ⟨World.block_lt_of_cell? _ _ c0, c0, by rw [Nat.add_assoc]; exact c1⟩
  have HT : Hid (∀ k, k < l.length → noKey key (l.take (k + 1)) = noKey key (l.take k) ++ (if (l.getD k (0, 0)).1 = key then [] else [((l.getD k (0, 0)).1, (l.getD k (0, 0)).2)])) := fun k hk => by
    rw [noKey_take hk]
    simp [hk]
  have HLn : Hid (∀ k, (noKey key (l.take k)).length ≤ 1000000000) := fun k => Nat.le_trans (List.length_filter_le _ _) (by rw [List.length_take]; omega)
  have HL : Hid (noKey key (l.take l.length) = noKey key l) := by rw [Hid, List.take_length]
  clear hV
  go_enter Tryd.func72, Tryd.ntmps72
  go_wp2
  have HW : Hid (Wo w w.heap.size (w.heap.size + 1) (w.heap.size + 1 + 1) (.slice a l.length c) [] (((w.alloc (.cells #[.slice a l.length c] 118 (0, 0))).alloc (.cells #[.slice none 0 0] 118 (0, 0))).alloc (.cells #[.slice none 0 0] 118 (0, 0)))) := ⟨⟨(((Turned.refl [] w).alloc _).alloc _).alloc _, by omega, _, blk32 _ _ _ _, OW.nil _ _ _ _ _⟩, blk30 _ _ _ _, blk31 _ _ _ _, by omega, by omega, by omega⟩
  generalize ((w.alloc (.cells #[.slice a l.length c] 118 (0, 0))).alloc (.cells #[.slice none 0 0] 118 (0, 0))).alloc (.cells #[.slice none 0 0] 118 (0, 0)) = x0 at HW ⊢
  generalize w.heap.size + 1 + 1 = ob at HW ⊢
  generalize w.heap.size + 1 = rb at HW ⊢
  generalize hsb : w.heap.size = sb at HW ⊢
  have HSb : Hid (w.heap.size = sb) := hsb
  clear hsb
  go_loopw [6] (fun i wx => Bx (∃ k : Nat, k ≤ l.length ∧ i = .int .i64 k ∧ Hid (Wo w sb rb ob (.slice a l.length c) (noKey key (l.take k)) wx))) (fun i _ => l.length - (intOf i).toNat)
  case atStart => exact ⟨0, Nat.zero_le _, rfl, HW⟩
  case round =>
    obtain ⟨k, hk, rfl, HW1⟩ := hrel.ex
    clear hrel HW
    have s1 := lt_of_heap HW1.out.s
    have s2 : wr.cell? ⟨sb, 0, none⟩ = some (.slice a l.length c) := by rw [cell_at HW1.out.s]; rfl
    by_cases hlt : k < l.length
    · obtain ⟨b, o, rfl, hc⟩ := HV.out k hlt
      obtain ⟨c0, c1, c2⟩ := hc wr HW1.out.mp.tu
      have HTk := HT.out k hlt
      have HWs : Hid (Wo w sb rb ob (.slice (some ⟨b, o, none⟩) l.length c) (noKey key (l.take k)) wr) := HW1.out
      clear hc HW1
      generalize (l.getD k (0, 0)).1 = q1 at *
      generalize (l.getD k (0, 0)).2 = q2 at *
      by_cases g : q1 = key
      · have HN : Hid (noKey key (l.take (k + 1)) = noKey key (l.take k)) := by rw [Hid, HTk, if_pos g, List.append_nil]
        have g1 : (q1 != key) = false := by simpa using g
        clear g HTk
        go_wp2
        go_roundw
        case rel => exact ⟨k + 1, by omega, by go_num, by rw [HN.out]; exact HWs⟩
        case measure => simp [intOf]; omega
      · have HN : Hid (noKey key (l.take (k + 1)) = noKey key (l.take k) ++ [(q1, q2)]) := by rw [Hid, HTk, if_neg g]
        have g1 : (q1 != key) = true := by simpa using g
        clear g HTk
        obtain ⟨v, hv, hO⟩ := HWs.out.mp.ex
        obtain ⟨va, vc, rfl⟩ := hO.slice
        have HO : Hid (OW 67 2 encP w.heap.size wr (.slice va (noKey key (l.take k)).length vc) (noKey key (l.take k))) := hO
        have o1 := lt_of_heap hv
        have o2 : wr.cell? ⟨ob, 0, none⟩ = some (.slice va (noKey key (l.take k)).length vc) := by rw [cell_at hv]; rfl
        have hB0 : w.heap.size ≤ wr.heap.size := HWs.out.mp.tu.size
        have hby : ((noKey key (l.take k)).length + [(q1, q2)].length) * 16 ≤ 140737488355328 := by
          have := HLn.out k
          simp only [List.length_cons, List.length_nil]
          omega
        have HOne : Hid (∀ (i : Nat) (u : Value), ([(q1, q2)].flatMap encP)[i]? = some u → (#[Value.int .i64 q1, Value.int .i64 q2] : Array Value)[i]? = some u) := fun i u hu => by simpa [encP] using hu
        have HPu : Hid _ := fun y z v2 h1 h2 h3 => HWs.out.push (q := (q1, q2)) (v2 := v2) (y := y) (z := z) hv h1 (hO.still h1) h2 h3
        clear hv hO
        go_wp2
        go_region_law (first | (refine step_apO elP enP (B := w.heap.size) (v := .slice va (noKey key (l.take k)).length vc) (u := .slice (some ⟨wr.heap.size, 0, none⟩) 1 1) (R := noKey key (l.take k)) (M := [(q1, q2)]) rfl _ _ rfl ?_ (HO.out.still ?_) ?_ (VW.block (R := [(q1, q2)]) (c := 1) (blk_new _ _) HOne.out) hby ?_ ?_; (focus (simp [Act.eval]; done)); (focus (repeat first | exact Turned.refl _ _ | refine Turned.drew ?_ | refine Turned.alloc ?_ _)); (focus (simp [Act.eval]; done)); (focus (refine Nat.le_trans hB0 ?_; simp)); intro v2 w2 ho ht _; obtain ⟨g2, c2, rfl⟩ := ho.somes; obtain ⟨m1, m2, m3, m4⟩ := HPu.out _ w2 _ (by (repeat first | exact Turned.refl _ _ | refine Turned.drew ?_ | refine Turned.alloc ?_ _)) ht ho; have HM2 : Hid _ := m4; clear m4 ho ht))
        all_goals
          go_wp2
          go_roundw
          case rel => exact ⟨k + 1, by omega, by go_num, by rw [HN.out]; exact HM2⟩
          case measure => simp [intOf]; omega
    · obtain rfl : k = l.length := by omega
      obtain ⟨v, hv, hO⟩ := HW1.out.mp.ex
      obtain ⟨va, vc, rfl⟩ := hO.slice
      have o1 := lt_of_heap hv
      have o2 : wr.cell? ⟨ob, 0, none⟩ = some (.slice va (noKey key (l.take l.length)).length vc) := by rw [cell_at hv]; rfl
      have r1 := lt_of_heap HW1.out.r
      have r2 : wr.cell? ⟨rb, 0, none⟩ = some (.slice none 0 0) := by rw [cell_at HW1.out.r]; rfl
      have r3 := froz_at HW1.out.r 0
      have HE : Hid (OW 67 2 encP w.heap.size (wr.setCell ⟨rb, 0, none⟩ (.slice va (noKey key (l.take l.length)).length vc)) (.slice va (noKey key (l.take l.length)).length vc) (noKey key l) ∧ Turned [] w (wr.setCell ⟨rb, 0, none⟩ (.slice va (noKey key (l.take l.length)).length vc))) := by
        have h1 := hO.keep ((Turned.refl [rb] wr).set (r := rb) (by simp) 0 (.slice va (noKey key (l.take l.length)).length vc)) (fun g hg hm => by
          obtain ⟨cs, h4⟩ := hO.type hg
          rw [List.mem_singleton.1 hm] at h4
          exact tyne HW1.out.r h4 (by decide) rfl)
        refine ⟨?_, HW1.out.mp.tu.set (.inr HW1.out.ne.2.2) _ _⟩
        have e := HL.out
        rw [e] at h1 ⊢
        exact h1
      clear hv hO
      generalize noKey key (l.take l.length) = R9 at *
      have HBk : Hid ((wr.setCell ⟨rb, 0, none⟩ (.slice va R9.length vc)).heap[rb]? = some (.cells #[.slice va R9.length vc] 118 (0, 0))) := blk_set HW1.out.r 0 _
      go_wp2
      refine bodyPost_ret (results_cell_row rfl _ _ rb _ _ (0, 0) _ rfl HBk.out Tryd.underlying118 rfl (by kernel_rfl)) rfl ⟨⟨_, rfl, HE.out.1⟩, HE.out.2⟩
end Go.Proofs.YtbielnehggcaoaaDoor
/-
  What a version holds as the document keeps it: tables without a key, with one more. (By the verifier; no statement.)
-/
namespace Go.Proofs.YtbielnehggcaoaaDoor
open Go.RowKit
theorem Hold.put_del_same (f : Hold) (k v : Int) : (f.put k v).del k = f.del k := by
  funext x
  simp only [Hold.del, Hold.put]
  by_cases h : x = k <;> simp [h]
theorem Hold.put_del_other (f : Hold) {k key : Int} (v : Int) (h : k ≠ key) : (f.put k v).del key = (f.del key).put k v := by
  funext x
  simp only [Hold.del, Hold.put]
  by_cases h1 : x = key
  · rw [if_pos h1, if_neg (by omega), if_pos h1]
  · rw [if_neg h1, if_neg h1]
theorem Hold.del_put (f : Hold) (k v : Int) : (f.del k).put k v = f.put k v := by
  funext x
  simp only [Hold.del, Hold.put]
  by_cases h : x = k <;> simp [h]
theorem Hold.none_del (k : Int) : Hold.none.del k = Hold.none := by
  funext x
  simp only [Hold.del, Hold.none]
  by_cases h : x = k <;> simp [h]
theorem lay_del (key : Int) : ∀ (l : List (Int × Int)) (f : Hold), (f.lay l).del key = (f.del key).lay (noKey key l)
  | [], f => rfl
  | (k, v) :: l, f => by
    show ((f.put k v).lay l).del key = _
    rw [lay_del key l]
    unfold noKey
    by_cases h : k = key
    · subst h
      rw [Hold.put_del_same, List.filter_cons_of_neg (by simp)]
    · rw [Hold.put_del_other f v h, List.filter_cons_of_pos (by simpa using h)]
      rfl
theorem layN_noKey (key : Int) (l : List (Int × Int)) : layN (noKey key l) = (layN l).del key := by
  rw [layN, layN, lay_del, Hold.none_del]
theorem layN_put (l : List (Int × Int)) (q : Int × Int) : layN (l ++ [q]) = (layN l).put q.1 q.2 := Hold.lay_append _ l q
theorem layN_new (key v : Int) (l : List (Int × Int)) : layN (noKey key l ++ [(key, v)]) = (layN l).put key v := by
  rw [layN_put, layN_noKey, Hold.del_put]
theorem lay_more (f : Hold) {ps : List (Int × Int)} {k : Nat} (h : k < ps.length) : f.lay (ps.take (k + 1)) = (f.lay (ps.take k)).put (ps.getD k (0, 0)).1 (ps.getD k (0, 0)).2 := by
  rw [List.take_add_one, List.getElem?_eq_getElem h, Option.toList_some, Hold.lay_append]
  simp [h]
theorem noKey_len (key : Int) (l : List (Int × Int)) : (noKey key l).length ≤ l.length := List.length_filter_le _ _
/-- A table in memory of its own: what it holds, at most so many pairs. -/
structure TB (B : Nat) (w : World) (v : Value) (f : Hold) (n : Nat) : Prop where
  ex : ∃ l : List (Int × Int), OW 67 2 encP B w v l ∧ layN l = f ∧ l.length ≤ n
theorem TB.still {B n : Nat} {w w' : World} {v : Value} {f : Hold} (h : TB B w v f n) (ht : Turned [] w w') : TB B w' v f n := by
  obtain ⟨l, h1, h2, h3⟩ := h.ex
  exact ⟨l, h1.still ht, h2, h3⟩
theorem TB.keep {B n : Nat} {w w' : World} {v : Value} {f : Hold} {F : List Nat} (h : TB B w v f n) (ht : Turned F w w') (hF : ∀ g cs, g ∈ F → w.heap[g]? ≠ some (.cells cs 67 (0, 0))) : TB B w' v f n := by
  obtain ⟨l, h1, h2, h3⟩ := h.ex
  refine ⟨l, h1.keep ht fun g hg hm => ?_, h2, h3⟩
  obtain ⟨cs, hc⟩ := h1.type hg
  exact hF g cs hm hc
theorem TB.mono {B n n' : Nat} {w : World} {v : Value} {f : Hold} (h : TB B w v f n) (hn : n ≤ n') : TB B w v f n' := by
  obtain ⟨l, h1, h2, h3⟩ := h.ex
  exact ⟨l, h1, h2, Nat.le_trans h3 hn⟩
theorem TB.lower {B B' n : Nat} {w : World} {v : Value} {f : Hold} (h : TB B w v f n) (hb : B' ≤ B) : TB B' w v f n := by
  obtain ⟨l, h1, h2, h3⟩ := h.ex
  exact ⟨l, h1.lower hb, h2, h3⟩
theorem cWithoutT {w : World} {a : Option Addr} {c B n : Nat} {l : List (Int × Int)} {key : Int} {f : Hold} (hO : OW 67 2 encP B w (.slice a l.length c) l) (hf : layN l = f) (hn : l.length ≤ n) (hn2 : n ≤ 1000000000) (hB : B ≤ w.heap.size) : Calls Tryd.prog 72 #[.agg #[.slice a l.length c], .int .i64 key] w fun r w' => (∃ v, r = .returned (.agg #[v]) ∧ TB B w' v (f.del key) n) ∧ Turned [] w w' := by
  refine (cWithout hO.view (Nat.le_trans hn hn2)).mono ?_
  rintro r w' ⟨⟨v, rfl, h1⟩, h2⟩
  exact ⟨⟨v, rfl, ⟨noKey key l, h1.lower hB, by rw [layN_noKey, hf], Nat.le_trans (noKey_len _ _) hn⟩⟩, h2⟩
end Go.Proofs.YtbielnehggcaoaaDoor
/-
  The versions of a part, as the document lays them in a row: their mathematics, their memory. (By the verifier; no statement.)
-/
namespace Go.Proofs.YtbielnehggcaoaaDoor
open Go.RowKit
/-- A slice, told by its address, length and room. -/
abbrev SV := Option Addr × Nat × Nat
abbrev slV (p : SV) : Value := .slice p.1 p.2.1 p.2.2
abbrev encT : SV → List Value := fun p => [slV p]
theorem enT : En 1 encT := ⟨fun _ => rfl, fun r u hu => by rw [List.mem_singleton.1 hu]; rfl⟩
theorem elTb : El 118 91 1 24 (.agg #[.slice none 0 0]) := ⟨by kernel_rfl, by kernel_rfl, rfl, by decide, by decide⟩
theorem elTr : El 91 88 1 24 (.slice none 0 0) := ⟨by kernel_rfl, by kernel_rfl, rfl, by decide, by decide⟩
theorem slV_of {v : Value} {n : Nat} (h : ∃ a c, v = .slice a n c) : ∃ p : SV, v = slV p := by
  obtain ⟨a, c, rfl⟩ := h
  exact ⟨(a, n, c), rfl⟩
theorem TB.sv {B n : Nat} {w : World} {v : Value} {f : Hold} (h : TB B w v f n) : ∃ p : SV, v = slV p := by
  obtain ⟨l, h1, _⟩ := h.ex
  exact slV_of h1.slice
theorem TB.sl {B n : Nat} {w : World} {v : Value} {f : Hold} (h : TB B w v f n) : ∃ a k c, v = .slice a k c := by
  obtain ⟨⟨a, k, c⟩, e⟩ := h.sv
  exact ⟨a, k, c, e⟩
section
variable {m : Int} {D : List Ev} {p : Int} {f0 : Hold} {u : Nat} {H : List Hold}
/-- The versions so far; g: how many more there can be. -/
structure TbX (m : Int) (D : List Ev) (p : Int) (f0 : Hold) (u : Nat) (H : List Hold) : Prop where
  one : 1 ≤ u
  len : H.length = u
  chain : ∀ j : Nat, 1 ≤ j → j + 1 ≤ u → timesN m D D.length p (j + 1) = 1
  rest : ∃ (g : Nat) (pre : List Hold) (f : Hold), u + g = D.length + 1 ∧ H = pre ++ [f] ∧ tblL m D p D.length 1 f0 = pre ++ tblL m D p g u f
theorem TbX.start (m : Int) (D : List Ev) (p : Int) (f0 : Hold) : TbX m D p f0 1 [f0] := ⟨Nat.le_refl 1, rfl, fun j h1 h2 => by omega, D.length, [], f0, by omega, rfl, rfl⟩
theorem TbX.le (h : TbX m D p f0 u H) : u ≤ D.length + 1 := by
  obtain ⟨g, _, _, h1, _⟩ := h.rest
  omega
theorem TbX.next (h : TbX m D p f0 u H) (ht : timesN m D D.length p ((u : Int) + 1) = 1) : u ≤ D.length ∧ TbX m D p f0 (u + 1) (H ++ [(H.getD (u - 1) Hold.none).chg (eAt D (placeN m D D.length p ((u : Int) + 1)))]) := by
  obtain ⟨g, pre, f, h1, rfl, h3⟩ := h.rest
  have hl : pre.length + 1 = u := by simpa using h.len
  have e0 : (pre ++ [f]).getD (u - 1) Hold.none = f := by
    rw [List.getD_eq_getElem?_getD, List.getElem?_append_right (by omega), show u - 1 - pre.length = 0 by omega]
    rfl
  have hc : ∀ j : Nat, 1 ≤ j → j ≤ u → timesN m D D.length p (j + 1) = 1 := fun j h3 h4 => by
    by_cases e : j = u
    · rw [e]; exact ht
    · exact h.chain j h3 (by omega)
  have hb := chain_bound hc
  obtain ⟨g', rfl⟩ : ∃ g', g = g' + 1 := ⟨g - 1, by omega⟩
  rw [e0]
  refine ⟨hb, ⟨by omega, by simp; omega, fun j h4 h5 => hc j h4 (by omega), g', pre ++ [f], f.chg (eAt D (placeN m D D.length p ((u : Int) + 1))), by omega, rfl, ?_⟩⟩
  rw [h3]
  conv => lhs; unfold tblL
  rw [if_pos ht]
  simp
theorem TbX.done (h : TbX m D p f0 u H) (ht : timesN m D D.length p ((u : Int) + 1) ≠ 1) : tblL m D p D.length 1 f0 = H := by
  obtain ⟨g, pre, f, h1, rfl, h3⟩ := h.rest
  rw [h3]
  cases g with
  | zero => rfl
  | succ g =>
    unfold tblL
    rw [if_neg ht]
end
/-- A row of tables in memory of its own. -/
structure RowT (B : Nat) (w : World) (v : Value) (H : List Hold) : Prop where
  ex : ∃ L : List SV, OW 118 1 encT B w v L ∧ L.length = H.length ∧ ∀ (j : Nat) (hj : j < L.length), TB B w (slV L[j]) (H.getD j Hold.none) (1000000 + j * 3001)
section
variable {B : Nat} {w w' x y z : World} {v : Value} {H : List Hold}
theorem RowT.slice (h : RowT B w v H) : ∃ a c, v = .slice a H.length c := by
  obtain ⟨L, h1, h2, _⟩ := h.ex
  obtain ⟨a, c, e⟩ := h1.slice
  exact ⟨a, c, by rw [← h2, e]⟩
theorem RowT.keep {F : List Nat} (h : RowT B w v H) (ht : Turned F w w') (hF : ∀ g cs T, g ∈ F → w.heap[g]? = some (.cells cs T (0, 0)) → T ≠ 67 ∧ T ≠ 118) : RowT B w' v H := by
  obtain ⟨L, h1, h2, h3⟩ := h.ex
  refine ⟨L, h1.keep ht fun g hg hm => ?_, h2, fun j hj => (h3 j hj).keep ht fun g cs hg hc => (hF g cs _ hg hc).1 rfl⟩
  obtain ⟨cs, hc⟩ := h1.type hg
  exact (hF g cs _ hm hc).2 rfl
theorem RowT.still (h : RowT B w v H) (ht : Turned [] w w') : RowT B w' v H := h.keep ht (fun g cs T hg => by cases hg)
theorem RowT.lower {B' : Nat} (h : RowT B w v H) (hb : B' ≤ B) : RowT B' w v H := by
  obtain ⟨L, h1, h2, h3⟩ := h.ex
  exact ⟨L, h1.lower hb, h2, fun j hj => (h3 j hj).lower hb⟩
/-- One of its tables. -/
theorem RowT.get (h : RowT B w v H) {j : Nat} (hj : j < H.length) : ∃ (b o c : Nat) (q : SV), v = .slice (some ⟨b, o, none⟩) H.length c ∧ (∀ y, Turned [] w y → b < y.heap.size ∧ y.cell? ⟨b, o + j, none⟩ = some (slV q)) ∧ TB B w (slV q) (H.getD j Hold.none) (1000000 + j * 3001) := by
  obtain ⟨L, h1, h2, h3⟩ := h.ex
  have hj' : j < L.length := by omega
  obtain ⟨b, o, c, e, _, hc⟩ := h1.view.get enT (by decide) hj'
  refine ⟨b, o, c, L[j], by rw [← h2]; exact e, fun y hy => ?_, h3 j hj'⟩
  have c0 := hy.cell (hc 0 _ rfl) (by simp)
  rw [Nat.mul_one, Nat.add_zero] at c0
  exact ⟨World.block_lt_of_cell? _ _ c0, c0⟩
/-- One more table, laid behind. -/
theorem RowT.push {L : List SV} {q : SV} {v2 : Value} {f : Hold} {n : Nat} (h1 : OW 118 1 encT B w v L) (h2 : L.length = H.length) (h3 : ∀ (j : Nat) (hj : j < L.length), TB B w (slV L[j]) (H.getD j Hold.none) (1000000 + j * 3001)) (hxy : Turned [] w y) (hq : TB B y (slV q) f n) (hn : n ≤ 1000000 + H.length * 3001) (ht : Turned v.ownBlock.toList y z) (ho : OW 118 1 encT B z v2 (L ++ [q])) : RowT B z v2 (H ++ [f]) := by
  have hty : ∀ g cs, g ∈ v.ownBlock.toList → y.heap[g]? ≠ some (.cells cs 67 (0, 0)) := fun g cs hg hc => by
    simp only [Option.mem_toList] at hg
    obtain ⟨cs', h4⟩ := h1.type hg
    exact tyne (hxy.heap h4 (by simp)) hc (by decide) rfl
  refine ⟨L ++ [q], ho, by simp [h2], fun j hj => ?_⟩
  by_cases e : j < L.length
  · have e1 : (L ++ [q])[j] = L[j] := List.getElem_append_left e
    have e2 : (H ++ [f]).getD j Hold.none = H.getD j Hold.none := by
      rw [List.getD_eq_getElem?_getD, List.getD_eq_getElem?_getD, List.getElem?_append_left (by omega)]
    rw [e1, e2]
    exact ((h3 j e).still hxy).keep ht hty
  · have hj2 : j = L.length := by simp at hj; omega
    subst hj2
    have e2 : (H ++ [f]).getD L.length Hold.none = f := by
      rw [List.getD_eq_getElem?_getD, List.getElem?_append_right (by omega), h2, Nat.sub_self]
      rfl
    rw [e2, List.getElem_append_right (by omega)]
    simp only [Nat.sub_self, List.getElem_cons_zero]
    exact (hq.keep ht hty).mono (by rw [h2]; exact hn)
end
end Go.Proofs.YtbielnehggcaoaaDoor
/-
  Is an event right? By the document's own functions; by contract. (By the verifier; no statement.)
-/
namespace Go.Proofs.YtbielnehggcaoaaDoor
open Go.RowKit
/-- An event as a value. -/
abbrev evA (e : Ev) (nv pv : Value) : Array Value := #[.int .i64 e.wk, .int .i64 e.b, .int .i64 e.e, .int .i64 e.k, .int .i64 e.p, .int .i64 e.key, .int .i64 e.num, .bool e.had, .int .i64 e.val, .bool e.has, .int .i64 e.new, nv, pv]
set_option maxHeartbeats 800000 in
theorem cWrites {e : Ev} {na pa : Option Addr} {nl nc pl pc : Nat} (w : World) : Calls Tryd.prog 55 #[.agg (evA e (.slice na nl nc) (.slice pa pl pc))] w fun r w' => r = .returned (.bool e.pub) ∧ Turned [] w w' := by
  unfold Ev.pub
  obtain ⟨wk, b, en, k, p, key, num, had, val, has, new, ns, ps⟩ := e
  dsimp only
  by_cases g : k = 2
  · subst g
    go_enter Tryd.func55, Tryd.ntmps55
    go_wp2
    go_ret
    exact ⟨rfl, (Turned.refl [] w).alloc _⟩
  · have g1 : (k == 2) = false := by simpa using g
    rw [decide_eq_false g, Bool.false_or]
    go_enter Tryd.func55, Tryd.ntmps55
    go_wp2
    go_ret
    exact ⟨rfl, (Turned.refl [] w).alloc _⟩
/-- Why an event isn't right, case by case. -/
theorem good_cases {m : Nat} (hm : 1 ≤ m) (e : Ev) : (e.k < 1 ∧ e.good m = false) ∨ (1 ≤ e.k ∧ 5 < e.k ∧ e.good m = false) ∨ (1 ≤ e.k ∧ e.k ≤ 5 ∧ timeB e.b e.e = false ∧ e.good m = false) ∨ (1 ≤ e.k ∧ e.k ≤ 5 ∧ timeB e.b e.e = true ∧ e.p < 0 ∧ e.good m = false) ∨ (1 ≤ e.k ∧ e.k ≤ 5 ∧ timeB e.b e.e = true ∧ 0 ≤ e.p ∧ (m : Int) ≤ e.p ∧ e.good m = false) ∨ (1 ≤ e.k ∧ e.k ≤ 5 ∧ timeB e.b e.e = true ∧ 0 ≤ e.p ∧ e.p < (m : Int) ∧ e.k = 4 ∧ e.p ≠ 0 ∧ e.good m = false) ∨
    (1 ≤ e.k ∧ e.k ≤ 5 ∧ timeB e.b e.e = true ∧ 0 ≤ e.p ∧ e.p < (m : Int) ∧ (e.k = 4 → e.p = 0) ∧ e.good m = (if e.e = 0 then true else if e.k = 4 then numsB m e.ns else if e.pub then decide (2 ≤ e.num) else decide (1 ≤ e.num))) := by
  have hg : e.good m = (decide (1 ≤ e.k) && decide (e.k ≤ 5) && timeB e.b e.e && e.inPart m && (if e.e = 0 then true else if e.k = 4 then numsB m e.ns else if e.pub then decide (2 ≤ e.num) else decide (1 ≤ e.num))) := rfl
  by_cases h1 : 1 ≤ e.k
  · by_cases h2 : e.k ≤ 5
    · cases h3 : timeB e.b e.e with
      | false => exact .inr (.inr (.inl ⟨h1, h2, rfl, by rw [hg, h3]; simp⟩))
      | true =>
        have hg2 : e.good m = (e.inPart m && (if e.e = 0 then true else if e.k = 4 then numsB m e.ns else if e.pub then decide (2 ≤ e.num) else decide (1 ≤ e.num))) := by rw [hg, h3, decide_eq_true h1, decide_eq_true h2]; rfl
        by_cases h4 : 0 ≤ e.p
        · by_cases h5 : e.p < (m : Int)
          · by_cases h6 : e.k = 4
            · have hi : e.inPart m = decide (e.p = 0) := by unfold Ev.inPart; rw [if_pos h6]
              by_cases h7 : e.p = 0
              · refine .inr (.inr (.inr (.inr (.inr (.inr ⟨h1, h2, rfl, h4, h5, fun _ => h7, ?_⟩)))))
                rw [hg2, hi, decide_eq_true h7, Bool.true_and]
              · refine .inr (.inr (.inr (.inr (.inr (.inl ⟨h1, h2, rfl, h4, h5, h6, h7, ?_⟩)))))
                rw [hg2, hi, decide_eq_false h7, Bool.false_and]
            · have hi : e.inPart m = true := by unfold Ev.inPart; rw [if_neg h6, decide_eq_true h4, decide_eq_true h5]; rfl
              refine .inr (.inr (.inr (.inr (.inr (.inr ⟨h1, h2, rfl, h4, h5, fun h => absurd h h6, ?_⟩)))))
              rw [hg2, hi, Bool.true_and]
          · have hi : e.inPart m = false := by
              unfold Ev.inPart
              by_cases h6 : e.k = 4
              · rw [if_pos h6]; exact decide_eq_false (by omega)
              · rw [if_neg h6, decide_eq_false h5, Bool.and_false]
            exact .inr (.inr (.inr (.inr (.inl ⟨h1, h2, rfl, h4, by omega, by rw [hg2, hi]; rfl⟩))))
        · have hi : e.inPart m = false := by
            unfold Ev.inPart
            by_cases h6 : e.k = 4
            · rw [if_pos h6]; exact decide_eq_false (by omega)
            · rw [if_neg h6, decide_eq_false h4, Bool.false_and]
          exact .inr (.inr (.inr (.inl ⟨h1, h2, rfl, by omega, by rw [hg2, hi]; rfl⟩)))
    · exact .inr (.inl ⟨h1, by omega, by rw [hg, decide_eq_false h2]; simp⟩)
  · exact .inl ⟨by omega, by rw [hg, decide_eq_false h1]; simp⟩
end Go.Proofs.YtbielnehggcaoaaDoor
/-
  The document's history in memory while it is judged: who is blamed. (By the verifier; no statement.)
-/
namespace Go.Proofs.YtbielnehggcaoaaDoor
open Go.RowKit
/-- While events are judged: w1 is the world in which all that is told stands; the history alone turned since, and what it blames is new. -/
structure VX (w1 : World) (hb m : Nat) (lv tv : Value) (O : List Bm) (x : World) : Prop where
  tu : Turned [hb] w1 x
  lt : hb < w1.heap.size
  ex : ∃ ov, x.heap[hb]? = some (.cells #[.int .i64 m, lv, tv, ov] 90 (0, 0)) ∧ BR w1.heap.size x ov O
/-- What a blame keeps. -/
structure KeepB (hb : Nat) (x x' : World) : Prop where
  size : x.heap.size ≤ x'.heap.size
  keep : ∀ b cs T, b ≠ hb → T ≠ 55 → x.heap[b]? = some (.cells cs T (0, 0)) → x'.heap[b]? = some (.cells cs T (0, 0))
theorem KeepB.of {hb : Nat} {x y : World} (h : Turned [] x y) : KeepB hb x y := ⟨h.size, fun _ _ _ _ _ hb => h.heap hb (by simp)⟩
theorem KeepB.trans {hb : Nat} {x y z : World} (h : KeepB hb x y) (h2 : KeepB hb y z) : KeepB hb x z := ⟨Nat.le_trans h.size h2.size, fun b cs T h3 h4 h5 => h2.keep b cs T h3 h4 (h.keep b cs T h3 h4 h5)⟩
section
variable {w1 x y z : World} {hb m : Nat} {lv tv : Value} {O : List Bm}
theorem VX.still (h : VX w1 hb m lv tv O x) (ht : Turned [] x y) : VX w1 hb m lv tv O y := by
  obtain ⟨ov, h1, h2⟩ := h.ex
  exact ⟨h.tu.trans (ht.mono (by simp)), h.lt, ov, ht.heap h1 (by simp), h2.still ht⟩
theorem VX.hist (h : VX w1 hb m lv tv O x) : ∃ ov, ∀ y, Turned [] x y → y.heap[hb]? = some (.cells #[.int .i64 m, lv, tv, ov] 90 (0, 0)) := by
  obtain ⟨ov, h1, _⟩ := h.ex
  exact ⟨ov, fun y hy => hy.heap h1 (by simp)⟩
set_option maxHeartbeats 1600000 in
theorem cBlameR (h : VX w1 hb m lv tv O x) (hl : O.length ≤ 1000000000) (a b c : Int) : Calls Tryd.prog 57 #[.pointer (some ⟨hb, 0, none⟩), .int .i64 a, .int .i64 b, .int .i64 c] x fun r x' => r = .returned (.tuple #[]) ∧ VX w1 hb m lv tv (O ++ [(a, b, c)]) x' ∧ KeepB hb x x' := by
  obtain ⟨ov, h1, h2⟩ := h.ex
  have HV : Hid (VX w1 hb m lv tv O x) := h
  have HX : Hid (x.heap[hb]? = some (.cells #[.int .i64 m, lv, tv, ov] 90 (0, 0))) := h1
  have HR : Hid (BR w1.heap.size x ov O) := h2
  have HL : Hid (O.length ≤ 1000000000) := hl
  have HB : Hid (w1.heap.size ≤ x.heap.size) := h.tu.size
  have c3 : x.cell? ⟨hb, 3, none⟩ = some ov := by rw [cell_at h1]; rfl
  have hlt : hb < x.heap.size := lt_of_heap h1
  have HG : Hid (∀ g, ov.ownBlock = some g → g ≠ hb) := fun g hg => by
    have := (h2.fresh hg).1
    have := h.lt
    omega
  have e1 : ∃ q : Option Addr, ∃ n k, ov = .slice q n k := by
    rcases h2.form with ⟨e, _⟩ | ⟨g, k, e⟩
    · exact ⟨_, _, _, e⟩
    · exact ⟨_, _, _, e⟩
  obtain ⟨q, n, k, rfl⟩ := e1
  clear h h1 h2 hl
  go_enter Tryd.func57, Tryd.ntmps57
  go_wp2_with (at_builtin; refine wpList_apBm (B := w1.heap.size) (v := .slice q n k) (R := O) (r := (a, b, c)) (g := x.heap.size) rfl _ _ rfl rfl (HR.out.still ((Turned.refl [] _).alloc _)) rfl (blk_new _ _) HL.out (by have := HB.out; simp; omega) ?_; intro v1 w2 hr1 ht1 ho1; obtain ⟨g1, c1, hv1⟩ := hr1.somes; subst hv1; have HR1 : Hid _ := hr1; have HT1 : Hid (Turned (Value.slice q n k).ownBlock.toList x w2) := ((Turned.refl _ _).alloc _).trans ht1; clear hr1 ht1 ho1; have k3 := HT1.out.cell c3 (by intro hm; simp only [Option.mem_toList] at hm; exact (HG.out _ hm) rfl); have y3 := froz_at (HT1.out.heap HX.out (by intro hm; simp only [Option.mem_toList] at hm; exact (HG.out _ hm) rfl)) 3; have m1 := Nat.lt_of_lt_of_le hlt HT1.out.size; clear c3)
  go_end0
  have hh1 := HT1.out.heap HX.out (by intro hm; simp only [Option.mem_toList] at hm; exact (HG.out _ hm) rfl)
  have hlt1 := HV.out.lt
  have hset : Turned [hb] w2 (w2.setCell ⟨hb, 3, none⟩ (.slice (some ⟨g1, 0, none⟩) (O.length + 1) c1)) := (Turned.refl [hb] w2).set (by simp) _ _
  have hK : KeepB hb x (w2.setCell ⟨hb, 3, none⟩ (.slice (some ⟨g1, 0, none⟩) (O.length + 1) c1)) := ⟨Nat.le_trans HT1.out.size hset.size, fun b cs T h3 h4 h5 => hset.heap (HT1.out.heap h5 (fun hm => by
    simp only [Option.mem_toList] at hm
    obtain ⟨cs', h6⟩ := HR.out.type hm
    exact tyne h5 h6 h4 rfl)) (by simpa using h3)⟩
  refine ⟨rfl, ⟨(HV.out.tu.inner HT1.out fun g hg => .inr (HR.out.fresh (by simpa using hg)).1).trans hset, hlt1, _, ?_, HR1.out.keep hset fun g hg hm => ?_⟩, hK⟩
  · have := blk_set hh1 3 (.slice (some ⟨g1, 0, none⟩) (O.length + 1) c1)
    simpa using this
  · have h3 := (HR1.out.fresh hg).1
    rw [List.mem_singleton.1 hm] at h3
    omega
end
end Go.Proofs.YtbielnehggcaoaaDoor
