/-
  Lists that are lent, with room behind them; by contract. (By the verifier; no statement.)
-/
import Derived.Test.YtbielnehggcaoaaDoorL26
import Derived.Test.YtbielnehggcaoaaDoorL22
namespace Go.Proofs.YtbielnehggcaoaaDoor
open Go.RowKit
theorem flat_singleL {α : Type} (f : α → Value) : ∀ l : List α, l.flatMap (fun q => [f q]) = l.map f
  | [] => rfl
  | x :: l => by rw [List.flatMap_cons, flat_singleL f l]; rfl
section
variable {α : Type} {T Ts : TypeId} {k y : Nat} {z : Value} {enc : α → List Value} {w : World} {u : Value} {M : List α}
/-- 'append(s, u..)' into a new block with room: what stands in it. -/
theorem run_roomO (E : El T Ts k y z) (N : En k enc) {ty : TypeId} {g cap : Nat} {cur : Array Value} (hg : w.heap[g]? = some (.cells cur T (0, 0))) (hs : cur.size = cap * k) (hu : VW enc w u M) (hc : M.length ≤ cap) (hcm : cap ≤ maxLen) :
    ∃ w', (Builtin.append_ #[Ts, Ts] ty #[.slice (some ⟨g, 0, none⟩) 0 cap, u]).run Tryd.prog w = .ok (.slice (some ⟨g, 0, none⟩) M.length cap) w' ∧ Turned [g] w w' ∧ w'.heap[g]? = some (.cells (M.flatMap enc ++ cur.toList.drop (M.length * k)).toArray T (0, 0)) := by
  obtain ⟨i, hi, hzz⟩ := Option.map_eq_some_iff.1 E.info
  simp only [Prod.mk.injEq] at hzz
  obtain ⟨hz, hs1, hb⟩ := hzz
  obtain ⟨a, c, rfl, hz0, hcc⟩ := hu.ex
  cases a with
  | none =>
    have hms : M = [] := by
      apply Classical.byContradiction
      intro hne
      obtain ⟨b, o, h, _⟩ := hcc hne
      cases h
    subst hms
    refine ⟨w, ?_, Turned.refl _ _, by simpa using hg⟩
    rw [hz0 rfl]
    exact run_append_owned_none (P := Tryd.prog) (w := w) 0 Ts ty T i k E.und hi (.slice (some ⟨g, 0, none⟩) 0 cap) 0 [] ⟨by simp, .inr ⟨g, cap, cur, rfl, Nat.zero_le _, hg, Nat.zero_le _, hcm, hs, by simp⟩⟩
  | some q =>
    have hr := run_append_room (P := Tryd.prog) w Ts ty T i E.und hi g 0 cap cur hg q M.length c (M.flatMap enc) (by rw [hs1]; exact rowO_len N M) (fun j u hj => by
      have hne : M ≠ [] := fun e => by rw [e] at hj; simp at hj
      obtain ⟨b, o, hq, hk⟩ := hcc hne
      cases hq
      have hadd : (⟨b, o, none⟩ : Addr).add j = ⟨b, o + j, none⟩ := by unfold Addr.add; split <;> simp_all
      rw [hadd]
      exact hk j u hj) (by
        intro u hu
        obtain ⟨r, _, hr⟩ := List.mem_flatMap.1 hu
        exact N.one r u hr) (by omega) (by rw [Nat.zero_mul, Nat.zero_add, rowO_len N, hs]; exact Nat.mul_le_mul_right _ hc)
    rw [Nat.zero_add] at hr
    refine ⟨_, hr, ⟨rfl, rfl, rfl, by simp, fun j _ hj => setRow_other w g j _ (by simpa using hj)⟩, ?_⟩
    rw [setRow_heap w g cur _ T _ hg]
    simp [rowO_len N]
theorem wpList_roomO (E : El T Ts k y z) (N : En k enc) {ops : Array Oper} {rest : List Oper} {o : Oper} {a : Act} {Q : Exit → Act → World → Prop} {g cap : Nat} {cur : Array Value} (hgd : o.guard = none) (p q : Operand) (ho : o.op = .call { callee := .builtin .append, args := #[p, q], argTypes := #[Ts, Ts] })
    (hsl : a.eval p = .slice (some ⟨g, 0, none⟩) 0 cap) (hg : w.heap[g]? = some (.cells cur T (0, 0))) (hs : cur.size = cap * k) (hy : a.eval q = u) (hu : VW enc w u M) (hc : M.length ≤ cap) (hcm : cap ≤ maxLen)
    (h : ∀ w', Turned [g] w w' → w'.heap[g]? = some (.cells (M.flatMap enc ++ cur.toList.drop (M.length * k)).toArray T (0, 0)) → wpList Tryd.prog ops Q rest (a.put o.dst (.slice (some ⟨g, 0, none⟩) M.length cap)) w') : wpList Tryd.prog ops Q (o :: rest) a w := by
  refine wpList_plain hgd fun K hK => ?_
  obtain ⟨w', hrun, h2, h3⟩ := run_roomO E N (ty := o.type) hg hs hu hc hcm
  unfold Oper.wp execOp
  simp only [ho, resolve, invoke, builtin, Sem.run_bind, Sem.run_pure, Result.andThen_ok, List.map_toArray, List.map_cons, List.map_nil, hsl, hy]
  simp only [hrun]
  exact hK _ _ (h w' h2 h3)
end
theorem infoIntL : (Tryd.prog.info? 3).map (fun i => (i.zero, i.size, i.bytes)) = some (some (.int .i64 0), 1, 8) := by kernel_rfl
theorem elIL : El 3 22 1 8 (.int .i64 0) := ⟨by kernel_rfl, by kernel_rfl, rfl, by decide, by decide⟩
theorem enIL : En 1 (fun q : Int => [Value.int .i64 q]) := ⟨fun _ => rfl, fun r u hu => by rw [List.mem_singleton.1 hu]; rfl⟩
theorem run_mkInt (n : Nat) (h : n ≤ 1000000) (w : World) :
    (Instr.makeSlice 22 (.int .i64 0) (.int .i64 ((n : Int) + 3))).run Tryd.prog w = .ok (.slice (some ⟨w.heap.size, 0, none⟩) 0 (n + 3)) (w.alloc (.cells (madeCells #[.int .i64 0] (n + 3)) 3 (0, 0))) := by
  obtain ⟨i, hi, hzz⟩ := Option.map_eq_some_iff.1 infoIntL
  simp only [Prod.mk.injEq] at hzz
  obtain ⟨hz, hs, hb⟩ := hzz
  have hr := run_make (P := Tryd.prog) w 22 3 i _ (by kernel_rfl) hi hz .i64 .i64 0 ((n : Int) + 3) (by omega) (by omega) (by rw [hb]; omega) (by omega)
  simp only [show ((n : Int) + 3).toNat = n + 3 by omega, hs, Nat.mul_one, Int.toNat_zero] at hr
  exact hr
/-- A list that was lent: the room behind it is marked. -/
structure Lent (w : World) (B g : Nat) (F : List Int) : Prop where
  bk : ∃ cs, w.heap[g]? = some (.cells cs 3 (0, 0)) ∧ (∀ i (h : i < F.length), cs[i]? = some (.int .i64 F[i])) ∧ cs[F.length]? = some (.int .i64 (-4000)) ∧ cs[F.length + 1]? = some (.int .i64 (-4001)) ∧ cs[F.length + 2]? = some (.int .i64 (-4002)) ∧ cs.size = F.length + 3
  le : B ≤ g
abbrev lentV (g : Nat) (F : List Int) : Value := .slice (some ⟨g, 0, none⟩) F.length (F.length + 3)
theorem Lent.keep {w w' : World} {B g : Nat} {F : List Int} {l : List Nat} (h : Lent w B g F) (ht : Turned l w w') (hl : g ∉ l) : Lent w' B g F := by
  obtain ⟨cs, h1, h2⟩ := h.bk
  exact ⟨⟨cs, ht.heap h1 hl, h2⟩, h.le⟩
theorem Lent.view {w : World} {B g : Nat} {F : List Int} (h : Lent w B g F) : IV w (lentV g F) F := by
  obtain ⟨cs, h1, h2, _⟩ := h.bk
  exact ⟨_, _, rfl, (fun h => by cases h), fun _ => ⟨g, 0, rfl, fun i hi => by rw [Nat.zero_add, cell_at h1]; exact h2 i hi⟩⟩
/-- In the midst of marking the room. -/
structure LentM (w0 w : World) (g : Nat) (F : List Int) (k : Nat) : Prop where
  tu : Turned [] w0 w
  le : w0.heap.size ≤ g
  bk : ∃ cs, w.heap[g]? = some (.cells cs 3 (0, 0)) ∧ (∀ i (h : i < F.length), cs[i]? = some (.int .i64 F[i])) ∧ (∀ i, i < k → cs[F.length + i]? = some (.int .i64 (-4000 - (i : Int)))) ∧ cs.size = F.length + 3
theorem LentM.step {w0 w : World} {g : Nat} {F : List Int} {k : Nat} (h : LentM w0 w g F k) (hk : k < 3) : g < w.heap.size ∧ (∃ v, w.cell? ⟨g, F.length + k, none⟩ = some v) ∧ w.frozen? ⟨g, F.length + k, none⟩ = false ∧ LentM w0 (w.setCell ⟨g, F.length + k, none⟩ (.int .i64 (-4000 - (k : Int)))) g F (k + 1) := by
  obtain ⟨cs, h1, h2, h3, h4⟩ := h.bk
  refine ⟨lt_of_heap h1, ⟨_, by rw [cell_at h1]; exact Array.getElem?_eq_getElem (by omega)⟩, froz_at h1 _, h.tu.set (.inr h.le) _ _, h.le, _, blk_set h1 _ _, fun i hi => ?_, fun i hi => ?_, by simp [h4]⟩
  · rw [set_at (by omega), if_neg (by omega)]
    exact h2 i hi
  · rw [set_at (by omega)]
    by_cases e : i = k
    · subst e; rw [if_pos rfl]
    · rw [if_neg (by omega)]
      exact h3 i (by omega)
theorem lentM_start {w w1 : World} {F : List Int} {o : Obj} (ht : Turned [w.heap.size] (w.alloc o) w1) (hb : w1.heap[w.heap.size]? = some (.cells (F.flatMap (fun q : Int => [Value.int .i64 q]) ++ (madeCells #[.int .i64 0] (F.length + 3)).toList.drop (F.length * 1)).toArray 3 (0, 0))) : LentM w w1 w.heap.size F 0 := by
  refine ⟨((Turned.refl [] w).alloc _).inner ht (fun q hq => .inr (by rw [List.mem_singleton.1 hq]; exact Nat.le_refl _)), Nat.le_refl _, _, hb, fun i hi => ?_, fun i hi => absurd hi (Nat.not_lt_zero i), ?_⟩
  · rw [flat_singleL, List.getElem?_toArray, List.getElem?_append_left (by simpa using hi), List.getElem?_map, List.getElem?_eq_getElem hi]
    rfl
  · rw [flat_singleL, List.size_toArray, List.length_append, List.length_map, List.length_drop, Array.length_toList]
    unfold madeCells
    simp
set_option maxRecDepth 100000 in
set_option maxHeartbeats 3200000 in
theorem cLent {w : World} {fv : Value} {F : List Int} (hF : IV w fv F) (hn : F.length ≤ 1000) : Calls Tryd.prog 10 #[fv] w fun r w' => ∃ g, r = .returned (lentV g F) ∧ Lent w' w.heap.size g F ∧ Turned [] w w' := by
  have HF : Hid (IV w fv F) := hF
  obtain ⟨fa, fc, rfl, -, -⟩ := hF.ex
  clear hF
  have hmk := fun y => run_mkInt F.length (by omega) y
  go_enter Tryd.func10, Tryd.ntmps10
  go_wp2_with (at_builtin; refine wpList_roomO elIL enIL (g := w.heap.size) (cap := F.length + 3) (cur := madeCells #[.int .i64 0] (F.length + 3)) (u := .slice fa F.length fc) (M := F) rfl _ _ rfl rfl (blk_new _ _) (by unfold madeCells; simp) rfl (HF.out.still ((Turned.refl [] w).alloc _)).vw (by omega) (by unfold maxLen; omega) ?_; intro w1 ht1 hb1; have HM0 : Hid (LentM w w1 w.heap.size F 0) := lentM_start ht1 hb1; clear ht1 hb1)
  clear hmk HF
  generalize hgs : w.heap.size = g at HM0 ⊢
  have HGs : Hid (w.heap.size = g) := hgs
  clear hgs
  go_loopw [5] (fun i wx => ∃ k : Nat, k ≤ 3 ∧ i = .int .i64 k ∧ Hid (LentM w wx g F k)) (fun i _ => 3 - (intOf i).toNat)
  case atStart => exact ⟨0, by omega, rfl, HM0⟩
  case round =>
    obtain ⟨k, hk, rfl, HM⟩ := hrel
    clear HM0
    by_cases hlt : k < 3
    · obtain ⟨m1, ⟨v0, m2⟩, m3, m4⟩ := HM.out.step hlt
      have HM2 : Hid _ := m4
      clear m4
      go_wp2
      go_roundw
      case rel => exact ⟨k + 1, by omega, by go_num, HM2⟩
      case measure => simp [intOf]; omega
    · obtain rfl : k = 3 := by omega
      go_wp2
      go_ret
      obtain ⟨cs, h1, h2, h3, h4⟩ := HM.out.bk
      exact ⟨g, rfl, ⟨⟨cs, h1, h2, h3 0 (by omega), h3 1 (by omega), h3 2 (by omega), h4⟩, by rw [HGs.out]; exact Nat.le_refl _⟩, HM.out.tu⟩
set_option maxRecDepth 100000 in
set_option maxHeartbeats 3200000 in
theorem cStays {w : World} {B g : Nat} {fv : Value} {F : List Int} (hL : Lent w B g F) (hF : IV w fv F) (hn : F.length ≤ 1000) : Calls Tryd.prog 15 #[lentV g F, fv] w fun r w' => r = .returned (.bool true) ∧ ∃ n, w' = w.drewN n := by
  have HX : Hid (Twin (Value.int .i64) w (lentV g F) fv F F) := Twin.of hL.view.vw hF.vw rfl
  obtain ⟨fa, fc, rfl, -, -⟩ := hF.ex
  obtain ⟨cs, h1, -, h2, h3, h4, -⟩ := hL.bk
  have HR : Hid (∀ q, g < (w.drewN q).heap.size ∧ (w.drewN q).cell? ⟨g, F.length, none⟩ = some (.int .i64 (-4000)) ∧ (w.drewN q).cell? ⟨g, F.length + 1, none⟩ = some (.int .i64 (-4001)) ∧ (w.drewN q).cell? ⟨g, F.length + 2, none⟩ = some (.int .i64 (-4002))) := fun q => by
    have k1 : (w.drewN q).heap[g]? = some (.cells cs 3 (0, 0)) := h1
    exact ⟨lt_of_heap k1, by rw [cell_at k1]; exact h2, by rw [cell_at k1]; exact h3, by rw [cell_at k1]; exact h4⟩
  clear hL hF h1 h2 h3 h4
  go_enter Tryd.func15, Tryd.ntmps15
  go_wp2
  go_loopw [5] (fun i wx => ∃ k : Nat, k ≤ F.length ∧ i = .int .i64 k ∧ Hid (∃ q, wx = w.drewN q)) (fun i _ => F.length - (intOf i).toNat)
  case atStart => exact ⟨0, Nat.zero_le _, rfl, ⟨0, rfl⟩⟩
  case round =>
    obtain ⟨k, hk, rfl, HW⟩ := hrel
    obtain ⟨q, hq⟩ := HW.out
    have HQ : Hid (wr = w.drewN q) := hq
    by_cases hlt : k < F.length
    · obtain ⟨b, o, c, b', o', c', x, y, e, e', hz, y1, -⟩ := HX.out.at_ k hlt
      simp only [Value.slice.injEq, Option.some.injEq, Addr.mk.injEq] at e e'
      obtain ⟨⟨rfl, rfl, -⟩, -, -⟩ := e
      obtain ⟨rfl, -, -⟩ := e'
      obtain ⟨q1, q2, q3, q4⟩ := hz wr (by rw [hq]; exact (Turned.refl [] w).drewN q)
      obtain rfl : x = y := Classical.byContradiction fun h => y1 h rfl
      rw [Nat.zero_add] at q3
      clear hz y1 hq
      go_wp2
      go_quiet (fail)
      go_wp2
      go_roundw
      case rel => exact ⟨k + 1, by omega, by go_num, ⟨_, by rw [HQ.out, World.drewN_drewN]⟩⟩
      case measure => simp [intOf]; omega
    · obtain rfl : k = F.length := by omega
      obtain ⟨m1, m2, m3, m4⟩ := HR.out q
      rw [← hq] at m1 m2 m3 m4
      clear hq
      go_wp2
      go_ret
      exact ⟨rfl, q, HQ.out⟩
end Go.Proofs.YtbielnehggcaoaaDoor
/-
  The document's search in memory: what was tried in vain. (By the verifier; no statement.)
-/
namespace Go.Proofs.YtbielnehggcaoaaDoor
open Go.RowKit
/-- A state's two slices: their addresses and rooms. -/
abbrev SP := (Option Addr × Nat) × (Option Addr × Nat)
abbrev encS (n m : Nat) : SP → List Value := fun p => [.slice p.1.1 n p.1.2, .slice p.2.1 m p.2.2]
theorem enS (n m : Nat) : En 2 (encS n m) := ⟨fun _ => rfl, fun r u hu => by
  simp only [encS, List.mem_cons, List.not_mem_nil, or_false] at hu
  rcases hu with rfl | rfl <;> rfl⟩
theorem elS : El 86 113 2 48 (.agg #[.slice none 0 0, .slice none 0 0]) := ⟨by kernel_rfl, by kernel_rfl, rfl, by decide, by decide⟩
/-- A state as it lies in memory. -/
structure ST (n m B : Nat) (w : World) (p : SP) (bs : List Bool) (cs : List Int) : Prop where
  i : OW 4 1 encB B w (.slice p.1.1 n p.1.2) bs
  c : IR B w (.slice p.2.1 m p.2.2) cs
  li : bs.length = n
  lc : cs.length = m
/-- Blocks that are none of a state's rows. -/
def Odd (w : World) (F : List Nat) : Prop := ∀ g, g ∈ F → ∃ cs T, w.heap[g]? = some (.cells cs T (0, 0)) ∧ T ≠ 4 ∧ T ≠ 3
theorem ST.keep {n m B : Nat} {w w' : World} {p : SP} {bs : List Bool} {cs : List Int} {F : List Nat} (h : ST n m B w p bs cs) (ht : Turned F w w') (hF : Odd w F) : ST n m B w' p bs cs := by
  refine ⟨h.i.keep ht fun g hg hm => ?_, h.c.keep ht fun g hg hm => ?_, h.li, h.lc⟩
  · obtain ⟨cs1, h1⟩ := h.i.type hg
    obtain ⟨cs2, T, h2, h3, _⟩ := hF g hm
    rw [h1] at h2
    simp only [Option.some.injEq, Obj.cells.injEq] at h2
    exact h3 h2.2.1.symm
  · obtain ⟨cs1, h1⟩ := h.c.type hg
    obtain ⟨cs2, T, h2, _, h3⟩ := hF g hm
    rw [h1] at h2
    simp only [Option.some.injEq, Obj.cells.injEq] at h2
    exact h3 h2.2.1.symm
theorem ST.still {n m B : Nat} {w w' : World} {p : SP} {bs : List Bool} {cs : List Int} (h : ST n m B w p bs cs) (ht : Turned [] w w') : ST n m B w' p bs cs := h.keep ht (fun g hg => by cases hg)
/-- How many calls there can be, where r are left. -/
def tN : Nat → Nat
  | 0 => 1
  | r + 1 => 1 + (r + 1) * tN r
theorem tN_pos (r : Nat) : 1 ≤ tN r := by
  cases r with
  | zero => exact Nat.le_refl 1
  | succ r => unfold tN; omega
theorem tN_mono {a b : Nat} (h : a ≤ b) : tN a ≤ tN b := by
  induction h with
  | refl => exact Nat.le_refl _
  | @step b _ ih =>
    refine Nat.le_trans ih ?_
    show tN b ≤ 1 + (b + 1) * tN b
    have : tN b ≤ (b + 1) * tN b := Nat.le_mul_of_pos_left _ (by omega)
    omega
/-- What was tried in vain, in memory: row by row. -/
structure HU (D : List Dd) (m B xb vb : Nat) (lv : Value) (gs : List Nat) (N : Nat) (w : World) : Prop where
  hx : w.heap[xb]? = some (.cells #[lv, .slice (some ⟨vb, 0, none⟩) (D.length + 1) (D.length + 1)] 82 (0, 0))
  bv : B ≤ vb
  bw : B ≤ w.heap.size
  ty : ∀ g, g ∈ gs → B ≤ g ∧ ∃ cs, w.heap[g]? = some (.cells cs 86 (0, 0))
  ex : ∃ (cs : Array Value) (vs : Nat → Value) (L : Nat → List SP), w.heap[vb]? = some (.cells cs 113 (0, 0)) ∧ cs.size = D.length + 1 ∧ (∀ j, j ≤ D.length → cs[j]? = some (vs j) ∧ OW 86 2 (encS D.length m) B w (vs j) (L j) ∧ (∀ g, (vs j).ownBlock = some g → g ∈ gs) ∧ (L j).length ≤ N ∧ ∀ p, p ∈ L j → ∃ bs cs, ST D.length m B w p bs cs ∧ ¬ Can D (pL bs) (vL cs)) ∧ ∀ i j, i ≤ D.length → j ≤ D.length → i ≠ j → (vs i).ownBlock = none ∨ (vs i).ownBlock ≠ (vs j).ownBlock
section
variable {D : List Dd} {m B xb vb N : Nat} {lv : Value} {gs : List Nat} {w : World}
theorem HU.odd (h : HU D m B xb vb lv gs N w) : Odd w (vb :: gs) := fun g hg => by
  rcases List.mem_cons.1 hg with rfl | hg
  · obtain ⟨cs, _, _, h1, _⟩ := h.ex
    exact ⟨cs, _, h1, by decide, by decide⟩
  · obtain ⟨_, cs, h1⟩ := h.ty g hg
    exact ⟨cs, _, h1, by decide, by decide⟩
theorem HU.still (h : HU D m B xb vb lv gs N w) {w' : World} (ht : Turned [] w w') : HU D m B xb vb lv gs N w' := by
  obtain ⟨cs, vs, L, h1, h2, h3, h4⟩ := h.ex
  refine ⟨ht.heap h.hx (by simp), h.bv, Nat.le_trans h.bw ht.size, fun g hg => ?_, cs, vs, L, ht.heap h1 (by simp), h2, fun j hj => ?_, h4⟩
  · obtain ⟨g1, c, g2⟩ := h.ty g hg
    exact ⟨g1, c, ht.heap g2 (by simp)⟩
  · obtain ⟨j1, j2, j3, j4, j5⟩ := h3 j hj
    refine ⟨j1, j2.still ht, j3, j4, fun p hp => ?_⟩
    obtain ⟨bs, cs, s1, s2⟩ := j5 p hp
    exact ⟨bs, cs, s1.still ht, s2⟩
theorem HU.mono (h : HU D m B xb vb lv gs N w) {N' : Nat} (hN : N ≤ N') : HU D m B xb vb lv gs N' w := by
  obtain ⟨cs, vs, L, h1, h2, h3, h4⟩ := h.ex
  refine ⟨h.hx, h.bv, h.bw, h.ty, cs, vs, L, h1, h2, fun j hj => ?_, h4⟩
  obtain ⟨j1, j2, j3, j4, j5⟩ := h3 j hj
  exact ⟨j1, j2, j3, Nat.le_trans j4 hN, j5⟩
theorem HU.ne (h : HU D m B xb vb lv gs N w) : xb ≠ vb ∧ xb ∉ gs := by
  obtain ⟨cs, _, _, h1, _⟩ := h.ex
  refine ⟨tyne h.hx h1 (by decide), fun hm => ?_⟩
  obtain ⟨_, c, h2⟩ := h.ty xb hm
  exact tyne h.hx h2 (by decide) rfl
/-- The hunt's own block. -/
theorem HU.hunt (h : HU D m B xb vb lv gs N w) : xb < w.heap.size ∧ w.cell? ⟨xb, 0, none⟩ = some lv ∧ w.cell? ⟨xb, 1, none⟩ = some (.slice (some ⟨vb, 0, none⟩) (D.length + 1) (D.length + 1)) :=
  ⟨lt_of_heap h.hx, by rw [cell_at h.hx]; rfl, by rw [cell_at h.hx]; rfl⟩
/-- A row of states that were tried in vain. -/
theorem HU.row (h : HU D m B xb vb lv gs N w) {n : Nat} (hn : n ≤ D.length) : ∃ (a : Option Addr) (c : Nat) (R : List SP), vb < w.heap.size ∧ w.cell? ⟨vb, n, none⟩ = some (.slice a R.length c) ∧ w.frozen? ⟨vb, n, none⟩ = false ∧ R.length ≤ N ∧ (∀ i, i < R.length → ∃ b o p bs cs, a = some ⟨b, o, none⟩ ∧ (∀ y, Turned [] w y → b < y.heap.size ∧ y.cell? ⟨b, o + i * 2, none⟩ = some (.slice p.1.1 D.length p.1.2) ∧ y.cell? ⟨b, o + i * 2 + 1, none⟩ = some (.slice p.2.1 m p.2.2)) ∧ ST D.length m B w p bs cs ∧ ¬ Can D (pL bs) (vL cs)) := by
  obtain ⟨cs, vs, L, h1, h2, h3, h4⟩ := h.ex
  obtain ⟨j1, j2, j3, j4, j5⟩ := h3 n hn
  obtain ⟨a, c, e⟩ := j2.slice
  refine ⟨a, c, L n, lt_of_heap h1, by rw [cell_at h1, j1, e], froz_at h1 n, j4, fun i hi => ?_⟩
  obtain ⟨b, o, c', e', _, hc⟩ := j2.view.get (enS _ _) (by decide) hi
  rw [e] at e'
  simp only [Value.slice.injEq] at e'
  obtain ⟨bs, cs', s1, s2⟩ := j5 (L n)[i] (List.getElem_mem hi)
  refine ⟨b, o, (L n)[i], bs, cs', e'.1, fun y hy => ?_, s1, s2⟩
  have c0 := hy.cell (hc 0 _ rfl) (by simp)
  have c1 := hy.cell (hc 1 _ rfl) (by simp)
  exact ⟨World.block_lt_of_cell? _ _ c0, c0, by rw [Nat.add_assoc]; exact c1⟩
/-- One more was tried in vain: its row grows. -/
theorem HU.push (h : HU D m B xb vb lv gs N w) {n : Nat} (hn : n ≤ D.length) {p : SP} {bs : List Bool} {cs0 : List Int} (hS : ST D.length m B w p bs cs0) (hno : ¬ Can D (pL bs) (vL cs0)) : ∃ (v : Value) (R : List SP), w.cell? ⟨vb, n, none⟩ = some v ∧ OW 86 2 (encS D.length m) B w v R ∧ R.length ≤ N ∧ (∀ g, v.ownBlock = some g → g ∈ gs) ∧ vb ∉ v.ownBlock.toList ∧ xb ∉ v.ownBlock.toList ∧
    ∀ w1 v' w2, Turned [] w w1 → OW 86 2 (encS D.length m) B w2 v' (R ++ [p]) → Turned v.ownBlock.toList w1 w2 → (v'.ownBlock = v.ownBlock ∨ v'.ownBlock = some w1.heap.size) → Turned (vb :: gs) w (w2.setCell ⟨vb, n, none⟩ v') ∧ ∃ gs', HU D m B xb vb lv gs' (N + 1) (w2.setCell ⟨vb, n, none⟩ v') ∧ ∀ g, g ∈ gs' → g ∈ gs ∨ w.heap.size ≤ g := by
  obtain ⟨cs, vs, L, h1, h2, h3, h4⟩ := h.ex
  obtain ⟨j1, j2, j3, j4, j5⟩ := h3 n hn
  have hodd := h.odd
  have hnx := h.ne
  have hvb : vb ∉ (vs n).ownBlock.toList := fun hm => by
    simp only [Option.mem_toList] at hm
    obtain ⟨_, c, g2⟩ := h.ty vb (j3 vb hm)
    exact tyne h1 g2 (by decide) rfl
  have hxb : xb ∉ (vs n).ownBlock.toList := fun hm => by
    simp only [Option.mem_toList] at hm
    exact hnx.2 (j3 xb hm)
  refine ⟨vs n, L n, by rw [cell_at h1, j1], j2, j4, j3, hvb, hxb, fun w1 v' w2 hT1 hO hT2 hV => ?_⟩
  have hT3 : Turned (vb :: gs) w w2 := (hT1.mono (by simp)).trans (hT2.mono fun g hg => by
    simp only [Option.mem_toList] at hg
    exact List.mem_cons_of_mem _ (j3 g hg))
  have hT : Turned (vb :: gs) w (w2.setCell ⟨vb, n, none⟩ v') := hT3.set (.inl List.mem_cons_self) _ _
  have hset : Turned [vb] w2 (w2.setCell ⟨vb, n, none⟩ v') := (Turned.refl [vb] w2).set (by simp) _ _
  have b1 : w2.heap[vb]? = some (.cells cs 113 (0, 0)) := (hT1.trans (l := []) (Turned.refl [] w1)).heap h1 (by simp) |> fun e => hT2.heap e hvb
  have s1 := hT1.size
  have hkeep : ∀ g, g ∈ gs → (vs n).ownBlock ≠ some g → ∀ c, w.heap[g]? = some (.cells c 86 (0, 0)) → (w2.setCell ⟨vb, n, none⟩ v').heap[g]? = some (.cells c 86 (0, 0)) := fun g _ hv c g2 => by
    have hgv : g ≠ vb := tyne g2 h1 (by decide)
    exact hset.heap (hT2.heap (hT1.heap g2 (by simp)) (by simpa using hv)) (by simpa using hgv)
  have hO2 : OW 86 2 (encS D.length m) B (w2.setCell ⟨vb, n, none⟩ v') v' (L n ++ [p]) := hO.keep hset fun g hg hm => by
    obtain ⟨c, g2⟩ := hO.type hg
    exact tyne g2 b1 (by decide) (List.mem_singleton.1 hm)
  refine ⟨hT, v'.ownBlock.toList ++ gs.filter (fun g => decide ((vs n).ownBlock ≠ some g)), ⟨?_, h.bv, Nat.le_trans h.bw hT.size, fun g hg => ?_, cs.setIfInBounds n v', fun j => if j = n then v' else vs j, fun j => if j = n then L n ++ [p] else L j, blk_set b1 n v', by simp [h2], fun j hj => ?_, fun i j hi hj hij => ?_⟩, fun g hg => ?_⟩
  · exact hset.heap (hT3.heap h.hx (by simp; exact hnx)) (by simpa using hnx.1)
  · rcases List.mem_append.1 hg with hg | hg
    · simp only [Option.mem_toList] at hg
      obtain ⟨c, g2⟩ := hO2.type hg
      exact ⟨(hO2.fresh hg).1, c, g2⟩
    · obtain ⟨hg, hne⟩ := List.mem_filter.1 hg
      obtain ⟨g1, c, g2⟩ := h.ty g hg
      exact ⟨g1, c, hkeep g hg (by simpa using hne) c g2⟩
  · by_cases e : j = n
    · subst e
      simp only [if_true]
      refine ⟨?_, hO2, fun g hg => ?_, by rw [List.length_append]; simp; exact j4, fun q hq => ?_⟩
      · rw [set_at (by omega), if_pos rfl]
      · exact List.mem_append_left _ (by simpa using hg)
      · rcases List.mem_append.1 hq with hq | hq
        · obtain ⟨b2, c2, s2, s3⟩ := j5 q hq
          exact ⟨b2, c2, s2.keep hT hodd, s3⟩
        · rw [List.mem_singleton.1 hq]
          exact ⟨bs, cs0, hS.keep hT hodd, hno⟩
    · simp only [if_neg e]
      obtain ⟨i1, i2, i3, i4, i5⟩ := h3 j hj
      refine ⟨?_, ?_, fun g hg => ?_, by omega, fun q hq => ?_⟩
      · rw [set_at (by omega), if_neg (fun e2 => e e2.symm)]
        exact i1
      · refine i2.keep (F := vb :: (vs n).ownBlock.toList) (((hT1.mono (by simp)).trans (hT2.mono fun g hg => List.mem_cons_of_mem _ hg)).set (.inl List.mem_cons_self) _ _) fun g hg hm => ?_
        rcases List.mem_cons.1 hm with rfl | hm
        · obtain ⟨c, g2⟩ := i2.type hg
          exact tyne g2 h1 (by decide) rfl
        · simp only [Option.mem_toList] at hm
          rcases h4 j n hj hn e with h5 | h5
          · rw [h5] at hg; cases hg
          · exact h5 (by rw [hg, hm])
      · refine List.mem_append_right _ (List.mem_filter.2 ⟨i3 g hg, ?_⟩)
        rcases h4 j n hj hn e with h5 | h5
        · rw [h5] at hg; cases hg
        · simp only [decide_eq_true_eq]
          intro h6
          exact h5 (by rw [hg, h6])
      · obtain ⟨b2, c2, s2, s3⟩ := i5 q hq
        exact ⟨b2, c2, s2.keep hT hodd, s3⟩
  · have key : ∀ q, q ≤ D.length → q ≠ n → (vs q).ownBlock = none ∨ (vs q).ownBlock ≠ v'.ownBlock := fun q hq hqn => by
      rcases hV with e | e
      · rw [e]; exact h4 q n hq hn hqn
      · rw [e]
        cases ho : (vs q).ownBlock with
        | none => exact .inl rfl
        | some g =>
          refine .inr fun e2 => ?_
          have := ((h3 q hq).2.1.fresh ho).2
          cases e2
          omega
    by_cases e1 : i = n
    · have e2 : j ≠ n := fun e2 => hij (by rw [e1, e2])
      simp only [if_pos e1, if_neg e2]
      rcases key j hj e2 with h5 | h5
      · cases hv : v'.ownBlock with
        | none => exact .inl rfl
        | some g => rw [h5]; exact .inr (by simp)
      · exact .inr (fun e => h5 e.symm)
    · simp only [if_neg e1]
      by_cases e2 : j = n
      · simp only [if_pos e2]
        exact key i hi e1
      · simp only [if_neg e2]
        exact h4 i j hi hj hij
  · rcases List.mem_append.1 hg with hg | hg
    · simp only [Option.mem_toList] at hg
      rcases hV with e | e
      · rw [e] at hg
        exact .inl (j3 g hg)
      · rw [e] at hg
        cases hg
        exact .inr s1
    · exact .inl (List.mem_filter.1 hg).1
end
end Go.Proofs.YtbielnehggcaoaaDoor
/-
  The document's search in the midst of a call. (By the verifier; no statement.)
-/
namespace Go.Proofs.YtbielnehggcaoaaDoor
open Go.RowKit
theorem outN_succ (k : Nat) (S : Pl) : outN (k + 1) S = outN k S + (if S k then 0 else 1) := by
  unfold outN
  rw [List.range_succ, List.filter_append, List.length_append]
  cases hh : S k <;> simp [hh]
theorem outN_mono {k n : Nat} (h : k ≤ n) (S : Pl) : outN k S ≤ outN n S := by
  induction h with
  | refl => exact Nat.le_refl _
  | step _ ih => rw [Nat.succ_eq_add_one, outN_succ]; omega
theorem elI : El 3 22 1 8 (.int .i64 0) := ⟨by kernel_rfl, by kernel_rfl, rfl, by decide, by decide⟩
theorem enI : En 1 (fun q : Int => [Value.int .i64 q]) := ⟨fun _ => rfl, fun r u hu => by rw [List.mem_singleton.1 hu]; rfl⟩
theorem flat_single {α : Type} (f : α → Value) : ∀ l : List α, l.flatMap (fun q => [f q]) = l.map f
  | [] => rfl
  | x :: l => by rw [List.flatMap_cons, flat_single f l]; rfl
theorem OW.ir {B : Nat} {w : World} {v : Value} {l : List Int} (h : OW 3 1 (fun q : Int => [Value.int .i64 q]) B w v l) : IR B w v l := ⟨by rw [← flat_single (Value.int .i64 ·)]; exact h.own⟩
theorem IR.ow {B : Nat} {w : World} {v : Value} {l : List Int} (h : IR B w v l) : OW 3 1 (fun q : Int => [Value.int .i64 q]) B w v l := ⟨by rw [flat_single (Value.int .i64 ·)]; exact h.own⟩
/-- A new state, just made. -/
structure TS (n m : Nat) (x : World) (tb : Nat) (q : SP) (bs : List Bool) (cs : List Int) (y : World) : Prop where
  tu : Turned [] x y
  st : ST n m x.heap.size y q bs cs
  bk : y.heap[tb]? = some (.cells #[.slice q.1.1 n q.1.2, .slice q.2.1 m q.2.2] 86 (0, 0))
  le : x.heap.size ≤ tb
theorem ts_of {n m : Nat} {x y : World} {bs : List Bool} {cs : List Int} {cs1 cs2 : Array Value} {cap1 cap2 g1 g2 tb : Nat} (h1 : NR 1 encB bs cs1 cap1) (h2 : NR 1 (fun q : Int => [Value.int .i64 q]) cs cs2 cap2) (hb : bs.length = n) (hc : cs.length = m) (k1 : y.heap[g1]? = some (.cells cs1 4 (0, 0))) (k2 : y.heap[g2]? = some (.cells cs2 3 (0, 0))) (k3 : y.heap[tb]? = some (.cells #[.slice (some ⟨g1, 0, none⟩) n cap1, .slice (some ⟨g2, 0, none⟩) m cap2] 86 (0, 0))) (l1 : x.heap.size ≤ g1) (l2 : x.heap.size ≤ g2) (l3 : x.heap.size ≤ tb) (ht : Turned [] x y) : TS n m x tb ((some ⟨g1, 0, none⟩, cap1), (some ⟨g2, 0, none⟩, cap2)) bs cs y :=
  ⟨ht, ⟨by rw [← hb]; exact h1.own enB k1 l1, by rw [← hc]; exact (h2.own enI k2 l2).ir, hb, hc⟩, k3, l3⟩
theorem OW.put1 {α : Type} {f : α → Value} {T B g n c : Nat} {x : World} {l : List α} (h : OW T 1 (fun r => [f r]) B x (.slice (some ⟨g, 0, none⟩) n c) l) (k : Nat) (z : α) : OW T 1 (fun r => [f r]) B (x.setCell ⟨g, k, none⟩ (f z)) (.slice (some ⟨g, 0, none⟩) n c) (l.set k z) := by
  rcases h.own.2 with ⟨e, _⟩ | ⟨g', c', cs, e, hb, hg, h3⟩
  · cases e
  · cases e
    obtain ⟨q1, q2, q3, q4⟩ := h3
    refine ⟨by rw [flat_single]; simp, .inr ⟨g, c, cs.setIfInBounds k (f z), by simp, hb, blk_set hg k _, by simpa using q1, q2, by simpa using q3, ?_⟩⟩
    rw [flat_single] at q4 ⊢
    rw [List.length_set, Array.toList_setIfInBounds, List.take_set, q4, List.map_set]
/-- The new state is marked, and its cell is written. -/
theorem TS.mark {n m : Nat} {x y : World} {tb : Nat} {q : SP} {bs : List Bool} {cs : List Int} (h : TS n m x tb q bs cs y) {k a : Nat} (hk : k < n) (ha : a < m) (u : Int) : ∃ ib cb, q.1.1 = some ⟨ib, 0, none⟩ ∧ q.2.1 = some ⟨cb, 0, none⟩ ∧ tb < y.heap.size ∧ y.cell? ⟨tb, 0, none⟩ = some (.slice (some ⟨ib, 0, none⟩) n q.1.2) ∧ ib < y.heap.size ∧ (∃ b0, y.cell? ⟨ib, k, none⟩ = some (.bool b0)) ∧ y.frozen? ⟨ib, k, none⟩ = false ∧
    (∀ y1, y1 = y.setCell ⟨ib, k, none⟩ (.bool true) → tb < y1.heap.size ∧ y1.cell? ⟨tb, 1, none⟩ = some (.slice (some ⟨cb, 0, none⟩) m q.2.2) ∧ cb < y1.heap.size ∧ (∃ c0, y1.cell? ⟨cb, a, none⟩ = some (.int .i64 c0)) ∧ y1.frozen? ⟨cb, a, none⟩ = false ∧ Turned [] x y1 ∧
      TS n m x tb q (bs.set k true) (cs.set a u) (y1.setCell ⟨cb, a, none⟩ (.int .i64 u))) := by
  have hkl : k < bs.length := by rw [h.st.li]; exact hk
  have hal : a < cs.length := by rw [h.st.lc]; exact ha
  obtain ⟨ib, c1, e1⟩ := h.st.i.at_ (fun e => by rw [e] at hkl; simp at hkl)
  obtain ⟨cb, c2, e2⟩ := h.st.c.at_ (fun e => by rw [e] at hal; simp at hal)
  simp only [Value.slice.injEq] at e1 e2
  have bk := h.bk
  have hi := h.st.i
  have hc := h.st.c
  rw [e1.1] at bk hi
  rw [e2.1] at bk hc
  obtain ⟨z1, t1⟩ := hi.type rfl
  obtain ⟨z2, t2⟩ := hc.type rfl
  have f1 := (hi.fresh rfl).1
  have f2 := (hc.fresh rfl).1
  obtain ⟨b3, o3, c3, e3, -, h3⟩ := hi.view.get1 hkl
  simp only [Value.slice.injEq, Option.some.injEq, Addr.mk.injEq] at e3
  obtain ⟨⟨rfl, rfl, -⟩, -, -⟩ := e3
  have h4 := (show IR x.heap.size y (.slice (some ⟨cb, 0, none⟩) cs.length q.2.2) cs by rw [h.st.lc]; exact hc).cells hal
  have n1 : ib ≠ cb := tyne t1 t2 (by decide)
  have n2 : tb ≠ ib := tyne bk t1 (by decide)
  have n3 : tb ≠ cb := tyne bk t2 (by decide)
  refine ⟨ib, cb, e1.1, e2.1, lt_of_heap bk, by rw [cell_at bk]; rfl, lt_of_heap t1, ⟨_, by simpa using h3⟩, froz_at t1 k, fun y1 hy1 => ?_⟩
  subst hy1
  have hs1 : Turned [ib] y (y.setCell ⟨ib, k, none⟩ (.bool true)) := (Turned.refl [ib] y).set (by simp) _ _
  have bk1 := hs1.heap bk (by simpa using n2)
  have t3 := hs1.heap t2 (by simpa using fun e => n1 e.symm)
  have hT1 : Turned [] x (y.setCell ⟨ib, k, none⟩ (.bool true)) := h.tu.set (.inr f1) _ _
  refine ⟨lt_of_heap bk1, by rw [cell_at bk1]; rfl, lt_of_heap t3, ⟨_, hs1.cell h4 (by simpa using fun e => n1 e.symm)⟩, froz_at t3 a, hT1, ?_⟩
  have hs2 : Turned [cb] (y.setCell ⟨ib, k, none⟩ (.bool true)) ((y.setCell ⟨ib, k, none⟩ (.bool true)).setCell ⟨cb, a, none⟩ (.int .i64 u)) := (Turned.refl [cb] _).set (by simp) _ _
  have j1 : OW 4 1 encB x.heap.size (y.setCell ⟨ib, k, none⟩ (.bool true)) (.slice (some ⟨ib, 0, none⟩) n q.1.2) (bs.set k true) := hi.put1 k true
  have j2 : IR x.heap.size (y.setCell ⟨ib, k, none⟩ (.bool true)) (.slice (some ⟨cb, 0, none⟩) m q.2.2) cs := hc.keep hs1 fun g hg => by cases hg; simpa using fun e => n1 e.symm
  refine ⟨hT1.set (.inr f2) _ _, ⟨?_, ?_, by simp [h.st.li], by simp [h.st.lc]⟩, ?_, h.le⟩
  · rw [e1.1]
    exact j1.keep hs2 fun g hg => by cases hg; simpa using n1
  · rw [e2.1]
    exact (j2.ow.put1 a u).ir
  · rw [e1.1, e2.1]
    exact hs2.heap bk1 (by simpa using n3)
/-- A sentence in a box. -/
structure Bx (P : Prop) : Prop where
  ex : P
/-- What a call of the search leaves. -/
structure GoP (D : List Dd) (m B xb vb : Nat) (lv : Value) (bs : List Bool) (cs : List Int) (os : List Nat) (gs : List Nat) (N : Nat) (w : World) (r : Ending) (w' : World) : Prop where
  tu : Turned (vb :: gs) w w'
  hu : ∃ gs', HU D m B xb vb lv gs' (N + tN (outN D.length (pL bs))) w' ∧ ∀ g, g ∈ gs' → g ∈ gs ∨ w.heap.size ≤ g
  ans : ∃ a v ok, r = .returned (.tuple #[v, .bool ok]) ∧ Ans D (pL bs) (vL cs) a ∧ ((∃ os', a = some os' ∧ ok = true ∧ IR B w' v (ints (os ++ os'))) ∨ (a = none ∧ ok = false ∧ v = .slice none 0 0))
def GoesC (D : List Dd) (m B xb vb : Nat) (ad : Option Addr) (cap : Nat) (bs : List Bool) : Prop :=
  ∀ (cs : List Int) (os : List Nat) (gs : List Nat) (N : Nat) (w : World) (p : SP) (ov : Value), HU D m B xb vb (.slice ad D.length cap) gs N w → ST D.length m B w p bs cs → IR B w ov (ints os) → DsAt w ad D → os.length + outN D.length (pL bs) ≤ D.length → N + tN (outN D.length (pL bs)) ≤ tN 14 →
    Calls Tryd.prog 35 #[.pointer (some ⟨xb, 0, none⟩), .agg #[.slice p.1.1 D.length p.1.2, .slice p.2.1 m p.2.2], ov] w fun r w' => GoP D m B xb vb (.slice ad D.length cap) bs cs os gs N w r w'
/-- In the midst of a call. -/
structure GI (D : List Dd) (m B xb vb : Nat) (ad : Option Addr) (cap : Nat) (bs : List Bool) (cs : List Int) (os : List Nat) (w : World) (gs0 : List Nat) (sb : Nat) (p : SP) (oa : Option Addr) (oc : Nat) (N : Nat) (y : World) (gs : List Nat) : Prop where
  hu : HU D m B xb vb (.slice ad D.length cap) gs N y
  st : ST D.length m B y p bs cs
  ou : IR B y (.slice oa os.length oc) (ints os)
  ds : DsAt y ad D
  sk : y.heap[sb]? = some (.cells #[.slice p.1.1 D.length p.1.2, .slice p.2.1 m p.2.2] 86 (0, 0))
  nsb : sb ∉ vb :: gs
  tu : Turned (vb :: gs0) w y
  sub : ∀ g, g ∈ gs → g ∈ gs0 ∨ w.heap.size ≤ g
section
variable {D : List Dd} {m B xb vb : Nat} {ad : Option Addr} {cap : Nat} {bs : List Bool} {cs : List Int} {os : List Nat} {w : World} {gs0 : List Nat} {sb : Nat} {p : SP} {oa : Option Addr} {oc N : Nat} {y : World} {gs : List Nat}
theorem GI.still (h : GI D m B xb vb ad cap bs cs os w gs0 sb p oa oc N y gs) {z : World} (ht : Turned [] y z) : GI D m B xb vb ad cap bs cs os w gs0 sb p oa oc N z gs :=
  ⟨h.hu.still ht, h.st.still ht, h.ou.still ht, h.ds.still ht, ht.heap h.sk (by simp), h.nsb, h.tu.trans (ht.mono (by simp)), h.sub⟩
theorem GI.mono (h : GI D m B xb vb ad cap bs cs os w gs0 sb p oa oc N y gs) {N' : Nat} (hN : N ≤ N') : GI D m B xb vb ad cap bs cs os w gs0 sb p oa oc N' y gs :=
  ⟨h.hu.mono hN, h.st, h.ou, h.ds, h.sk, h.nsb, h.tu, h.sub⟩
/-- A call within has ended. -/
theorem GI.step (h : GI D m B xb vb ad cap bs cs os w gs0 sb p oa oc N y gs) (hb : ∀ b o, ad = some ⟨b, o, none⟩ → b < B) {z : World} {gs' : List Nat} {N' : Nat} (ht : Turned (vb :: gs) y z) (hu : HU D m B xb vb (.slice ad D.length cap) gs' N' z) (hs : ∀ g, g ∈ gs' → g ∈ gs ∨ y.heap.size ≤ g) : GI D m B xb vb ad cap bs cs os w gs0 sb p oa oc N' z gs' := by
  have hodd := h.hu.odd
  refine ⟨hu, h.st.keep ht hodd, h.ou.keep ht fun g hg hm => ?_, h.ds.keep ht fun b o e hm => ?_, ht.heap h.sk h.nsb, fun hm => ?_, h.tu.inner ht fun g hg => ?_, fun g hg => ?_⟩
  · obtain ⟨c1, h1⟩ := h.ou.type hg
    obtain ⟨c2, T, h2, _, h3⟩ := hodd g hm
    rw [h1] at h2
    simp only [Option.some.injEq, Obj.cells.injEq] at h2
    exact h3 h2.2.1.symm
  · have hlt := hb b o e
    rcases List.mem_cons.1 hm with rfl | hm
    · have := h.hu.bv; omega
    · have := (h.hu.ty b hm).1; omega
  · rcases List.mem_cons.1 hm with rfl | hm
    · exact h.nsb List.mem_cons_self
    · rcases hs sb hm with h1 | h1
      · exact h.nsb (List.mem_cons_of_mem _ h1)
      · have := lt_of_heap h.sk; omega
  · rcases List.mem_cons.1 hg with rfl | hg
    · exact .inl List.mem_cons_self
    · rcases h.sub g hg with h1 | h1
      · exact .inl (List.mem_cons_of_mem _ h1)
      · exact .inr h1
  · rcases hs g hg with h1 | h1
    · exact h.sub g h1
    · exact .inr (Nat.le_trans h.tu.size h1)
/-- What is read in the midst of a call. -/
theorem GI.reads (h : GI D m B xb vb ad cap bs cs os w gs0 sb p oa oc N y gs) : xb < y.heap.size ∧ y.cell? ⟨xb, 0, none⟩ = some (.slice ad D.length cap) ∧ y.cell? ⟨xb, 1, none⟩ = some (.slice (some ⟨vb, 0, none⟩) (D.length + 1) (D.length + 1)) ∧ sb < y.heap.size ∧ y.cell? ⟨sb, 0, none⟩ = some (.slice p.1.1 D.length p.1.2) ∧ y.cell? ⟨sb, 1, none⟩ = some (.slice p.2.1 m p.2.2) := by
  obtain ⟨h1, h2, h3⟩ := h.hu.hunt
  exact ⟨h1, h2, h3, lt_of_heap h.sk, by rw [cell_at h.sk]; rfl, by rw [cell_at h.sk]; rfl⟩
theorem GI.deed (h : GI D m B xb vb ad cap bs cs os w gs0 sb p oa oc N y gs) {j : Nat} (hj : j < D.length) : ∃ b o, ad = some ⟨b, o, none⟩ ∧ b < y.heap.size ∧ DAt y b o j (dAt D j) :=
  h.ds.deed (by unfold dAt; simp [hj])
theorem GI.isIn (h : GI D m B xb vb ad cap bs cs os w gs0 sb p oa oc N y gs) {j : Nat} (hj : j < D.length) : ∃ ib, p.1.1 = some ⟨ib, 0, none⟩ ∧ ib < y.heap.size ∧ y.cell? ⟨ib, j, none⟩ = some (.bool (pL bs j)) := by
  have hl : j < bs.length := by rw [h.st.li]; exact hj
  obtain ⟨b, o, c, e, h1, h2⟩ := h.st.i.view.get1 hl
  simp only [Value.slice.injEq] at e
  rcases h.st.i.form with ⟨e2, e3⟩ | ⟨g, c2, e2⟩
  · rw [e3] at hl; simp at hl
  · simp only [Value.slice.injEq] at e2
    have e4 := e.1.symm.trans e2.1
    simp only [Option.some.injEq, Addr.mk.injEq] at e4
    obtain ⟨rfl, rfl, -⟩ := e4
    refine ⟨b, e2.1, h1, ?_⟩
    rw [pL_at hl]
    simpa using h2
theorem GI.cell (h : GI D m B xb vb ad cap bs cs os w gs0 sb p oa oc N y gs) {j : Nat} (hj : j < m) : ∃ cb, p.2.1 = some ⟨cb, 0, none⟩ ∧ cb < y.heap.size ∧ y.cell? ⟨cb, j, none⟩ = some (.int .i64 (vL cs (j : Int))) := by
  have hl : j < cs.length := by rw [h.st.lc]; exact hj
  obtain ⟨g, c, e⟩ := h.st.c.at_ (fun e => by rw [e] at hl; simp at hl)
  simp only [Value.slice.injEq] at e
  have hc := h.st.c
  rw [e.1, e.2.1] at hc
  have h2 := hc.cells hl
  refine ⟨g, e.1, World.block_lt_of_cell? _ _ h2, ?_⟩
  rw [h2]
  simp [vL, hl]
/-- The call within. -/
theorem GI.call {T j ix : Nat} {nx : Int} {N0 : Nat} (h : GI D m B xb vb ad cap bs cs os w gs0 sb p oa oc (N0 + outN j (pL bs) * tN T) y gs) (hb : ∀ b o, ad = some ⟨b, o, none⟩ → b < B) (hj : j < D.length) (hS0 : pL bs j = false) (hT1 : outN D.length (pL bs) = T + 1) (hLn : os.length + outN D.length (pL bs) ≤ D.length) (hN : N0 + tN (outN D.length (pL bs)) ≤ tN 14) (IH : GoesC D m B xb vb ad cap (bs.set j true)) {tb : Nat} {q : SP} {y3 : World} (hS : TS D.length m y tb q (bs.set j true) (cs.set ix nx) y3) {w2 : World} {v2 : Value} (ht : Turned [] y3 w2) (ho : IR y.heap.size w2 v2 (ints (os ++ [j]))) :
    Calls Tryd.prog 35 #[.pointer (some ⟨xb, 0, none⟩), .agg #[.slice q.1.1 D.length q.1.2, .slice q.2.1 m q.2.2], v2] w2 fun r z => ∃ an v4 ok gs4, r = .returned (.tuple #[v4, .bool ok]) ∧ Ans D (pL (bs.set j true)) (vL (cs.set ix nx)) an ∧ ((∃ os', an = some os' ∧ ok = true ∧ IR B z v4 (ints ((os ++ [j]) ++ os'))) ∨ (an = none ∧ ok = false ∧ v4 = .slice none 0 0)) ∧ GI D m B xb vb ad cap bs cs os w gs0 sb p oa oc (N0 + outN (j + 1) (pL bs) * tN T) z gs4 ∧ (tb < z.heap.size ∧ z.cell? ⟨tb, 0, none⟩ = some (.slice q.1.1 D.length q.1.2) ∧ z.cell? ⟨tb, 1, none⟩ = some (.slice q.2.1 m q.2.2)) := by
  have hk : j < bs.length := by rw [h.st.li]; exact hj
  have hup : outN D.length (pL (bs.set j true)) ≤ T := by
    rw [pL_set hk]
    have := outN_upd hj hS0
    omega
  have htn := tN_mono hup
  have hsucc : outN (j + 1) (pL bs) = outN j (pL bs) + 1 := by rw [outN_succ, hS0]; rfl
  have hle : outN (j + 1) (pL bs) ≤ T + 1 := by rw [← hT1]; exact outN_mono (by omega) _
  have hr : tN (outN D.length (pL bs)) = 1 + (T + 1) * tN T := by rw [hT1]; rfl
  have hmul : (outN j (pL bs) + 1) * tN T = outN j (pL bs) * tN T + tN T := Nat.succ_mul _ _
  have hmul2 : (outN j (pL bs) + 1) * tN T ≤ (T + 1) * tN T := Nat.mul_le_mul_right _ (by omega)
  have hTw := hS.tu.trans ht
  have G := h.still hTw
  have hB : B ≤ y.heap.size := h.hu.bw
  have hbk := ht.heap hS.bk (by simp)
  have st2 := hS.st.still ht
  refine (IH (cs.set ix nx) (os ++ [j]) gs _ w2 q v2 G.hu ⟨st2.i.lower hB, st2.c.lower hB, st2.li, st2.lc⟩ (ho.lower hB) G.ds (by simp; omega) (by omega)).mono fun r z hp => ?_
  obtain ⟨an, v4, ok, h1, h2, h3⟩ := hp.ans
  obtain ⟨gs4, h4, h5⟩ := hp.hu
  have G2 := G.step hb hp.tu h4 h5
  have hbz := hp.tu.heap hbk fun hm => by
    rcases List.mem_cons.1 hm with e | e
    · obtain ⟨c, _, _, h6, _⟩ := h.hu.ex
      have := lt_of_heap h6
      have := hS.le
      omega
    · obtain ⟨_, c, h6⟩ := h.hu.ty _ e
      have := lt_of_heap h6
      have := hS.le
      omega
  exact ⟨an, v4, ok, gs4, h1, h2, h3, G2.mono (by rw [hsucc]; omega), lt_of_heap hbz, by rw [cell_at hbz]; rfl, by rw [cell_at hbz]; rfl⟩
theorem TS.still {n m : Nat} {x y z : World} {tb : Nat} {q : SP} {bs : List Bool} {cs : List Int} (h : TS n m x tb q bs cs y) (ht : Turned [] y z) : TS n m x tb q bs cs z := ⟨h.tu.trans ht, h.st.still ht, ht.heap h.bk (by simp), h.le⟩
end
end Go.Proofs.YtbielnehggcaoaaDoor
/-
  What a version holds, as the document keeps it: find by contract. (By the verifier; no statement.)
-/
namespace Go.Proofs.YtbielnehggcaoaaDoor
open Go.RowKit
abbrev encP : Int × Int → List Value := fun p => [.int .i64 p.1, .int .i64 p.2]
theorem enP : En 2 encP := ⟨fun _ => rfl, fun r u hu => by
  simp only [encP, List.mem_cons, List.not_mem_nil, or_false] at hu
  rcases hu with rfl | rfl <;> rfl⟩
theorem elP : El 67 41 2 16 (.agg #[.int .i64 0, .int .i64 0]) := ⟨by kernel_rfl, by kernel_rfl, rfl, by decide, by decide⟩
abbrev layN (l : List (Int × Int)) : Hold := Hold.none.lay l
theorem lay_take {l : List (Int × Int)} {k : Nat} (h : k < l.length) (key : Int) : layN (l.take (k + 1)) key = if key = l[k].1 then some l[k].2 else layN (l.take k) key := by
  rw [List.take_add_one, List.getElem?_eq_getElem h, Option.toList_some]
  show Hold.none.lay (l.take k ++ [l[k]]) key = _
  rw [Hold.lay_append]
  rfl
set_option maxRecDepth 100000 in
set_option maxHeartbeats 3200000 in
theorem cFind {w : World} {a : Option Addr} {c : Nat} {l : List (Int × Int)} {key : Int} (hV : VW encP w (.slice a l.length c) l) (hn : l.length ≤ 1000000000) : Calls Tryd.prog 59 #[.agg #[.slice a l.length c], .int .i64 key] w fun r w' => r = .returned (.tuple #[.int .i64 ((layN l key).getD 0), .bool (layN l key).isSome]) ∧ Turned [] w w' := by
  have HV : Hid (∀ k, k < l.length → ∃ b o, a = some ⟨b, o, none⟩ ∧ ∀ y, Turned [] w y → b < y.heap.size ∧ y.cell? ⟨b, o + k * 2, none⟩ = some (.int .i64 (l.getD k (0, 0)).1) ∧ y.cell? ⟨b, o + k * 2 + 1, none⟩ = some (.int .i64 (l.getD k (0, 0)).2)) := fun k hk => by
    obtain ⟨b, o, c', e, hb, hc⟩ := hV.get enP (by decide) hk
    simp only [Value.slice.injEq] at e
    have e2 : l.getD k (0, 0) = l[k] := by simp [hk]
    rw [e2]
    refine ⟨b, o, e.1, fun y hy => ?_⟩
    have c0 := hy.cell (hc 0 _ rfl) (by simp)
    have c1 := hy.cell (hc 1 _ rfl) (by simp)
    exact ⟨World.block_lt_of_cell? _ _ c0, c0, by rw [Nat.add_assoc]; exact c1⟩
  have HT : Hid (∀ k, k < l.length → layN (l.take (k + 1)) key = if key = (l.getD k (0, 0)).1 then some (l.getD k (0, 0)).2 else layN (l.take k) key) := fun k hk => by
    rw [lay_take hk]
    simp [hk]
  have HL : Hid (layN (l.take l.length) key = layN l key) := by rw [Hid, List.take_length]
  clear hV
  go_enter Tryd.func59, Tryd.ntmps59
  refine wp_seq_k fun K0 hK0 => ?_
  have HK0 : Hid _ := hK0
  clear hK0
  go_wp2
  refine HK0.out _ _ ?_
  clear HK0 K0
  have HT0 : Hid (Turned [] w (w.alloc (.cells #[.slice a l.length c] 118 (0, 0)))) := (Turned.refl [] w).alloc _
  have HSb : Hid ((w.alloc (.cells #[.slice a l.length c] 118 (0, 0))).heap[w.heap.size]? = some (.cells #[.slice a l.length c] 118 (0, 0))) := blk_new w _
  generalize w.alloc (.cells #[.slice a l.length c] 118 (0, 0)) = x0 at HT0 HSb ⊢
  generalize w.heap.size = sb at HSb ⊢
  have HSc : Hid (∀ y, Turned [] x0 y → sb < y.heap.size ∧ y.cell? ⟨sb, 0, none⟩ = some (.slice a l.length c)) := fun y hy => by
    have h := hy.heap HSb.out (by simp)
    exact ⟨lt_of_heap h, by rw [cell_at h]; rfl⟩
  clear HSb
  obtain ⟨s1, s2⟩ := HSc.out x0 (Turned.refl _ _)
  go_wp2
  clear s1 s2
  go_loopw [6] (fun i wx => ∃ k : Nat, k ≤ l.length ∧ i = .int .i64 ((k : Int) - 1) ∧ Hid (layN (l.take k) key = layN l key) ∧ Hid (Turned [] x0 wx)) (fun i _ => (intOf i + 1).toNat)
  case atStart => exact ⟨l.length, Nat.le_refl _, by go_num, HL, Turned.refl _ _⟩
  case round =>
    obtain ⟨k, hk, rfl, HA, HX⟩ := hrel
    obtain ⟨s1, s2⟩ := HSc.out wr HX.out
    rcases Nat.eq_zero_or_pos k with rfl | hpos
    · have HR : Hid (layN l key = none) := by rw [Hid, ← HA.out]; rfl
      go_wp2
      go_ret2
      exact ⟨by rw [HR.out]; rfl, HT0.out.trans HX.out⟩
    · obtain ⟨j, rfl⟩ : ∃ j, k = j + 1 := ⟨k - 1, by omega⟩
      obtain ⟨b, o, rfl, hc⟩ := HV.out j (by omega)
      obtain ⟨c0, c1, c2⟩ := hc wr (HT0.out.trans HX.out)
      have HTk := HT.out j (by omega)
      have hji : ((j + 1 : Nat) : Int) - 1 = (j : Int) := by omega
      rw [hji]
      clear hc hpos
      by_cases g : key = (l.getD j (0, 0)).1
      · have HR : Hid (layN l key = some (l.getD j (0, 0)).2) := by rw [Hid, ← HA.out, HTk, if_pos g]
        have g1 : ((l.getD j (0, 0)).1 == key) = true := by simp [g]
        clear g HTk
        generalize (l.getD j (0, 0)).1 = q1 at *
        generalize (l.getD j (0, 0)).2 = q2 at *
        go_wp2
        go_ret2
        exact ⟨by rw [HR.out]; rfl, HT0.out.trans HX.out⟩
      · have HA2 : Hid (layN (l.take j) key = layN l key) := by rw [Hid, ← HA.out, HTk, if_neg g]
        have g1 : ((l.getD j (0, 0)).1 == key) = false := by simpa using fun e => g e.symm
        clear g HTk
        generalize (l.getD j (0, 0)).1 = q1 at *
        generalize (l.getD j (0, 0)).2 = q2 at *
        go_wp2
        go_roundw
        case rel => exact ⟨j, by omega, by go_num, HA2, HX⟩
        case measure => simp [intOf]
end Go.Proofs.YtbielnehggcaoaaDoor
/-
  Pairs that are lent, with room behind them; by contract. (By the verifier; no statement.)
-/
namespace Go.Proofs.YtbielnehggcaoaaDoor
open Go.RowKit
theorem run_mkPr (n : Nat) (h : n * 16 ≤ 140737488355328) (w : World) :
    (Instr.makeSlice 41 (.int .i64 0) (.int .i64 ((n : Int) + 2))).run Tryd.prog w = .ok (.slice (some ⟨w.heap.size, 0, none⟩) 0 (n + 2)) (w.alloc (.cells (madeCells #[.int .i64 0, .int .i64 0] ((n + 2) * 2)) 67 (0, 0))) := by
  obtain ⟨i, hi, hzz⟩ := Option.map_eq_some_iff.1 elP.info
  simp only [Prod.mk.injEq] at hzz
  obtain ⟨hz, hs, hb⟩ := hzz
  have hr := run_make (P := Tryd.prog) w 41 67 i _ (by kernel_rfl) hi hz .i64 .i64 0 ((n : Int) + 2) (by omega) (by omega) (by rw [hb]; omega) (by omega)
  simp only [show ((n : Int) + 2).toNat = n + 2 by omega, hs, Int.toNat_zero] at hr
  exact hr
/-- Pairs that were lent: the room behind them is marked. -/
structure LentP (w : World) (B g : Nat) (F : List (Int × Int)) : Prop where
  bk : ∃ cs, w.heap[g]? = some (.cells cs 67 (0, 0)) ∧ (∀ (i : Nat) (u : Value), (F.flatMap encP)[i]? = some u → cs[i]? = some u) ∧ cs[F.length * 2]? = some (.int .i64 (-4000)) ∧ cs[F.length * 2 + 1]? = some (.int .i64 0) ∧ cs[F.length * 2 + 2]? = some (.int .i64 (-4001)) ∧ cs[F.length * 2 + 3]? = some (.int .i64 0)
  le : B ≤ g
abbrev lentPV (g : Nat) (F : List (Int × Int)) : Value := .slice (some ⟨g, 0, none⟩) F.length (F.length + 2)
theorem LentP.keep {w w' : World} {B g : Nat} {F : List (Int × Int)} {l : List Nat} (h : LentP w B g F) (ht : Turned l w w') (hl : g ∉ l) : LentP w' B g F := by
  obtain ⟨cs, h1, h2⟩ := h.bk
  exact ⟨⟨cs, ht.heap h1 hl, h2⟩, h.le⟩
theorem LentP.view {w : World} {B g : Nat} {F : List (Int × Int)} (h : LentP w B g F) : VW encP w (lentPV g F) F := by
  obtain ⟨cs, h1, h2, _⟩ := h.bk
  exact ⟨_, _, rfl, (fun h => by cases h), fun _ => ⟨g, 0, rfl, fun i u hu => by rw [Nat.zero_add, cell_at h1]; exact h2 i u hu⟩⟩
theorem lentP_of {cs : Array Value} {F : List (Int × Int)} {w : World} {B g : Nat} (hg : w.heap[g]? = some (.cells cs 67 (0, 0))) (hs : cs.size = (F.length + 2) * 2) (hc : ∀ (i : Nat) (u : Value), (F.flatMap encP)[i]? = some u → cs[i]? = some u) (hB : B ≤ g) : LentP ((((w.setCell ⟨g, F.length * 2, none⟩ (.int .i64 (-4000))).setCell ⟨g, F.length * 2 + 1, none⟩ (.int .i64 0)).setCell ⟨g, F.length * 2 + 2, none⟩ (.int .i64 (-4001))).setCell ⟨g, F.length * 2 + 3, none⟩ (.int .i64 0)) B g F := by
  have k1 := blk_set hg (F.length * 2) (.int .i64 (-4000))
  have k2 := blk_set k1 (F.length * 2 + 1) (.int .i64 0)
  have k3 := blk_set k2 (F.length * 2 + 2) (.int .i64 (-4001))
  have k4 := blk_set k3 (F.length * 2 + 3) (.int .i64 0)
  have e : ∀ j, ((((cs.setIfInBounds (F.length * 2) (.int .i64 (-4000))).setIfInBounds (F.length * 2 + 1) (.int .i64 0)).setIfInBounds (F.length * 2 + 2) (.int .i64 (-4001))).setIfInBounds (F.length * 2 + 3) (.int .i64 0))[j]? = if F.length * 2 + 3 = j then some (Value.int .i64 0) else if F.length * 2 + 2 = j then some (.int .i64 (-4001)) else if F.length * 2 + 1 = j then some (.int .i64 0) else if F.length * 2 = j then some (.int .i64 (-4000)) else cs[j]? := fun j => by
    rw [set_at (by simp; omega), set_at (by simp; omega), set_at (by simp; omega), set_at (by omega)]
  refine ⟨⟨_, k4, fun i u hu => ?_, ?_, ?_, ?_, ?_⟩, hB⟩
  · have hi : i < F.length * 2 := by
      have := (List.getElem?_eq_some_iff.1 hu).1
      rwa [rowO_len enP] at this
    rw [e, if_neg (by omega), if_neg (by omega), if_neg (by omega), if_neg (by omega)]
    exact hc i u hu
  · rw [e, if_neg (by omega), if_neg (by omega), if_neg (by omega), if_pos rfl]
  · rw [e, if_neg (by omega), if_neg (by omega), if_pos rfl]
  · rw [e, if_neg (by omega), if_pos rfl]
  · rw [e, if_pos rfl]
set_option maxRecDepth 100000 in
set_option maxHeartbeats 3200000 in
theorem cLentP {w : World} {fv : Value} {F : List (Int × Int)} (hF : VW encP w fv F) (hn : F.length * 16 ≤ 140737488355328) : Calls Tryd.prog 19 #[fv] w fun r w' => ∃ g, r = .returned (lentPV g F) ∧ LentP w' w.heap.size g F ∧ Turned [] w w' := by
  have HF : Hid (VW encP w fv F) := hF
  obtain ⟨fa, fc, rfl, -, -⟩ := hF.ex
  clear hF
  have hmk := fun y => run_mkPr F.length hn y
  have hsz : (madeCells #[.int .i64 0, .int .i64 0] ((F.length + 2) * 2)).size = (F.length + 2) * 2 := by unfold madeCells; simp
  have HEnd : Hid (∀ w1 : World, Turned [] w w1 → w1.heap[w.heap.size]? = some (.cells (F.flatMap encP ++ (madeCells #[.int .i64 0, .int .i64 0] ((F.length + 2) * 2)).toList.drop (F.length * 2)).toArray 67 (0, 0)) → (∀ j, j < (F.length + 2) * 2 → ∃ v, w1.cell? ⟨w.heap.size, j, none⟩ = some v) ∧ (∀ j, w1.frozen? ⟨w.heap.size, j, none⟩ = false) ∧ w.heap.size < w1.heap.size ∧ LentP ((((w1.setCell ⟨w.heap.size, F.length * 2, none⟩ (.int .i64 (-4000))).setCell ⟨w.heap.size, F.length * 2 + 1, none⟩ (.int .i64 0)).setCell ⟨w.heap.size, F.length * 2 + 2, none⟩ (.int .i64 (-4001))).setCell ⟨w.heap.size, F.length * 2 + 3, none⟩ (.int .i64 0)) w.heap.size w.heap.size F ∧ Turned [] w ((((w1.setCell ⟨w.heap.size, F.length * 2, none⟩ (.int .i64 (-4000))).setCell ⟨w.heap.size, F.length * 2 + 1, none⟩ (.int .i64 0)).setCell ⟨w.heap.size, F.length * 2 + 2, none⟩ (.int .i64 (-4001))).setCell ⟨w.heap.size, F.length * 2 + 3, none⟩ (.int .i64 0))) := fun w1 ht h1 => by
    have hl : (F.flatMap encP ++ (madeCells #[.int .i64 0, .int .i64 0] ((F.length + 2) * 2)).toList.drop (F.length * 2)).toArray.size = (F.length + 2) * 2 := by
      have h2 : (madeCells #[.int .i64 0, .int .i64 0] ((F.length + 2) * 2)).toList.length = (F.length + 2) * 2 := by rw [Array.length_toList]; exact hsz
      rw [List.size_toArray, List.length_append, rowO_len enP, List.length_drop, h2]
      omega
    refine ⟨fun j hj => ⟨_, by rw [cell_at h1]; exact Array.getElem?_eq_getElem (by rw [hl]; exact hj)⟩, fun j => froz_at h1 j, lt_of_heap h1, lentP_of h1 hl (fun i u hu => ?_) (Nat.le_refl _), (((ht.set (.inr (Nat.le_refl _)) _ _).set (.inr (Nat.le_refl _)) _ _).set (.inr (Nat.le_refl _)) _ _).set (.inr (Nat.le_refl _)) _ _⟩
    have hi := (List.getElem?_eq_some_iff.1 hu).1
    rw [List.getElem?_toArray, List.getElem?_append_left hi]
    exact hu
  have hcm : F.length + 2 ≤ maxLen := by unfold maxLen; omega
  have hwr : IntKind.i64.wrap ((F.length : Int) + 2) = (F.length : Int) + 2 := by simp [IntKind.wrap, IntKind.bits, IntKind.signed]; omega
  have hwr2 : wrap64 ((F.length : Int) + 2) = (F.length : Int) + 2 := by unfold wrap64; omega
  go_enter Tryd.func19, Tryd.ntmps19
  go_upto_region 2 with (at_builtin; refine wpList_roomO elP enP (g := w.heap.size) (cap := F.length + 2) (cur := madeCells #[.int .i64 0, .int .i64 0] ((F.length + 2) * 2)) (u := .slice fa F.length fc) (M := F) rfl _ _ rfl rfl (blk_new _ _) hsz rfl (HF.out.still ((Turned.refl [] w).alloc _)) (by omega) hcm ?_; intro w2 ht2 hb2; have HE2 : Hid _ := HEnd.out w2 (((Turned.refl [] w).alloc _).inner ht2 (fun q hq => .inr (by rw [List.mem_singleton.1 hq]; exact Nat.le_refl _))) hb2; clear ht2 hb2)
  obtain ⟨e1, e2, e3, e4, e5⟩ := HE2.out
  have HL : Hid _ := e4
  have HT : Hid _ := e5
  obtain ⟨v0, c0⟩ := e1 (F.length * 2) (by omega)
  obtain ⟨v1, c1⟩ := e1 (F.length * 2 + 1) (by omega)
  obtain ⟨v2, c2⟩ := e1 (F.length * 2 + 2) (by omega)
  obtain ⟨v3, c3⟩ := e1 (F.length * 2 + 3) (by omega)
  clear e1 e4 e5 HE2 HEnd hmk hsz hcm HF
  generalize hgs : w.heap.size = g at *
  have HG : Hid (w.heap.size = g) := hgs
  clear hgs
  have q1 : (F.length + 1) * 2 = F.length * 2 + 2 := by omega
  have q2 : 2 + F.length = F.length + 2 := by omega
  go_wp2
  go_ret
  exact ⟨g, rfl, ⟨HL.out.bk, by rw [HG.out]; exact Nat.le_refl _⟩, HT.out⟩
theorem neqP (a b : Int) (w : World) : (binOp .neq 67 (.agg #[.int .i64 a, .int .i64 b]) (.agg #[.int .i64 a, .int .i64 b])).run Tryd.prog w = .ok (.bool false) w := by go_simp
theorem eqP (a b : Int) (w : World) : (binOp .eql 67 (.agg #[.int .i64 a, .int .i64 b]) (.agg #[.int .i64 a, .int .i64 b])).run Tryd.prog w = .ok (.bool true) w := by go_simp
/-- A pair of a list, cell by cell, wherever it stays. -/
theorem VW.pair {w : World} {a : Option Addr} {c : Nat} {l : List (Int × Int)} (h : VW encP w (.slice a l.length c) l) {k : Nat} (hk : k < l.length) : ∃ b o, a = some ⟨b, o, none⟩ ∧ ∀ y, Turned [] w y → b < y.heap.size ∧ y.cell? ⟨b, o + k * 2, none⟩ = some (.int .i64 (l.getD k (0, 0)).1) ∧ y.cell? ⟨b, o + k * 2 + 1, none⟩ = some (.int .i64 (l.getD k (0, 0)).2) := by
  obtain ⟨b, o, c', e, hb, hc⟩ := h.get enP (by decide) hk
  simp only [Value.slice.injEq] at e
  have e2 : l.getD k (0, 0) = l[k] := by simp [hk]
  rw [e2]
  refine ⟨b, o, e.1, fun y hy => ?_⟩
  have c0 := hy.cell (hc 0 _ rfl) (by simp)
  have c1 := hy.cell (hc 1 _ rfl) (by simp)
  exact ⟨World.block_lt_of_cell? _ _ c0, c0, by rw [Nat.add_assoc]; exact c1⟩
set_option maxRecDepth 100000 in
set_option maxHeartbeats 3200000 in
theorem cStayP {w : World} {B g : Nat} {fv : Value} {F : List (Int × Int)} (hL : LentP w B g F) (hF : VW encP w fv F) (hn : F.length ≤ 140737488355328) : Calls Tryd.prog 25 #[lentPV g F, fv] w fun r w' => r = .returned (.bool true) ∧ ∃ n, w' = w.drewN n := by
  have HF : Hid (VW encP w fv F) := hF
  have HG : Hid (VW encP w (lentPV g F) F) := hL.view
  obtain ⟨fa, fc, rfl, -, -⟩ := hF.ex
  obtain ⟨cs, h1, -, h2, h3, h4, h5⟩ := hL.bk
  have HR : Hid (∀ q, g < (w.drewN q).heap.size ∧ (w.drewN q).cell? ⟨g, F.length * 2, none⟩ = some (.int .i64 (-4000)) ∧ (w.drewN q).cell? ⟨g, F.length * 2 + 1, none⟩ = some (.int .i64 0) ∧ (w.drewN q).cell? ⟨g, F.length * 2 + 2, none⟩ = some (.int .i64 (-4001)) ∧ (w.drewN q).cell? ⟨g, F.length * 2 + 3, none⟩ = some (.int .i64 0)) := fun q => by
    have k1 : (w.drewN q).heap[g]? = some (.cells cs 67 (0, 0)) := h1
    exact ⟨lt_of_heap k1, by rw [cell_at k1]; exact h2, by rw [cell_at k1]; exact h3, by rw [cell_at k1]; exact h4, by rw [cell_at k1]; exact h5⟩
  have hwr2 : wrap64 ((F.length : Int) + 2) = (F.length : Int) + 2 := by unfold wrap64; omega
  have hwr : IntKind.i64.wrap ((F.length : Int) + 2) = (F.length : Int) + 2 := by simp [IntKind.wrap, IntKind.bits, IntKind.signed]; omega
  clear hL hF h1 h2 h3 h4 h5
  go_enter Tryd.func25, Tryd.ntmps25
  go_wp2
  go_loopw [5] (fun i wx => ∃ k : Nat, k ≤ F.length ∧ i = .int .i64 k ∧ Hid (∃ q, wx = w.drewN q)) (fun i _ => F.length - (intOf i).toNat)
  case atStart => exact ⟨0, Nat.zero_le _, rfl, ⟨0, rfl⟩⟩
  case round =>
    obtain ⟨k, hk, rfl, HW⟩ := hrel
    obtain ⟨q, hq⟩ := HW.out
    have HQ : Hid (wr = w.drewN q) := hq
    by_cases hlt : k < F.length
    · obtain ⟨b, o, e, hz⟩ := HG.out.pair hlt
      obtain ⟨b', o', rfl, hz'⟩ := HF.out.pair hlt
      simp only [Option.some.injEq, Addr.mk.injEq] at e
      obtain ⟨rfl, rfl, -⟩ := e
      obtain ⟨q1, q2, q3⟩ := hz wr (by rw [hq]; exact (Turned.refl [] w).drewN q)
      obtain ⟨r1, r2, r3⟩ := hz' wr (by rw [hq]; exact (Turned.refl [] w).drewN q)
      rw [Nat.zero_add] at q2 q3
      have hne := neqP (F.getD k (0, 0)).1 (F.getD k (0, 0)).2
      clear hz hz' hq
      generalize (F.getD k (0, 0)).1 = x1 at *
      generalize (F.getD k (0, 0)).2 = x2 at *
      go_wp2
      go_quiet (fail)
      go_wp2
      go_roundw
      case rel => exact ⟨k + 1, by omega, by go_num, ⟨_, by rw [HQ.out, World.drewN_drewN]⟩⟩
      case measure => simp [intOf]; omega
    · obtain rfl : k = F.length := by omega
      obtain ⟨m1, m2, m3, m4, m5⟩ := HR.out q
      rw [← hq] at m1 m2 m3 m4 m5
      have he1 := eqP (-4000) 0
      have he2 := eqP (-4001) 0
      clear hq
      go_wp2
      go_ret
      exact ⟨rfl, q, HQ.out⟩
end Go.Proofs.YtbielnehggcaoaaDoor
/-
  Two equal lists of pairs: the law's own look, by contract. (By the verifier; no statement.)
-/
namespace Go.Proofs.YtbielnehggcaoaaDoor
open Go.RowKit
set_option maxRecDepth 100000 in
set_option maxHeartbeats 3200000 in
theorem cSameP {w : World} {gv fv : Value} {F : List (Int × Int)} (hG : VW encP w gv F) (hF : VW encP w fv F) (hn : F.length ≤ 140737488355328) : Calls Tryd.prog 42 #[gv, fv] w fun r w' => r = .returned (.bool true) ∧ ∃ n, w' = w.drewN n := by
  obtain ⟨fa, fc, rfl, -, -⟩ := hF.ex
  obtain ⟨ga, gc, rfl, -, -⟩ := hG.ex
  have HF : Hid (VW encP w (.slice fa F.length fc) F) := hF
  have HG : Hid (VW encP w (.slice ga F.length gc) F) := hG
  have hll : ((F.length : Int) != (F.length : Int)) = false := by simp
  clear hG hF
  go_enter Tryd.func42, Tryd.ntmps42
  go_wp2
  go_loopw [5] (fun i wx => ∃ k : Nat, k ≤ F.length ∧ i = .int .i64 k ∧ Hid (∃ q, wx = w.drewN q)) (fun i _ => F.length - (intOf i).toNat)
  case atStart => exact ⟨0, Nat.zero_le _, rfl, ⟨0, rfl⟩⟩
  case round =>
    obtain ⟨k, hk, rfl, HW⟩ := hrel
    obtain ⟨q, hq⟩ := HW.out
    have HQ : Hid (wr = w.drewN q) := hq
    by_cases hlt : k < F.length
    · obtain ⟨b, o, rfl, hz⟩ := HG.out.pair hlt
      obtain ⟨b', o', rfl, hz'⟩ := HF.out.pair hlt
      obtain ⟨q1, q2, q3⟩ := hz wr (by rw [hq]; exact (Turned.refl [] w).drewN q)
      obtain ⟨r1, r2, r3⟩ := hz' wr (by rw [hq]; exact (Turned.refl [] w).drewN q)
      have hne := neqP (F.getD k (0, 0)).1 (F.getD k (0, 0)).2
      clear hz hz' hq
      generalize (F.getD k (0, 0)).1 = x1 at *
      generalize (F.getD k (0, 0)).2 = x2 at *
      go_wp2
      go_quiet (fail)
      go_wp2
      go_roundw
      case rel => exact ⟨k + 1, by omega, by go_num, ⟨_, by rw [HQ.out, World.drewN_drewN]⟩⟩
      case measure => simp [intOf]; omega
    · obtain rfl : k = F.length := by omega
      clear hq
      go_wp2
      go_ret
      exact ⟨rfl, q, HQ.out⟩
end Go.Proofs.YtbielnehggcaoaaDoor
