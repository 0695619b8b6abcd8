/-
  Lists that are lent, with room behind them; by contract. (By the verifier; no statement.)
-/
import Derived.Test.YtbielnehggcaoaaDoorJ28
import Derived.Test.YtbielnehggcaoaaDoorJ26
namespace Go.Proofs.YtbielnehggcaoaaDoor
open Go.RowKit
theorem flat_singleL {α : Type} (f : α → Value) : ∀ l : List α, l.flatMap (fun q => [f q]) = l.map f
  | [] => rfl
  | x :: l => by rw [List.flatMap_cons, flat_singleL f l]; rfl
section
variable {α : Type} {T Ts : TypeId} {k y : Nat} {z : Value} {enc : α → List Value} {w : World} {u : Value} {M : List α}
/-- 'append(s, u..)' into a new block with room: what stands in it. -/
theorem run_roomO (E : El T Ts k y z) (N : En k enc) {ty : TypeId} {g cap : Nat} {cur : Array Value} (hg : w.heap[g]? = some (.cells cur T (0, 0))) (hs : cur.size = cap * k) (hu : VW enc w u M) (hc : M.length ≤ cap) (hcm : cap ≤ maxLen) :
    ∃ w', (Builtin.append_ #[Ts, Ts] ty #[.slice (some ⟨g, 0, none⟩) 0 cap, u]).run Tryd.prog w = .ok (.slice (some ⟨g, 0, none⟩) M.length cap) w' ∧ Turned [g] w w' ∧ w'.heap[g]? = some (.cells (M.flatMap enc ++ cur.toList.drop (M.length * k)).toArray T (0, 0)) := by
  obtain ⟨i, hi, hzz⟩ := Option.map_eq_some_iff.1 E.info
  simp only [Prod.mk.injEq] at hzz
  obtain ⟨hz, hs1, hb⟩ := hzz
  obtain ⟨a, c, rfl, hz0, hcc⟩ := hu.ex
  cases a with
  | none =>
    have hms : M = [] := by
      apply Classical.byContradiction
      intro hne
      obtain ⟨b, o, h, _⟩ := hcc hne
      cases h
    subst hms
    refine ⟨w, ?_, Turned.refl _ _, by simpa using hg⟩
    rw [hz0 rfl]
    exact run_append_owned_none (P := Tryd.prog) (w := w) 0 Ts ty T i k E.und hi (.slice (some ⟨g, 0, none⟩) 0 cap) 0 [] ⟨by simp, .inr ⟨g, cap, cur, rfl, Nat.zero_le _, hg, Nat.zero_le _, hcm, hs, by simp⟩⟩
  | some q =>
    have hr := run_append_room (P := Tryd.prog) w Ts ty T i E.und hi g 0 cap cur hg q M.length c (M.flatMap enc) (by rw [hs1]; exact rowO_len N M) (fun j u hj => by
      have hne : M ≠ [] := fun e => by rw [e] at hj; simp at hj
      obtain ⟨b, o, hq, hk⟩ := hcc hne
      cases hq
      have hadd : (⟨b, o, none⟩ : Addr).add j = ⟨b, o + j, none⟩ := by unfold Addr.add; split <;> simp_all
      rw [hadd]
      exact hk j u hj) (by
        intro u hu
        obtain ⟨r, _, hr⟩ := List.mem_flatMap.1 hu
        exact N.one r u hr) (by omega) (by rw [Nat.zero_mul, Nat.zero_add, rowO_len N, hs]; exact Nat.mul_le_mul_right _ hc)
    rw [Nat.zero_add] at hr
    refine ⟨_, hr, ⟨rfl, rfl, rfl, by simp, fun j _ hj => setRow_other w g j _ (by simpa using hj)⟩, ?_⟩
    rw [setRow_heap w g cur _ T _ hg]
    simp [rowO_len N]
theorem wpList_roomO (E : El T Ts k y z) (N : En k enc) {ops : Array Oper} {rest : List Oper} {o : Oper} {a : Act} {Q : Exit → Act → World → Prop} {g cap : Nat} {cur : Array Value} (hgd : o.guard = none) (p q : Operand) (ho : o.op = .call { callee := .builtin .append, args := #[p, q], argTypes := #[Ts, Ts] })
    (hsl : a.eval p = .slice (some ⟨g, 0, none⟩) 0 cap) (hg : w.heap[g]? = some (.cells cur T (0, 0))) (hs : cur.size = cap * k) (hy : a.eval q = u) (hu : VW enc w u M) (hc : M.length ≤ cap) (hcm : cap ≤ maxLen)
    (h : ∀ w', Turned [g] w w' → w'.heap[g]? = some (.cells (M.flatMap enc ++ cur.toList.drop (M.length * k)).toArray T (0, 0)) → wpList Tryd.prog ops Q rest (a.put o.dst (.slice (some ⟨g, 0, none⟩) M.length cap)) w') : wpList Tryd.prog ops Q (o :: rest) a w := by
  refine wpList_plain hgd fun K hK => ?_
  obtain ⟨w', hrun, h2, h3⟩ := run_roomO E N (ty := o.type) hg hs hu hc hcm
  unfold Oper.wp execOp
  simp only [ho, resolve, invoke, builtin, Sem.run_bind, Sem.run_pure, Result.andThen_ok, List.map_toArray, List.map_cons, List.map_nil, hsl, hy]
  simp only [hrun]
  exact hK _ _ (h w' h2 h3)
end
theorem infoIntL : (Tryd.prog.info? 3).map (fun i => (i.zero, i.size, i.bytes)) = some (some (.int .i64 0), 1, 8) := by kernel_rfl
theorem elIL : El 3 22 1 8 (.int .i64 0) := ⟨by kernel_rfl, by kernel_rfl, rfl, by decide, by decide⟩
theorem enIL : En 1 (fun q : Int => [Value.int .i64 q]) := ⟨fun _ => rfl, fun r u hu => by rw [List.mem_singleton.1 hu]; rfl⟩
theorem run_mkInt (n : Nat) (h : n ≤ 1000000) (w : World) :
    (Instr.makeSlice 22 (.int .i64 0) (.int .i64 ((n : Int) + 3))).run Tryd.prog w = .ok (.slice (some ⟨w.heap.size, 0, none⟩) 0 (n + 3)) (w.alloc (.cells (madeCells #[.int .i64 0] (n + 3)) 3 (0, 0))) := by
  obtain ⟨i, hi, hzz⟩ := Option.map_eq_some_iff.1 infoIntL
  simp only [Prod.mk.injEq] at hzz
  obtain ⟨hz, hs, hb⟩ := hzz
  have hr := run_make (P := Tryd.prog) w 22 3 i _ (by kernel_rfl) hi hz .i64 .i64 0 ((n : Int) + 3) (by omega) (by omega) (by rw [hb]; omega) (by omega)
  simp only [show ((n : Int) + 3).toNat = n + 3 by omega, hs, Nat.mul_one, Int.toNat_zero] at hr
  exact hr
/-- A list that was lent: the room behind it is marked. -/
structure Lent (w : World) (B g : Nat) (F : List Int) : Prop where
  bk : ∃ cs, w.heap[g]? = some (.cells cs 3 (0, 0)) ∧ (∀ i (h : i < F.length), cs[i]? = some (.int .i64 F[i])) ∧ cs[F.length]? = some (.int .i64 (-4000)) ∧ cs[F.length + 1]? = some (.int .i64 (-4001)) ∧ cs[F.length + 2]? = some (.int .i64 (-4002)) ∧ cs.size = F.length + 3
  le : B ≤ g
abbrev lentV (g : Nat) (F : List Int) : Value := .slice (some ⟨g, 0, none⟩) F.length (F.length + 3)
theorem Lent.keep {w w' : World} {B g : Nat} {F : List Int} {l : List Nat} (h : Lent w B g F) (ht : Turned l w w') (hl : g ∉ l) : Lent w' B g F := by
  obtain ⟨cs, h1, h2⟩ := h.bk
  exact ⟨⟨cs, ht.heap h1 hl, h2⟩, h.le⟩
theorem Lent.view {w : World} {B g : Nat} {F : List Int} (h : Lent w B g F) : IV w (lentV g F) F := by
  obtain ⟨cs, h1, h2, _⟩ := h.bk
  exact ⟨_, _, rfl, (fun h => by cases h), fun _ => ⟨g, 0, rfl, fun i hi => by rw [Nat.zero_add, cell_at h1]; exact h2 i hi⟩⟩
/-- In the midst of marking the room. -/
structure LentM (w0 w : World) (g : Nat) (F : List Int) (k : Nat) : Prop where
  tu : Turned [] w0 w
  le : w0.heap.size ≤ g
  bk : ∃ cs, w.heap[g]? = some (.cells cs 3 (0, 0)) ∧ (∀ i (h : i < F.length), cs[i]? = some (.int .i64 F[i])) ∧ (∀ i, i < k → cs[F.length + i]? = some (.int .i64 (-4000 - (i : Int)))) ∧ cs.size = F.length + 3
theorem LentM.step {w0 w : World} {g : Nat} {F : List Int} {k : Nat} (h : LentM w0 w g F k) (hk : k < 3) : g < w.heap.size ∧ (∃ v, w.cell? ⟨g, F.length + k, none⟩ = some v) ∧ w.frozen? ⟨g, F.length + k, none⟩ = false ∧ LentM w0 (w.setCell ⟨g, F.length + k, none⟩ (.int .i64 (-4000 - (k : Int)))) g F (k + 1) := by
  obtain ⟨cs, h1, h2, h3, h4⟩ := h.bk
  refine ⟨lt_of_heap h1, ⟨_, by rw [cell_at h1]; exact Array.getElem?_eq_getElem (by omega)⟩, froz_at h1 _, h.tu.set (.inr h.le) _ _, h.le, _, blk_set h1 _ _, fun i hi => ?_, fun i hi => ?_, by simp [h4]⟩
  · rw [set_at (by omega), if_neg (by omega)]
    exact h2 i hi
  · rw [set_at (by omega)]
    by_cases e : i = k
    · subst e; rw [if_pos rfl]
    · rw [if_neg (by omega)]
      exact h3 i (by omega)
theorem lentM_start {w w1 : World} {F : List Int} {o : Obj} (ht : Turned [w.heap.size] (w.alloc o) w1) (hb : w1.heap[w.heap.size]? = some (.cells (F.flatMap (fun q : Int => [Value.int .i64 q]) ++ (madeCells #[.int .i64 0] (F.length + 3)).toList.drop (F.length * 1)).toArray 3 (0, 0))) : LentM w w1 w.heap.size F 0 := by
  refine ⟨((Turned.refl [] w).alloc _).inner ht (fun q hq => .inr (by rw [List.mem_singleton.1 hq]; exact Nat.le_refl _)), Nat.le_refl _, _, hb, fun i hi => ?_, fun i hi => absurd hi (Nat.not_lt_zero i), ?_⟩
  · rw [flat_singleL, List.getElem?_toArray, List.getElem?_append_left (by simpa using hi), List.getElem?_map, List.getElem?_eq_getElem hi]
    rfl
  · rw [flat_singleL, List.size_toArray, List.length_append, List.length_map, List.length_drop, Array.length_toList]
    unfold madeCells
    simp
set_option maxRecDepth 100000 in
set_option maxHeartbeats 3200000 in
theorem cLent {w : World} {fv : Value} {F : List Int} (hF : IV w fv F) (hn : F.length ≤ 1000) : Calls Tryd.prog 10 #[fv] w fun r w' => ∃ g, r = .returned (lentV g F) ∧ Lent w' w.heap.size g F ∧ Turned [] w w' := by
  have HF : Hid (IV w fv F) := hF
  obtain ⟨fa, fc, rfl, -, -⟩ := hF.ex
  clear hF
  have hmk := fun y => run_mkInt F.length (by omega) y
  go_enter Tryd.func10, Tryd.ntmps10
  go_wp2_with (at_builtin; refine wpList_roomO elIL enIL (g := w.heap.size) (cap := F.length + 3) (cur := madeCells #[.int .i64 0] (F.length + 3)) (u := .slice fa F.length fc) (M := F) rfl _ _ rfl rfl (blk_new _ _) (by unfold madeCells; simp) rfl (HF.out.still ((Turned.refl [] w).alloc _)).vw (by omega) (by unfold maxLen; omega) ?_; intro w1 ht1 hb1; have HM0 : Hid (LentM w w1 w.heap.size F 0) := lentM_start ht1 hb1; clear ht1 hb1)
  clear hmk HF
  generalize hgs : w.heap.size = g at HM0 ⊢
  have HGs : Hid (w.heap.size = g) := hgs
  clear hgs
  go_loopw [5] (fun i wx => ∃ k : Nat, k ≤ 3 ∧ i = .int .i64 k ∧ Hid (LentM w wx g F k)) (fun i _ => 3 - (intOf i).toNat)
  case atStart => exact ⟨0, by omega, rfl, HM0⟩
  case round =>
    obtain ⟨k, hk, rfl, HM⟩ := hrel
    clear HM0
    by_cases hlt : k < 3
    · obtain ⟨m1, ⟨v0, m2⟩, m3, m4⟩ := HM.out.step hlt
      have HM2 : Hid _ := m4
      clear m4
      go_wp2
      go_roundw
      case rel => exact ⟨k + 1, by omega, by go_num, HM2⟩
      case measure => simp [intOf]; omega
    · obtain rfl : k = 3 := by omega
      go_wp2
      go_ret
      obtain ⟨cs, h1, h2, h3, h4⟩ := HM.out.bk
      exact ⟨g, rfl, ⟨⟨cs, h1, h2, h3 0 (by omega), h3 1 (by omega), h3 2 (by omega), h4⟩, by rw [HGs.out]; exact Nat.le_refl _⟩, HM.out.tu⟩
set_option maxRecDepth 100000 in
set_option maxHeartbeats 3200000 in
theorem cStays {w : World} {B g : Nat} {fv : Value} {F : List Int} (hL : Lent w B g F) (hF : IV w fv F) (hn : F.length ≤ 1000) : Calls Tryd.prog 15 #[lentV g F, fv] w fun r w' => r = .returned (.bool true) ∧ ∃ n, w' = w.drewN n := by
  have HX : Hid (Twin (Value.int .i64) w (lentV g F) fv F F) := Twin.of hL.view.vw hF.vw rfl
  obtain ⟨fa, fc, rfl, -, -⟩ := hF.ex
  obtain ⟨cs, h1, -, h2, h3, h4, -⟩ := hL.bk
  have HR : Hid (∀ q, g < (w.drewN q).heap.size ∧ (w.drewN q).cell? ⟨g, F.length, none⟩ = some (.int .i64 (-4000)) ∧ (w.drewN q).cell? ⟨g, F.length + 1, none⟩ = some (.int .i64 (-4001)) ∧ (w.drewN q).cell? ⟨g, F.length + 2, none⟩ = some (.int .i64 (-4002))) := fun q => by
    have k1 : (w.drewN q).heap[g]? = some (.cells cs 3 (0, 0)) := h1
    exact ⟨lt_of_heap k1, by rw [cell_at k1]; exact h2, by rw [cell_at k1]; exact h3, by rw [cell_at k1]; exact h4⟩
  clear hL hF h1 h2 h3 h4
  go_enter Tryd.func15, Tryd.ntmps15
  go_wp2
  go_loopw [5] (fun i wx => ∃ k : Nat, k ≤ F.length ∧ i = .int .i64 k ∧ Hid (∃ q, wx = w.drewN q)) (fun i _ => F.length - (intOf i).toNat)
  case atStart => exact ⟨0, Nat.zero_le _, rfl, ⟨0, rfl⟩⟩
  case round =>
    obtain ⟨k, hk, rfl, HW⟩ := hrel
    obtain ⟨q, hq⟩ := HW.out
    have HQ : Hid (wr = w.drewN q) := hq
    by_cases hlt : k < F.length
    · obtain ⟨b, o, c, b', o', c', x, y, e, e', hz, y1, -⟩ := HX.out.at_ k hlt
      simp only [Value.slice.injEq, Option.some.injEq, Addr.mk.injEq] at e e'
      obtain ⟨⟨rfl, rfl, -⟩, -, -⟩ := e
      obtain ⟨rfl, -, -⟩ := e'
      obtain ⟨q1, q2, q3, q4⟩ := hz wr (by rw [hq]; exact (Turned.refl [] w).drewN q)
      obtain rfl : x = y := Classical.byContradiction fun h => y1 h rfl
      rw [Nat.zero_add] at q3
      clear hz y1 hq
      go_wp2
      go_quiet (fail)
      go_wp2
      go_roundw
      case rel => exact ⟨k + 1, by omega, by go_num, ⟨_, by rw [HQ.out, World.drewN_drewN]⟩⟩
      case measure => simp [intOf]; omega
    · obtain rfl : k = F.length := by omega
      obtain ⟨m1, m2, m3, m4⟩ := HR.out q
      rw [← hq] at m1 m2 m3 m4
      clear hq
      go_wp2
      go_ret
      exact ⟨rfl, q, HQ.out⟩
end Go.Proofs.YtbielnehggcaoaaDoor
/-
  The document's own order of blames: the same blames as those that the program finds. (By the verifier; no statement, no memory.)
-/
namespace Go.Proofs.YtbielnehggcaoaaDoor
open Go.RowKit
theorem flat_perm_app {α β : Type} (F G : α → List β) : ∀ l : List α, (l.flatMap fun a => F a ++ G a).Perm (l.flatMap F ++ l.flatMap G)
  | [] => .refl _
  | a :: l => by
    simp only [List.flatMap_cons]
    refine ((flat_perm_app F G l).append_left (F a ++ G a)).trans ?_
    simp only [List.append_assoc]
    refine List.Perm.append_left _ ?_
    rw [← List.append_assoc, ← List.append_assoc]
    exact List.perm_append_comm.append_right _
theorem flat_perm {α β : Type} {F G : α → List β} : ∀ l : List α, (∀ a, a ∈ l → (F a).Perm (G a)) → (l.flatMap F).Perm (l.flatMap G)
  | [], _ => .refl _
  | a :: l, h => by
    simp only [List.flatMap_cons]
    exact (h a List.mem_cons_self).append (flat_perm l fun b hb => h b (List.mem_cons_of_mem _ hb))
theorem flat_nil {α β : Type} : ∀ l : List α, (l.flatMap fun _ => ([] : List β)) = []
  | [] => rfl
  | a :: l => by rw [List.flatMap_cons, flat_nil l]; rfl
theorem flat_swap {α β γ : Type} (F : α → β → List γ) : ∀ (l : List α) (l' : List β), (l.flatMap fun a => l'.flatMap (F a)).Perm (l'.flatMap fun b => l.flatMap fun a => F a b)
  | [], l' => by simp only [List.flatMap_nil, flat_nil]; exact .refl _
  | a :: l, l' => by
    simp only [List.flatMap_cons]
    exact ((flat_swap F l l').append_left _).trans (flat_perm_app _ _ l').symm
theorem flat_if {α β : Type} (p : α → Bool) (F : α → List β) : ∀ l : List α, (l.filter p).flatMap F = l.flatMap fun a => if p a then F a else []
  | [] => rfl
  | a :: l => by
    rw [List.flatMap_cons, ← flat_if p F l]
    cases h : p a with
    | true => rw [List.filter_cons_of_pos h, List.flatMap_cons]; rfl
    | false => rw [List.filter_cons_of_neg (by simp [h])]; rfl
theorem filter_map_flat {α β : Type} (p : α → Bool) (f : α → β) (l : List α) : (l.filter p).map f = l.flatMap fun a => if p a then [f a] else [] := by
  rw [← flat_if p (fun a => [f a]) l]
  induction l.filter p with
  | nil => rfl
  | cons a l ih => rw [List.map_cons, ih]; rfl
/-- One place alone matters. -/
theorem flat_one {β : Type} (F : Nat → List β) (k : Nat) (hF : ∀ j, j ≠ k → F j = []) : ∀ n, (List.range n).flatMap F = if k < n then F k else []
  | 0 => rfl
  | n + 1 => by
    rw [List.range_succ, List.flatMap_append, flat_one F k hF n, List.flatMap_cons, List.flatMap_nil, List.append_nil]
    rcases Nat.lt_trichotomy k n with h | h | h
    · rw [if_pos h, if_pos (by omega), hF n (by omega), List.append_nil]
    · subst h
      rw [if_neg (by omega), if_pos (by omega)]; rfl
    · rw [if_neg (by omega), if_neg (by omega), hF n (by omega)]; rfl
section
variable (m : Int) (D : List Ev)
/-- A part's versions, from u on, each as what it holds. -/
def tblL (p : Int) : Nat → Nat → Hold → List Hold
  | 0, _, f => [f]
  | g + 1, u, f => f :: (if timesN m D D.length p (u + 1) = 1 then tblL p g (u + 1) (f.chg (eAt D (placeN m D D.length p (u + 1)))) else [])
end
variable {m : Int} {D : List Ev}
theorem tbl_pos (p : Int) (g u : Nat) (f : Hold) : 1 ≤ (tblL m D p g u f).length := by
  cases g with
  | zero => exact Nat.le_refl 1
  | succ g => unfold tblL; rw [List.length_cons]; omega
theorem tell_tbl (p : Int) : ∀ (g u : Nat) (f : Hold), (tellL m D p g u f).1 = (List.range (tblL m D p g u f).length).flatMap (fun j => heldL D (endL m D D.length) p ((u + j : Nat) : Int) ((tblL m D p g u f).getD j Hold.none)) ∧ (tellL m D p g u f).2 + 1 = u + (tblL m D p g u f).length
  | 0, u, f => by
    unfold tblL tellL
    refine ⟨?_, rfl⟩
    simp [List.range_succ]
  | g + 1, u, f => by
    unfold tblL tellL
    by_cases ht : timesN m D D.length p (u + 1) = 1
    · obtain ⟨i1, i2⟩ := tell_tbl p g (u + 1) (f.chg (eAt D (placeN m D D.length p (u + 1))))
      rw [if_pos ht, if_pos ht]
      dsimp only
      refine ⟨?_, by rw [i2, List.length_cons]; omega⟩
      rw [List.length_cons, List.range_succ_eq_map, List.flatMap_cons, i1, List.flatMap_map]
      congr 1
      refine flat_congr _ fun j _ => ?_
      simp only [List.getD_cons_succ, Nat.succ_eq_add_one]
      rw [show u + 1 + j = u + (j + 1) by omega]
    · rw [if_neg ht, if_neg ht]
      refine ⟨?_, rfl⟩
      simp [List.range_succ]
/-- What a part's versions hold, from the first on. -/
def vsOf (S : List (List (Int × Int))) (D : List Ev) (p : Nat) : List Hold := tblL S.length D p D.length 1 (Hold.none.lay (S.getD p []))
theorem lastF_vs (S : List (List (Int × Int))) (D : List Ev) (p : Int) : lastF S D p = ((vsOf S D p.toNat).length : Nat) := by
  unfold lastF partT vsOf
  have := (tell_tbl (m := S.length) (D := D) (p.toNat : Int) D.length 1 (Hold.none.lay (S.getD p.toNat []))).2
  omega
/-- Why 4, of one event. -/
def fourL (S : List (List (Int × Int))) (D : List Ev) (i : Nat) : List Bm :=
  if decide (1 ≤ (eAt D i).told) && decide ((eAt D i).told ≤ (vsOf S D (eAt D i).p.toNat).length) && otherB ((vsOf S D (eAt D i).p.toNat).getD ((eAt D i).told.toNat - 1) Hold.none) (eAt D i) then [((i : Int), -1, 4)] else []
theorem held_part (S : List (List (Int × Int))) (D : List Ev) (p : Nat) : (partT S D p).1 = (List.range (vsOf S D p).length).flatMap fun j => (endL S.length D D.length).flatMap fun i => if heldB D p ((1 + j : Nat) : Int) ((vsOf S D p).getD j Hold.none) i then [((i : Int), (-1 : Int), (4 : Int))] else [] := by
  unfold partT
  rw [(tell_tbl (m := S.length) (D := D) (p : Int) D.length 1 (Hold.none.lay (S.getD p []))).1]
  refine flat_congr _ fun j _ => ?_
  unfold heldL
  rw [filter_map_flat]
  rfl
theorem held_one (S : List (List (Int × Int))) (D : List Ev) (i : Nat) (h0 : (eAt D i).snap = true ∨ (0 ≤ (eAt D i).p ∧ (eAt D i).p < S.length)) (h4 : (eAt D i).snap = true → (eAt D i).told = 0) : ((List.range S.length).flatMap fun p => (List.range (vsOf S D p).length).flatMap fun j => if heldB D p ((1 + j : Nat) : Int) ((vsOf S D p).getD j Hold.none) i then [((i : Int), (-1 : Int), (4 : Int))] else []) = fourL S D i := by
  rcases h0 with h0 | ⟨hp0, hp1⟩
  · have ht := h4 h0
    have e1 : fourL S D i = [] := by
      unfold fourL
      rw [ht, decide_eq_false (by omega)]
      rfl
    rw [e1]
    have e2 : ∀ p, ((List.range (vsOf S D p).length).flatMap fun j => if heldB D p ((1 + j : Nat) : Int) ((vsOf S D p).getD j Hold.none) i then [((i : Int), (-1 : Int), (4 : Int))] else []) = [] := fun p => by
      rw [flat_congr (G := fun _ => []) _ fun j _ => by
        unfold heldB
        rw [ht, decide_eq_false (show ¬ (0 : Int) = ((1 + j : Nat) : Int) by omega)]
        simp]
      exact flat_nil _
    rw [flat_congr (G := fun _ => []) _ fun p _ => e2 p]
    exact flat_nil _
  · rw [flat_one _ (eAt D i).p.toNat (fun p hp => by
      rw [flat_congr (G := fun _ => []) _ fun j _ => by
        unfold heldB
        rw [decide_eq_false (show ¬ (eAt D i).p = (p : Int) by omega)]
        simp]
      exact flat_nil _), if_pos (by omega)]
    by_cases h1 : 1 ≤ (eAt D i).told
    · rw [flat_one _ ((eAt D i).told.toNat - 1) (fun j hj => by
        unfold heldB
        rw [decide_eq_false (show ¬ (eAt D i).told = ((1 + j : Nat) : Int) by omega)]
        simp)]
      unfold fourL heldB
      rw [decide_eq_true h1, decide_eq_true (show (eAt D i).p = ((eAt D i).p.toNat : Int) by omega), decide_eq_true (show (eAt D i).told = ((1 + ((eAt D i).told.toNat - 1) : Nat) : Int) by omega)]
      by_cases h2 : (eAt D i).told ≤ (vsOf S D (eAt D i).p.toNat).length
      · rw [if_pos (by omega), decide_eq_true h2]
      · rw [if_neg (by omega), decide_eq_false h2]
        simp
    · have e1 : fourL S D i = [] := by
        unfold fourL
        rw [decide_eq_false h1]
        rfl
      rw [e1, flat_congr (G := fun _ => []) _ fun j _ => by
        unfold heldB
        rw [decide_eq_false (show ¬ (eAt D i).told = ((1 + j : Nat) : Int) by omega)]
        simp]
      exact flat_nil _
/-- What is blamed of one event, in the document's order ahead of its sort. -/
def refL (S : List (List (Int × Int))) (D : List Ev) (i : Nat) : List Bm :=
  (if (eAt D i).good S.length then [] else [((i : Int), -1, 1)]) ++ ((if endB S.length (eAt D i) then fourL S D i else []) ++ (if endB S.length (eAt D i) then eachL S.length D (lastF S D) i else []))
theorem good_told {m : Int} {e : Ev} (h : e.good m = true) : (e.snap = true ∨ (0 ≤ e.p ∧ e.p < m)) ∧ (e.snap = true → e.told = 0) := by
  unfold Ev.good at h
  simp only [Bool.and_eq_true] at h
  obtain ⟨⟨⟨⟨_, _⟩, _⟩, h4⟩, _⟩ := h
  unfold Ev.inPart at h4
  unfold Ev.snap Ev.told
  by_cases hk : e.k = 4
  · refine ⟨.inl (by simp [hk]), fun _ => ?_⟩
    rw [if_neg (by omega), if_neg (by omega)]
  · rw [if_neg hk] at h4
    refine ⟨.inr (by simpa using h4), fun h => ?_⟩
    exact absurd (by simpa using h) hk
/-- The program's blames and the document's are the same. -/
theorem ref_perm (S : List (List (Int × Int))) (D : List Ev) : ((List.range D.length).flatMap (refL S D)).Perm (allBm S D) := by
  unfold refL allBm
  refine (flat_perm_app _ _ _).trans (List.Perm.append ?_ ((flat_perm_app _ _ _).trans (List.Perm.append ?_ ?_)))
  · unfold wrongL
    rw [filter_map_flat]
    refine .of_eq (flat_congr _ fun i _ => ?_)
    cases (eAt D i).good S.length <;> rfl
  · rw [← flat_if (fun i => endB S.length (eAt D i)) (fourL S D)]
    have e1 : ((List.range D.length).filter fun i => endB S.length (eAt D i)) = endL S.length D D.length := rfl
    rw [e1]
    have e2 : ((List.range S.length).flatMap fun p => (partT S D p).1).Perm ((endL S.length D D.length).flatMap fun i => (List.range S.length).flatMap fun p => (List.range (vsOf S D p).length).flatMap fun j => if heldB D p ((1 + j : Nat) : Int) ((vsOf S D p).getD j Hold.none) i then [((i : Int), (-1 : Int), (4 : Int))] else []) := by
      refine .trans ?_ (flat_swap (fun p i => (List.range (vsOf S D p).length).flatMap fun j => if heldB D p ((1 + j : Nat) : Int) ((vsOf S D p).getD j Hold.none) i then [((i : Int), (-1 : Int), (4 : Int))] else []) (List.range S.length) (endL S.length D D.length))
      refine flat_perm _ fun p _ => ?_
      rw [held_part]
      exact flat_swap (fun j i => if heldB D p ((1 + j : Nat) : Int) ((vsOf S D p).getD j Hold.none) i then [((i : Int), (-1 : Int), (4 : Int))] else []) _ _
    refine .trans (.of_eq ?_) e2.symm
    refine flat_congr _ fun i hi => ?_
    have hg : (eAt D i).good S.length = true := by
      have := (mem_endL.1 hi).2
      unfold endB at this
      rw [Bool.and_eq_true] at this
      exact this.1
    obtain ⟨g1, g2⟩ := good_told hg
    rw [held_one S D i g1 g2]
  · rw [← flat_if (fun i => endB S.length (eAt D i)) (eachL S.length D (lastF S D))]
    exact .refl _
end Go.Proofs.YtbielnehggcaoaaDoor
/-
  The document's search in memory: what was tried in vain. (By the verifier; no statement.)
-/
namespace Go.Proofs.YtbielnehggcaoaaDoor
open Go.RowKit
/-- A state's two slices: their addresses and rooms. -/
abbrev SP := (Option Addr × Nat) × (Option Addr × Nat)
abbrev encS (n m : Nat) : SP → List Value := fun p => [.slice p.1.1 n p.1.2, .slice p.2.1 m p.2.2]
theorem enS (n m : Nat) : En 2 (encS n m) := ⟨fun _ => rfl, fun r u hu => by
  simp only [encS, List.mem_cons, List.not_mem_nil, or_false] at hu
  rcases hu with rfl | rfl <;> rfl⟩
theorem elS : El 86 113 2 48 (.agg #[.slice none 0 0, .slice none 0 0]) := ⟨by kernel_rfl, by kernel_rfl, rfl, by decide, by decide⟩
/-- A state as it lies in memory. -/
structure ST (n m B : Nat) (w : World) (p : SP) (bs : List Bool) (cs : List Int) : Prop where
  i : OW 4 1 encB B w (.slice p.1.1 n p.1.2) bs
  c : IR B w (.slice p.2.1 m p.2.2) cs
  li : bs.length = n
  lc : cs.length = m
/-- Blocks that are none of a state's rows. -/
def Odd (w : World) (F : List Nat) : Prop := ∀ g, g ∈ F → ∃ cs T, w.heap[g]? = some (.cells cs T (0, 0)) ∧ T ≠ 4 ∧ T ≠ 3
theorem ST.keep {n m B : Nat} {w w' : World} {p : SP} {bs : List Bool} {cs : List Int} {F : List Nat} (h : ST n m B w p bs cs) (ht : Turned F w w') (hF : Odd w F) : ST n m B w' p bs cs := by
  refine ⟨h.i.keep ht fun g hg hm => ?_, h.c.keep ht fun g hg hm => ?_, h.li, h.lc⟩
  · obtain ⟨cs1, h1⟩ := h.i.type hg
    obtain ⟨cs2, T, h2, h3, _⟩ := hF g hm
    rw [h1] at h2
    simp only [Option.some.injEq, Obj.cells.injEq] at h2
    exact h3 h2.2.1.symm
  · obtain ⟨cs1, h1⟩ := h.c.type hg
    obtain ⟨cs2, T, h2, _, h3⟩ := hF g hm
    rw [h1] at h2
    simp only [Option.some.injEq, Obj.cells.injEq] at h2
    exact h3 h2.2.1.symm
theorem ST.still {n m B : Nat} {w w' : World} {p : SP} {bs : List Bool} {cs : List Int} (h : ST n m B w p bs cs) (ht : Turned [] w w') : ST n m B w' p bs cs := h.keep ht (fun g hg => by cases hg)
/-- How many calls there can be, where r are left. -/
def tN : Nat → Nat
  | 0 => 1
  | r + 1 => 1 + (r + 1) * tN r
theorem tN_pos (r : Nat) : 1 ≤ tN r := by
  cases r with
  | zero => exact Nat.le_refl 1
  | succ r => unfold tN; omega
theorem tN_mono {a b : Nat} (h : a ≤ b) : tN a ≤ tN b := by
  induction h with
  | refl => exact Nat.le_refl _
  | @step b _ ih =>
    refine Nat.le_trans ih ?_
    show tN b ≤ 1 + (b + 1) * tN b
    have : tN b ≤ (b + 1) * tN b := Nat.le_mul_of_pos_left _ (by omega)
    omega
/-- What was tried in vain, in memory: row by row. -/
structure HU (D : List Dd) (m B xb vb : Nat) (lv : Value) (gs : List Nat) (N : Nat) (w : World) : Prop where
  hx : w.heap[xb]? = some (.cells #[lv, .slice (some ⟨vb, 0, none⟩) (D.length + 1) (D.length + 1)] 82 (0, 0))
  bv : B ≤ vb
  bw : B ≤ w.heap.size
  ty : ∀ g, g ∈ gs → B ≤ g ∧ ∃ cs, w.heap[g]? = some (.cells cs 86 (0, 0))
  ex : ∃ (cs : Array Value) (vs : Nat → Value) (L : Nat → List SP), w.heap[vb]? = some (.cells cs 113 (0, 0)) ∧ cs.size = D.length + 1 ∧ (∀ j, j ≤ D.length → cs[j]? = some (vs j) ∧ OW 86 2 (encS D.length m) B w (vs j) (L j) ∧ (∀ g, (vs j).ownBlock = some g → g ∈ gs) ∧ (L j).length ≤ N ∧ ∀ p, p ∈ L j → ∃ bs cs, ST D.length m B w p bs cs ∧ ¬ Can D (pL bs) (vL cs)) ∧ ∀ i j, i ≤ D.length → j ≤ D.length → i ≠ j → (vs i).ownBlock = none ∨ (vs i).ownBlock ≠ (vs j).ownBlock
section
variable {D : List Dd} {m B xb vb N : Nat} {lv : Value} {gs : List Nat} {w : World}
theorem HU.odd (h : HU D m B xb vb lv gs N w) : Odd w (vb :: gs) := fun g hg => by
  rcases List.mem_cons.1 hg with rfl | hg
  · obtain ⟨cs, _, _, h1, _⟩ := h.ex
    exact ⟨cs, _, h1, by decide, by decide⟩
  · obtain ⟨_, cs, h1⟩ := h.ty g hg
    exact ⟨cs, _, h1, by decide, by decide⟩
theorem HU.still (h : HU D m B xb vb lv gs N w) {w' : World} (ht : Turned [] w w') : HU D m B xb vb lv gs N w' := by
  obtain ⟨cs, vs, L, h1, h2, h3, h4⟩ := h.ex
  refine ⟨ht.heap h.hx (by simp), h.bv, Nat.le_trans h.bw ht.size, fun g hg => ?_, cs, vs, L, ht.heap h1 (by simp), h2, fun j hj => ?_, h4⟩
  · obtain ⟨g1, c, g2⟩ := h.ty g hg
    exact ⟨g1, c, ht.heap g2 (by simp)⟩
  · obtain ⟨j1, j2, j3, j4, j5⟩ := h3 j hj
    refine ⟨j1, j2.still ht, j3, j4, fun p hp => ?_⟩
    obtain ⟨bs, cs, s1, s2⟩ := j5 p hp
    exact ⟨bs, cs, s1.still ht, s2⟩
theorem HU.mono (h : HU D m B xb vb lv gs N w) {N' : Nat} (hN : N ≤ N') : HU D m B xb vb lv gs N' w := by
  obtain ⟨cs, vs, L, h1, h2, h3, h4⟩ := h.ex
  refine ⟨h.hx, h.bv, h.bw, h.ty, cs, vs, L, h1, h2, fun j hj => ?_, h4⟩
  obtain ⟨j1, j2, j3, j4, j5⟩ := h3 j hj
  exact ⟨j1, j2, j3, Nat.le_trans j4 hN, j5⟩
theorem HU.ne (h : HU D m B xb vb lv gs N w) : xb ≠ vb ∧ xb ∉ gs := by
  obtain ⟨cs, _, _, h1, _⟩ := h.ex
  refine ⟨tyne h.hx h1 (by decide), fun hm => ?_⟩
  obtain ⟨_, c, h2⟩ := h.ty xb hm
  exact tyne h.hx h2 (by decide) rfl
/-- The hunt's own block. -/
theorem HU.hunt (h : HU D m B xb vb lv gs N w) : xb < w.heap.size ∧ w.cell? ⟨xb, 0, none⟩ = some lv ∧ w.cell? ⟨xb, 1, none⟩ = some (.slice (some ⟨vb, 0, none⟩) (D.length + 1) (D.length + 1)) :=
  ⟨lt_of_heap h.hx, by rw [cell_at h.hx]; rfl, by rw [cell_at h.hx]; rfl⟩
/-- A row of states that were tried in vain. -/
theorem HU.row (h : HU D m B xb vb lv gs N w) {n : Nat} (hn : n ≤ D.length) : ∃ (a : Option Addr) (c : Nat) (R : List SP), vb < w.heap.size ∧ w.cell? ⟨vb, n, none⟩ = some (.slice a R.length c) ∧ w.frozen? ⟨vb, n, none⟩ = false ∧ R.length ≤ N ∧ (∀ i, i < R.length → ∃ b o p bs cs, a = some ⟨b, o, none⟩ ∧ (∀ y, Turned [] w y → b < y.heap.size ∧ y.cell? ⟨b, o + i * 2, none⟩ = some (.slice p.1.1 D.length p.1.2) ∧ y.cell? ⟨b, o + i * 2 + 1, none⟩ = some (.slice p.2.1 m p.2.2)) ∧ ST D.length m B w p bs cs ∧ ¬ Can D (pL bs) (vL cs)) := by
  obtain ⟨cs, vs, L, h1, h2, h3, h4⟩ := h.ex
  obtain ⟨j1, j2, j3, j4, j5⟩ := h3 n hn
  obtain ⟨a, c, e⟩ := j2.slice
  refine ⟨a, c, L n, lt_of_heap h1, by rw [cell_at h1, j1, e], froz_at h1 n, j4, fun i hi => ?_⟩
  obtain ⟨b, o, c', e', _, hc⟩ := j2.view.get (enS _ _) (by decide) hi
  rw [e] at e'
  simp only [Value.slice.injEq] at e'
  obtain ⟨bs, cs', s1, s2⟩ := j5 (L n)[i] (List.getElem_mem hi)
  refine ⟨b, o, (L n)[i], bs, cs', e'.1, fun y hy => ?_, s1, s2⟩
  have c0 := hy.cell (hc 0 _ rfl) (by simp)
  have c1 := hy.cell (hc 1 _ rfl) (by simp)
  exact ⟨World.block_lt_of_cell? _ _ c0, c0, by rw [Nat.add_assoc]; exact c1⟩
/-- One more was tried in vain: its row grows. -/
theorem HU.push (h : HU D m B xb vb lv gs N w) {n : Nat} (hn : n ≤ D.length) {p : SP} {bs : List Bool} {cs0 : List Int} (hS : ST D.length m B w p bs cs0) (hno : ¬ Can D (pL bs) (vL cs0)) : ∃ (v : Value) (R : List SP), w.cell? ⟨vb, n, none⟩ = some v ∧ OW 86 2 (encS D.length m) B w v R ∧ R.length ≤ N ∧ (∀ g, v.ownBlock = some g → g ∈ gs) ∧ vb ∉ v.ownBlock.toList ∧ xb ∉ v.ownBlock.toList ∧
    ∀ w1 v' w2, Turned [] w w1 → OW 86 2 (encS D.length m) B w2 v' (R ++ [p]) → Turned v.ownBlock.toList w1 w2 → (v'.ownBlock = v.ownBlock ∨ v'.ownBlock = some w1.heap.size) → Turned (vb :: gs) w (w2.setCell ⟨vb, n, none⟩ v') ∧ ∃ gs', HU D m B xb vb lv gs' (N + 1) (w2.setCell ⟨vb, n, none⟩ v') ∧ ∀ g, g ∈ gs' → g ∈ gs ∨ w.heap.size ≤ g := by
  obtain ⟨cs, vs, L, h1, h2, h3, h4⟩ := h.ex
  obtain ⟨j1, j2, j3, j4, j5⟩ := h3 n hn
  have hodd := h.odd
  have hnx := h.ne
  have hvb : vb ∉ (vs n).ownBlock.toList := fun hm => by
    simp only [Option.mem_toList] at hm
    obtain ⟨_, c, g2⟩ := h.ty vb (j3 vb hm)
    exact tyne h1 g2 (by decide) rfl
  have hxb : xb ∉ (vs n).ownBlock.toList := fun hm => by
    simp only [Option.mem_toList] at hm
    exact hnx.2 (j3 xb hm)
  refine ⟨vs n, L n, by rw [cell_at h1, j1], j2, j4, j3, hvb, hxb, fun w1 v' w2 hT1 hO hT2 hV => ?_⟩
  have hT3 : Turned (vb :: gs) w w2 := (hT1.mono (by simp)).trans (hT2.mono fun g hg => by
    simp only [Option.mem_toList] at hg
    exact List.mem_cons_of_mem _ (j3 g hg))
  have hT : Turned (vb :: gs) w (w2.setCell ⟨vb, n, none⟩ v') := hT3.set (.inl List.mem_cons_self) _ _
  have hset : Turned [vb] w2 (w2.setCell ⟨vb, n, none⟩ v') := (Turned.refl [vb] w2).set (by simp) _ _
  have b1 : w2.heap[vb]? = some (.cells cs 113 (0, 0)) := (hT1.trans (l := []) (Turned.refl [] w1)).heap h1 (by simp) |> fun e => hT2.heap e hvb
  have s1 := hT1.size
  have hkeep : ∀ g, g ∈ gs → (vs n).ownBlock ≠ some g → ∀ c, w.heap[g]? = some (.cells c 86 (0, 0)) → (w2.setCell ⟨vb, n, none⟩ v').heap[g]? = some (.cells c 86 (0, 0)) := fun g _ hv c g2 => by
    have hgv : g ≠ vb := tyne g2 h1 (by decide)
    exact hset.heap (hT2.heap (hT1.heap g2 (by simp)) (by simpa using hv)) (by simpa using hgv)
  have hO2 : OW 86 2 (encS D.length m) B (w2.setCell ⟨vb, n, none⟩ v') v' (L n ++ [p]) := hO.keep hset fun g hg hm => by
    obtain ⟨c, g2⟩ := hO.type hg
    exact tyne g2 b1 (by decide) (List.mem_singleton.1 hm)
  refine ⟨hT, v'.ownBlock.toList ++ gs.filter (fun g => decide ((vs n).ownBlock ≠ some g)), ⟨?_, h.bv, Nat.le_trans h.bw hT.size, fun g hg => ?_, cs.setIfInBounds n v', fun j => if j = n then v' else vs j, fun j => if j = n then L n ++ [p] else L j, blk_set b1 n v', by simp [h2], fun j hj => ?_, fun i j hi hj hij => ?_⟩, fun g hg => ?_⟩
  · exact hset.heap (hT3.heap h.hx (by simp; exact hnx)) (by simpa using hnx.1)
  · rcases List.mem_append.1 hg with hg | hg
    · simp only [Option.mem_toList] at hg
      obtain ⟨c, g2⟩ := hO2.type hg
      exact ⟨(hO2.fresh hg).1, c, g2⟩
    · obtain ⟨hg, hne⟩ := List.mem_filter.1 hg
      obtain ⟨g1, c, g2⟩ := h.ty g hg
      exact ⟨g1, c, hkeep g hg (by simpa using hne) c g2⟩
  · by_cases e : j = n
    · subst e
      simp only [if_true]
      refine ⟨?_, hO2, fun g hg => ?_, by rw [List.length_append]; simp; exact j4, fun q hq => ?_⟩
      · rw [set_at (by omega), if_pos rfl]
      · exact List.mem_append_left _ (by simpa using hg)
      · rcases List.mem_append.1 hq with hq | hq
        · obtain ⟨b2, c2, s2, s3⟩ := j5 q hq
          exact ⟨b2, c2, s2.keep hT hodd, s3⟩
        · rw [List.mem_singleton.1 hq]
          exact ⟨bs, cs0, hS.keep hT hodd, hno⟩
    · simp only [if_neg e]
      obtain ⟨i1, i2, i3, i4, i5⟩ := h3 j hj
      refine ⟨?_, ?_, fun g hg => ?_, by omega, fun q hq => ?_⟩
      · rw [set_at (by omega), if_neg (fun e2 => e e2.symm)]
        exact i1
      · refine i2.keep (F := vb :: (vs n).ownBlock.toList) (((hT1.mono (by simp)).trans (hT2.mono fun g hg => List.mem_cons_of_mem _ hg)).set (.inl List.mem_cons_self) _ _) fun g hg hm => ?_
        rcases List.mem_cons.1 hm with rfl | hm
        · obtain ⟨c, g2⟩ := i2.type hg
          exact tyne g2 h1 (by decide) rfl
        · simp only [Option.mem_toList] at hm
          rcases h4 j n hj hn e with h5 | h5
          · rw [h5] at hg; cases hg
          · exact h5 (by rw [hg, hm])
      · refine List.mem_append_right _ (List.mem_filter.2 ⟨i3 g hg, ?_⟩)
        rcases h4 j n hj hn e with h5 | h5
        · rw [h5] at hg; cases hg
        · simp only [decide_eq_true_eq]
          intro h6
          exact h5 (by rw [hg, h6])
      · obtain ⟨b2, c2, s2, s3⟩ := i5 q hq
        exact ⟨b2, c2, s2.keep hT hodd, s3⟩
  · have key : ∀ q, q ≤ D.length → q ≠ n → (vs q).ownBlock = none ∨ (vs q).ownBlock ≠ v'.ownBlock := fun q hq hqn => by
      rcases hV with e | e
      · rw [e]; exact h4 q n hq hn hqn
      · rw [e]
        cases ho : (vs q).ownBlock with
        | none => exact .inl rfl
        | some g =>
          refine .inr fun e2 => ?_
          have := ((h3 q hq).2.1.fresh ho).2
          cases e2
          omega
    by_cases e1 : i = n
    · have e2 : j ≠ n := fun e2 => hij (by rw [e1, e2])
      simp only [if_pos e1, if_neg e2]
      rcases key j hj e2 with h5 | h5
      · cases hv : v'.ownBlock with
        | none => exact .inl rfl
        | some g => rw [h5]; exact .inr (by simp)
      · exact .inr (fun e => h5 e.symm)
    · simp only [if_neg e1]
      by_cases e2 : j = n
      · simp only [if_pos e2]
        exact key i hi e1
      · simp only [if_neg e2]
        exact h4 i j hi hj hij
  · rcases List.mem_append.1 hg with hg | hg
    · simp only [Option.mem_toList] at hg
      rcases hV with e | e
      · rw [e] at hg
        exact .inl (j3 g hg)
      · rw [e] at hg
        cases hg
        exact .inr s1
    · exact .inl (List.mem_filter.1 hg).1
end
end Go.Proofs.YtbielnehggcaoaaDoor
/-
  The document's search in the midst of a call. (By the verifier; no statement.)
-/
namespace Go.Proofs.YtbielnehggcaoaaDoor
open Go.RowKit
theorem outN_succ (k : Nat) (S : Pl) : outN (k + 1) S = outN k S + (if S k then 0 else 1) := by
  unfold outN
  rw [List.range_succ, List.filter_append, List.length_append]
  cases hh : S k <;> simp [hh]
theorem outN_mono {k n : Nat} (h : k ≤ n) (S : Pl) : outN k S ≤ outN n S := by
  induction h with
  | refl => exact Nat.le_refl _
  | step _ ih => rw [Nat.succ_eq_add_one, outN_succ]; omega
theorem elI : El 3 22 1 8 (.int .i64 0) := ⟨by kernel_rfl, by kernel_rfl, rfl, by decide, by decide⟩
theorem enI : En 1 (fun q : Int => [Value.int .i64 q]) := ⟨fun _ => rfl, fun r u hu => by rw [List.mem_singleton.1 hu]; rfl⟩
theorem flat_single {α : Type} (f : α → Value) : ∀ l : List α, l.flatMap (fun q => [f q]) = l.map f
  | [] => rfl
  | x :: l => by rw [List.flatMap_cons, flat_single f l]; rfl
theorem OW.ir {B : Nat} {w : World} {v : Value} {l : List Int} (h : OW 3 1 (fun q : Int => [Value.int .i64 q]) B w v l) : IR B w v l := ⟨by rw [← flat_single (Value.int .i64 ·)]; exact h.own⟩
theorem IR.ow {B : Nat} {w : World} {v : Value} {l : List Int} (h : IR B w v l) : OW 3 1 (fun q : Int => [Value.int .i64 q]) B w v l := ⟨by rw [flat_single (Value.int .i64 ·)]; exact h.own⟩
/-- A new state, just made. -/
structure TS (n m : Nat) (x : World) (tb : Nat) (q : SP) (bs : List Bool) (cs : List Int) (y : World) : Prop where
  tu : Turned [] x y
  st : ST n m x.heap.size y q bs cs
  bk : y.heap[tb]? = some (.cells #[.slice q.1.1 n q.1.2, .slice q.2.1 m q.2.2] 86 (0, 0))
  le : x.heap.size ≤ tb
theorem ts_of {n m : Nat} {x y : World} {bs : List Bool} {cs : List Int} {cs1 cs2 : Array Value} {cap1 cap2 g1 g2 tb : Nat} (h1 : NR 1 encB bs cs1 cap1) (h2 : NR 1 (fun q : Int => [Value.int .i64 q]) cs cs2 cap2) (hb : bs.length = n) (hc : cs.length = m) (k1 : y.heap[g1]? = some (.cells cs1 4 (0, 0))) (k2 : y.heap[g2]? = some (.cells cs2 3 (0, 0))) (k3 : y.heap[tb]? = some (.cells #[.slice (some ⟨g1, 0, none⟩) n cap1, .slice (some ⟨g2, 0, none⟩) m cap2] 86 (0, 0))) (l1 : x.heap.size ≤ g1) (l2 : x.heap.size ≤ g2) (l3 : x.heap.size ≤ tb) (ht : Turned [] x y) : TS n m x tb ((some ⟨g1, 0, none⟩, cap1), (some ⟨g2, 0, none⟩, cap2)) bs cs y :=
  ⟨ht, ⟨by rw [← hb]; exact h1.own enB k1 l1, by rw [← hc]; exact (h2.own enI k2 l2).ir, hb, hc⟩, k3, l3⟩
theorem OW.put1 {α : Type} {f : α → Value} {T B g n c : Nat} {x : World} {l : List α} (h : OW T 1 (fun r => [f r]) B x (.slice (some ⟨g, 0, none⟩) n c) l) (k : Nat) (z : α) : OW T 1 (fun r => [f r]) B (x.setCell ⟨g, k, none⟩ (f z)) (.slice (some ⟨g, 0, none⟩) n c) (l.set k z) := by
  rcases h.own.2 with ⟨e, _⟩ | ⟨g', c', cs, e, hb, hg, h3⟩
  · cases e
  · cases e
    obtain ⟨q1, q2, q3, q4⟩ := h3
    refine ⟨by rw [flat_single]; simp, .inr ⟨g, c, cs.setIfInBounds k (f z), by simp, hb, blk_set hg k _, by simpa using q1, q2, by simpa using q3, ?_⟩⟩
    rw [flat_single] at q4 ⊢
    rw [List.length_set, Array.toList_setIfInBounds, List.take_set, q4, List.map_set]
/-- The new state is marked, and its cell is written. -/
theorem TS.mark {n m : Nat} {x y : World} {tb : Nat} {q : SP} {bs : List Bool} {cs : List Int} (h : TS n m x tb q bs cs y) {k a : Nat} (hk : k < n) (ha : a < m) (u : Int) : ∃ ib cb, q.1.1 = some ⟨ib, 0, none⟩ ∧ q.2.1 = some ⟨cb, 0, none⟩ ∧ tb < y.heap.size ∧ y.cell? ⟨tb, 0, none⟩ = some (.slice (some ⟨ib, 0, none⟩) n q.1.2) ∧ ib < y.heap.size ∧ (∃ b0, y.cell? ⟨ib, k, none⟩ = some (.bool b0)) ∧ y.frozen? ⟨ib, k, none⟩ = false ∧
    (∀ y1, y1 = y.setCell ⟨ib, k, none⟩ (.bool true) → tb < y1.heap.size ∧ y1.cell? ⟨tb, 1, none⟩ = some (.slice (some ⟨cb, 0, none⟩) m q.2.2) ∧ cb < y1.heap.size ∧ (∃ c0, y1.cell? ⟨cb, a, none⟩ = some (.int .i64 c0)) ∧ y1.frozen? ⟨cb, a, none⟩ = false ∧ Turned [] x y1 ∧
      TS n m x tb q (bs.set k true) (cs.set a u) (y1.setCell ⟨cb, a, none⟩ (.int .i64 u))) := by
  have hkl : k < bs.length := by rw [h.st.li]; exact hk
  have hal : a < cs.length := by rw [h.st.lc]; exact ha
  obtain ⟨ib, c1, e1⟩ := h.st.i.at_ (fun e => by rw [e] at hkl; simp at hkl)
  obtain ⟨cb, c2, e2⟩ := h.st.c.at_ (fun e => by rw [e] at hal; simp at hal)
  simp only [Value.slice.injEq] at e1 e2
  have bk := h.bk
  have hi := h.st.i
  have hc := h.st.c
  rw [e1.1] at bk hi
  rw [e2.1] at bk hc
  obtain ⟨z1, t1⟩ := hi.type rfl
  obtain ⟨z2, t2⟩ := hc.type rfl
  have f1 := (hi.fresh rfl).1
  have f2 := (hc.fresh rfl).1
  obtain ⟨b3, o3, c3, e3, -, h3⟩ := hi.view.get1 hkl
  simp only [Value.slice.injEq, Option.some.injEq, Addr.mk.injEq] at e3
  obtain ⟨⟨rfl, rfl, -⟩, -, -⟩ := e3
  have h4 := (show IR x.heap.size y (.slice (some ⟨cb, 0, none⟩) cs.length q.2.2) cs by rw [h.st.lc]; exact hc).cells hal
  have n1 : ib ≠ cb := tyne t1 t2 (by decide)
  have n2 : tb ≠ ib := tyne bk t1 (by decide)
  have n3 : tb ≠ cb := tyne bk t2 (by decide)
  refine ⟨ib, cb, e1.1, e2.1, lt_of_heap bk, by rw [cell_at bk]; rfl, lt_of_heap t1, ⟨_, by simpa using h3⟩, froz_at t1 k, fun y1 hy1 => ?_⟩
  subst hy1
  have hs1 : Turned [ib] y (y.setCell ⟨ib, k, none⟩ (.bool true)) := (Turned.refl [ib] y).set (by simp) _ _
  have bk1 := hs1.heap bk (by simpa using n2)
  have t3 := hs1.heap t2 (by simpa using fun e => n1 e.symm)
  have hT1 : Turned [] x (y.setCell ⟨ib, k, none⟩ (.bool true)) := h.tu.set (.inr f1) _ _
  refine ⟨lt_of_heap bk1, by rw [cell_at bk1]; rfl, lt_of_heap t3, ⟨_, hs1.cell h4 (by simpa using fun e => n1 e.symm)⟩, froz_at t3 a, hT1, ?_⟩
  have hs2 : Turned [cb] (y.setCell ⟨ib, k, none⟩ (.bool true)) ((y.setCell ⟨ib, k, none⟩ (.bool true)).setCell ⟨cb, a, none⟩ (.int .i64 u)) := (Turned.refl [cb] _).set (by simp) _ _
  have j1 : OW 4 1 encB x.heap.size (y.setCell ⟨ib, k, none⟩ (.bool true)) (.slice (some ⟨ib, 0, none⟩) n q.1.2) (bs.set k true) := hi.put1 k true
  have j2 : IR x.heap.size (y.setCell ⟨ib, k, none⟩ (.bool true)) (.slice (some ⟨cb, 0, none⟩) m q.2.2) cs := hc.keep hs1 fun g hg => by cases hg; simpa using fun e => n1 e.symm
  refine ⟨hT1.set (.inr f2) _ _, ⟨?_, ?_, by simp [h.st.li], by simp [h.st.lc]⟩, ?_, h.le⟩
  · rw [e1.1]
    exact j1.keep hs2 fun g hg => by cases hg; simpa using n1
  · rw [e2.1]
    exact (j2.ow.put1 a u).ir
  · rw [e1.1, e2.1]
    exact hs2.heap bk1 (by simpa using n3)
/-- A sentence in a box. -/
structure Bx (P : Prop) : Prop where
  ex : P
/-- What a call of the search leaves. -/
structure GoP (D : List Dd) (m B xb vb : Nat) (lv : Value) (bs : List Bool) (cs : List Int) (os : List Nat) (gs : List Nat) (N : Nat) (w : World) (r : Ending) (w' : World) : Prop where
  tu : Turned (vb :: gs) w w'
  hu : ∃ gs', HU D m B xb vb lv gs' (N + tN (outN D.length (pL bs))) w' ∧ ∀ g, g ∈ gs' → g ∈ gs ∨ w.heap.size ≤ g
  ans : ∃ a v ok, r = .returned (.tuple #[v, .bool ok]) ∧ Ans D (pL bs) (vL cs) a ∧ ((∃ os', a = some os' ∧ ok = true ∧ IR B w' v (ints (os ++ os'))) ∨ (a = none ∧ ok = false ∧ v = .slice none 0 0))
def GoesC (D : List Dd) (m B xb vb : Nat) (ad : Option Addr) (cap : Nat) (bs : List Bool) : Prop :=
  ∀ (cs : List Int) (os : List Nat) (gs : List Nat) (N : Nat) (w : World) (p : SP) (ov : Value), HU D m B xb vb (.slice ad D.length cap) gs N w → ST D.length m B w p bs cs → IR B w ov (ints os) → DsAt w ad D → os.length + outN D.length (pL bs) ≤ D.length → N + tN (outN D.length (pL bs)) ≤ tN 14 →
    Calls Tryd.prog 35 #[.pointer (some ⟨xb, 0, none⟩), .agg #[.slice p.1.1 D.length p.1.2, .slice p.2.1 m p.2.2], ov] w fun r w' => GoP D m B xb vb (.slice ad D.length cap) bs cs os gs N w r w'
/-- In the midst of a call. -/
structure GI (D : List Dd) (m B xb vb : Nat) (ad : Option Addr) (cap : Nat) (bs : List Bool) (cs : List Int) (os : List Nat) (w : World) (gs0 : List Nat) (sb : Nat) (p : SP) (oa : Option Addr) (oc : Nat) (N : Nat) (y : World) (gs : List Nat) : Prop where
  hu : HU D m B xb vb (.slice ad D.length cap) gs N y
  st : ST D.length m B y p bs cs
  ou : IR B y (.slice oa os.length oc) (ints os)
  ds : DsAt y ad D
  sk : y.heap[sb]? = some (.cells #[.slice p.1.1 D.length p.1.2, .slice p.2.1 m p.2.2] 86 (0, 0))
  nsb : sb ∉ vb :: gs
  tu : Turned (vb :: gs0) w y
  sub : ∀ g, g ∈ gs → g ∈ gs0 ∨ w.heap.size ≤ g
section
variable {D : List Dd} {m B xb vb : Nat} {ad : Option Addr} {cap : Nat} {bs : List Bool} {cs : List Int} {os : List Nat} {w : World} {gs0 : List Nat} {sb : Nat} {p : SP} {oa : Option Addr} {oc N : Nat} {y : World} {gs : List Nat}
theorem GI.still (h : GI D m B xb vb ad cap bs cs os w gs0 sb p oa oc N y gs) {z : World} (ht : Turned [] y z) : GI D m B xb vb ad cap bs cs os w gs0 sb p oa oc N z gs :=
  ⟨h.hu.still ht, h.st.still ht, h.ou.still ht, h.ds.still ht, ht.heap h.sk (by simp), h.nsb, h.tu.trans (ht.mono (by simp)), h.sub⟩
theorem GI.mono (h : GI D m B xb vb ad cap bs cs os w gs0 sb p oa oc N y gs) {N' : Nat} (hN : N ≤ N') : GI D m B xb vb ad cap bs cs os w gs0 sb p oa oc N' y gs :=
  ⟨h.hu.mono hN, h.st, h.ou, h.ds, h.sk, h.nsb, h.tu, h.sub⟩
/-- A call within has ended. -/
theorem GI.step (h : GI D m B xb vb ad cap bs cs os w gs0 sb p oa oc N y gs) (hb : ∀ b o, ad = some ⟨b, o, none⟩ → b < B) {z : World} {gs' : List Nat} {N' : Nat} (ht : Turned (vb :: gs) y z) (hu : HU D m B xb vb (.slice ad D.length cap) gs' N' z) (hs : ∀ g, g ∈ gs' → g ∈ gs ∨ y.heap.size ≤ g) : GI D m B xb vb ad cap bs cs os w gs0 sb p oa oc N' z gs' := by
  have hodd := h.hu.odd
  refine ⟨hu, h.st.keep ht hodd, h.ou.keep ht fun g hg hm => ?_, h.ds.keep ht fun b o e hm => ?_, ht.heap h.sk h.nsb, fun hm => ?_, h.tu.inner ht fun g hg => ?_, fun g hg => ?_⟩
  · obtain ⟨c1, h1⟩ := h.ou.type hg
    obtain ⟨c2, T, h2, _, h3⟩ := hodd g hm
    rw [h1] at h2
    simp only [Option.some.injEq, Obj.cells.injEq] at h2
    exact h3 h2.2.1.symm
  · have hlt := hb b o e
    rcases List.mem_cons.1 hm with rfl | hm
    · have := h.hu.bv; omega
    · have := (h.hu.ty b hm).1; omega
  · rcases List.mem_cons.1 hm with rfl | hm
    · exact h.nsb List.mem_cons_self
    · rcases hs sb hm with h1 | h1
      · exact h.nsb (List.mem_cons_of_mem _ h1)
      · have := lt_of_heap h.sk; omega
  · rcases List.mem_cons.1 hg with rfl | hg
    · exact .inl List.mem_cons_self
    · rcases h.sub g hg with h1 | h1
      · exact .inl (List.mem_cons_of_mem _ h1)
      · exact .inr h1
  · rcases hs g hg with h1 | h1
    · exact h.sub g h1
    · exact .inr (Nat.le_trans h.tu.size h1)
/-- What is read in the midst of a call. -/
theorem GI.reads (h : GI D m B xb vb ad cap bs cs os w gs0 sb p oa oc N y gs) : xb < y.heap.size ∧ y.cell? ⟨xb, 0, none⟩ = some (.slice ad D.length cap) ∧ y.cell? ⟨xb, 1, none⟩ = some (.slice (some ⟨vb, 0, none⟩) (D.length + 1) (D.length + 1)) ∧ sb < y.heap.size ∧ y.cell? ⟨sb, 0, none⟩ = some (.slice p.1.1 D.length p.1.2) ∧ y.cell? ⟨sb, 1, none⟩ = some (.slice p.2.1 m p.2.2) := by
  obtain ⟨h1, h2, h3⟩ := h.hu.hunt
  exact ⟨h1, h2, h3, lt_of_heap h.sk, by rw [cell_at h.sk]; rfl, by rw [cell_at h.sk]; rfl⟩
theorem GI.deed (h : GI D m B xb vb ad cap bs cs os w gs0 sb p oa oc N y gs) {j : Nat} (hj : j < D.length) : ∃ b o, ad = some ⟨b, o, none⟩ ∧ b < y.heap.size ∧ DAt y b o j (dAt D j) :=
  h.ds.deed (by unfold dAt; simp [hj])
theorem GI.isIn (h : GI D m B xb vb ad cap bs cs os w gs0 sb p oa oc N y gs) {j : Nat} (hj : j < D.length) : ∃ ib, p.1.1 = some ⟨ib, 0, none⟩ ∧ ib < y.heap.size ∧ y.cell? ⟨ib, j, none⟩ = some (.bool (pL bs j)) := by
  have hl : j < bs.length := by rw [h.st.li]; exact hj
  obtain ⟨b, o, c, e, h1, h2⟩ := h.st.i.view.get1 hl
  simp only [Value.slice.injEq] at e
  rcases h.st.i.form with ⟨e2, e3⟩ | ⟨g, c2, e2⟩
  · rw [e3] at hl; simp at hl
  · simp only [Value.slice.injEq] at e2
    have e4 := e.1.symm.trans e2.1
    simp only [Option.some.injEq, Addr.mk.injEq] at e4
    obtain ⟨rfl, rfl, -⟩ := e4
    refine ⟨b, e2.1, h1, ?_⟩
    rw [pL_at hl]
    simpa using h2
theorem GI.cell (h : GI D m B xb vb ad cap bs cs os w gs0 sb p oa oc N y gs) {j : Nat} (hj : j < m) : ∃ cb, p.2.1 = some ⟨cb, 0, none⟩ ∧ cb < y.heap.size ∧ y.cell? ⟨cb, j, none⟩ = some (.int .i64 (vL cs (j : Int))) := by
  have hl : j < cs.length := by rw [h.st.lc]; exact hj
  obtain ⟨g, c, e⟩ := h.st.c.at_ (fun e => by rw [e] at hl; simp at hl)
  simp only [Value.slice.injEq] at e
  have hc := h.st.c
  rw [e.1, e.2.1] at hc
  have h2 := hc.cells hl
  refine ⟨g, e.1, World.block_lt_of_cell? _ _ h2, ?_⟩
  rw [h2]
  simp [vL, hl]
/-- The call within. -/
theorem GI.call {T j ix : Nat} {nx : Int} {N0 : Nat} (h : GI D m B xb vb ad cap bs cs os w gs0 sb p oa oc (N0 + outN j (pL bs) * tN T) y gs) (hb : ∀ b o, ad = some ⟨b, o, none⟩ → b < B) (hj : j < D.length) (hS0 : pL bs j = false) (hT1 : outN D.length (pL bs) = T + 1) (hLn : os.length + outN D.length (pL bs) ≤ D.length) (hN : N0 + tN (outN D.length (pL bs)) ≤ tN 14) (IH : GoesC D m B xb vb ad cap (bs.set j true)) {tb : Nat} {q : SP} {y3 : World} (hS : TS D.length m y tb q (bs.set j true) (cs.set ix nx) y3) {w2 : World} {v2 : Value} (ht : Turned [] y3 w2) (ho : IR y.heap.size w2 v2 (ints (os ++ [j]))) :
    Calls Tryd.prog 35 #[.pointer (some ⟨xb, 0, none⟩), .agg #[.slice q.1.1 D.length q.1.2, .slice q.2.1 m q.2.2], v2] w2 fun r z => ∃ an v4 ok gs4, r = .returned (.tuple #[v4, .bool ok]) ∧ Ans D (pL (bs.set j true)) (vL (cs.set ix nx)) an ∧ ((∃ os', an = some os' ∧ ok = true ∧ IR B z v4 (ints ((os ++ [j]) ++ os'))) ∨ (an = none ∧ ok = false ∧ v4 = .slice none 0 0)) ∧ GI D m B xb vb ad cap bs cs os w gs0 sb p oa oc (N0 + outN (j + 1) (pL bs) * tN T) z gs4 ∧ (tb < z.heap.size ∧ z.cell? ⟨tb, 0, none⟩ = some (.slice q.1.1 D.length q.1.2) ∧ z.cell? ⟨tb, 1, none⟩ = some (.slice q.2.1 m q.2.2)) := by
  have hk : j < bs.length := by rw [h.st.li]; exact hj
  have hup : outN D.length (pL (bs.set j true)) ≤ T := by
    rw [pL_set hk]
    have := outN_upd hj hS0
    omega
  have htn := tN_mono hup
  have hsucc : outN (j + 1) (pL bs) = outN j (pL bs) + 1 := by rw [outN_succ, hS0]; rfl
  have hle : outN (j + 1) (pL bs) ≤ T + 1 := by rw [← hT1]; exact outN_mono (by omega) _
  have hr : tN (outN D.length (pL bs)) = 1 + (T + 1) * tN T := by rw [hT1]; rfl
  have hmul : (outN j (pL bs) + 1) * tN T = outN j (pL bs) * tN T + tN T := Nat.succ_mul _ _
  have hmul2 : (outN j (pL bs) + 1) * tN T ≤ (T + 1) * tN T := Nat.mul_le_mul_right _ (by omega)
  have hTw := hS.tu.trans ht
  have G := h.still hTw
  have hB : B ≤ y.heap.size := h.hu.bw
  have hbk := ht.heap hS.bk (by simp)
  have st2 := hS.st.still ht
  refine (IH (cs.set ix nx) (os ++ [j]) gs _ w2 q v2 G.hu ⟨st2.i.lower hB, st2.c.lower hB, st2.li, st2.lc⟩ (ho.lower hB) G.ds (by simp; omega) (by omega)).mono fun r z hp => ?_
  obtain ⟨an, v4, ok, h1, h2, h3⟩ := hp.ans
  obtain ⟨gs4, h4, h5⟩ := hp.hu
  have G2 := G.step hb hp.tu h4 h5
  have hbz := hp.tu.heap hbk fun hm => by
    rcases List.mem_cons.1 hm with e | e
    · obtain ⟨c, _, _, h6, _⟩ := h.hu.ex
      have := lt_of_heap h6
      have := hS.le
      omega
    · obtain ⟨_, c, h6⟩ := h.hu.ty _ e
      have := lt_of_heap h6
      have := hS.le
      omega
  exact ⟨an, v4, ok, gs4, h1, h2, h3, G2.mono (by rw [hsucc]; omega), lt_of_heap hbz, by rw [cell_at hbz]; rfl, by rw [cell_at hbz]; rfl⟩
theorem TS.still {n m : Nat} {x y z : World} {tb : Nat} {q : SP} {bs : List Bool} {cs : List Int} (h : TS n m x tb q bs cs y) (ht : Turned [] y z) : TS n m x tb q bs cs z := ⟨h.tu.trans ht, h.st.still ht, ht.heap h.bk (by simp), h.le⟩
end
end Go.Proofs.YtbielnehggcaoaaDoor
/-
  What a version holds, as the document keeps it: find by contract. (By the verifier; no statement.)
-/
namespace Go.Proofs.YtbielnehggcaoaaDoor
open Go.RowKit
abbrev encP : Int × Int → List Value := fun p => [.int .i64 p.1, .int .i64 p.2]
theorem enP : En 2 encP := ⟨fun _ => rfl, fun r u hu => by
  simp only [encP, List.mem_cons, List.not_mem_nil, or_false] at hu
  rcases hu with rfl | rfl <;> rfl⟩
theorem elP : El 67 41 2 16 (.agg #[.int .i64 0, .int .i64 0]) := ⟨by kernel_rfl, by kernel_rfl, rfl, by decide, by decide⟩
abbrev layN (l : List (Int × Int)) : Hold := Hold.none.lay l
theorem lay_take {l : List (Int × Int)} {k : Nat} (h : k < l.length) (key : Int) : layN (l.take (k + 1)) key = if key = l[k].1 then some l[k].2 else layN (l.take k) key := by
  rw [List.take_add_one, List.getElem?_eq_getElem h, Option.toList_some]
  show Hold.none.lay (l.take k ++ [l[k]]) key = _
  rw [Hold.lay_append]
  rfl
set_option maxRecDepth 100000 in
set_option maxHeartbeats 3200000 in
theorem cFind {w : World} {a : Option Addr} {c : Nat} {l : List (Int × Int)} {key : Int} (hV : VW encP w (.slice a l.length c) l) (hn : l.length ≤ 1000000000) : Calls Tryd.prog 59 #[.agg #[.slice a l.length c], .int .i64 key] w fun r w' => r = .returned (.tuple #[.int .i64 ((layN l key).getD 0), .bool (layN l key).isSome]) ∧ Turned [] w w' := by
  have HV : Hid (∀ k, k < l.length → ∃ b o, a = some ⟨b, o, none⟩ ∧ ∀ y, Turned [] w y → b < y.heap.size ∧ y.cell? ⟨b, o + k * 2, none⟩ = some (.int .i64 (l.getD k (0, 0)).1) ∧ y.cell? ⟨b, o + k * 2 + 1, none⟩ = some (.int .i64 (l.getD k (0, 0)).2)) := fun k hk => by
    obtain ⟨b, o, c', e, hb, hc⟩ := hV.get enP (by decide) hk
    simp only [Value.slice.injEq] at e
    have e2 : l.getD k (0, 0) = l[k] := by simp [hk]
    rw [e2]
    refine ⟨b, o, e.1, fun y hy => ?_⟩
    have c0 := hy.cell (hc 0 _ rfl) (by simp)
    have c1 := hy.cell (hc 1 _ rfl) (by simp)
    exact ⟨World.block_lt_of_cell? _ _ c0, c0, by rw [Nat.add_assoc]; exact c1⟩
  have HT : Hid (∀ k, k < l.length → layN (l.take (k + 1)) key = if key = (l.getD k (0, 0)).1 then some (l.getD k (0, 0)).2 else layN (l.take k) key) := fun k hk => by
    rw [lay_take hk]
    simp [hk]
  have HL : Hid (layN (l.take l.length) key = layN l key) := by rw [Hid, List.take_length]
  clear hV
  go_enter Tryd.func59, Tryd.ntmps59
  refine wp_seq_k fun K0 hK0 => ?_
  have HK0 : Hid _ := hK0
  clear hK0
  go_wp2
  refine HK0.out _ _ ?_
  clear HK0 K0
  have HT0 : Hid (Turned [] w (w.alloc (.cells #[.slice a l.length c] 118 (0, 0)))) := (Turned.refl [] w).alloc _
  have HSb : Hid ((w.alloc (.cells #[.slice a l.length c] 118 (0, 0))).heap[w.heap.size]? = some (.cells #[.slice a l.length c] 118 (0, 0))) := blk_new w _
  generalize w.alloc (.cells #[.slice a l.length c] 118 (0, 0)) = x0 at HT0 HSb ⊢
  generalize w.heap.size = sb at HSb ⊢
  have HSc : Hid (∀ y, Turned [] x0 y → sb < y.heap.size ∧ y.cell? ⟨sb, 0, none⟩ = some (.slice a l.length c)) := fun y hy => by
    have h := hy.heap HSb.out (by simp)
    exact ⟨lt_of_heap h, by rw [cell_at h]; rfl⟩
  clear HSb
  obtain ⟨s1, s2⟩ := HSc.out x0 (Turned.refl _ _)
  go_wp2
  clear s1 s2
  go_loopw [6] (fun i wx => ∃ k : Nat, k ≤ l.length ∧ i = .int .i64 ((k : Int) - 1) ∧ Hid (layN (l.take k) key = layN l key) ∧ Hid (Turned [] x0 wx)) (fun i _ => (intOf i + 1).toNat)
  case atStart => exact ⟨l.length, Nat.le_refl _, by go_num, HL, Turned.refl _ _⟩
  case round =>
    obtain ⟨k, hk, rfl, HA, HX⟩ := hrel
    obtain ⟨s1, s2⟩ := HSc.out wr HX.out
    rcases Nat.eq_zero_or_pos k with rfl | hpos
    · have HR : Hid (layN l key = none) := by rw [Hid, ← HA.out]; rfl
      go_wp2
      go_ret2
      exact ⟨by rw [HR.out]; rfl, HT0.out.trans HX.out⟩
    · obtain ⟨j, rfl⟩ : ∃ j, k = j + 1 := ⟨k - 1, by omega⟩
      obtain ⟨b, o, rfl, hc⟩ := HV.out j (by omega)
      obtain ⟨c0, c1, c2⟩ := hc wr (HT0.out.trans HX.out)
      have HTk := HT.out j (by omega)
      have hji : ((j + 1 : Nat) : Int) - 1 = (j : Int) := by omega
      rw [hji]
      clear hc hpos
      by_cases g : key = (l.getD j (0, 0)).1
      · have HR : Hid (layN l key = some (l.getD j (0, 0)).2) := by rw [Hid, ← HA.out, HTk, if_pos g]
        have g1 : ((l.getD j (0, 0)).1 == key) = true := by simp [g]
        clear g HTk
        generalize (l.getD j (0, 0)).1 = q1 at *
        generalize (l.getD j (0, 0)).2 = q2 at *
        go_wp2
        go_ret2
        exact ⟨by rw [HR.out]; rfl, HT0.out.trans HX.out⟩
      · have HA2 : Hid (layN (l.take j) key = layN l key) := by rw [Hid, ← HA.out, HTk, if_neg g]
        have g1 : ((l.getD j (0, 0)).1 == key) = false := by simpa using fun e => g e.symm
        clear g HTk
        generalize (l.getD j (0, 0)).1 = q1 at *
        generalize (l.getD j (0, 0)).2 = q2 at *
        go_wp2
        go_roundw
        case rel => exact ⟨j, by omega, by go_num, HA2, HX⟩
        case measure => simp [intOf]
end Go.Proofs.YtbielnehggcaoaaDoor
