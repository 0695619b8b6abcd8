/-
  Rows of things of any kind, each of some cells: as they are viewed, as they are owned; 'append'. (By the verifier; no statement.)
-/
import Derived.Test.YtbnpdfakniebnaaGreatDoorProg
import Derived.Test.YtbnpdfakniebnaaGreatDoorPush
import Derived.Deep.RegionLaw
namespace Go.Proofs.YtbnpdfakniebnaaGreatDoor
open Go.RowKit
/-- What is known of a kind of things: its type, the type of lists of it, how many cells, how many bytes. -/
structure El (T Ts : TypeId) (k y : Nat) (z : Value) : Prop where
  info : (Tryz.prog.info? T).map (fun i => (i.zero, i.size, i.bytes)) = some (some z, k, y)
  und : Tryz.prog.underlying Ts = some (.slice T)
  zc : z.cells.size = k
  pos : 0 < k
  posy : 0 < y
structure En {α : Type} (k : Nat) (enc : α → List Value) : Prop where
  len : ∀ r, (enc r).length = k
  one : ∀ r u, u ∈ enc r → u.oneCell' = true
/-- A row of things in memory of its own from B on. -/
structure OW {α : Type} (T : TypeId) (k : Nat) (enc : α → List Value) (B : Nat) (w : World) (v : Value) (R : List α) : Prop where
  own : w.ownsRow B T k v R.length (R.flatMap enc)
/-- The slice v reads as the things R. -/
structure VW {α : Type} (enc : α → List Value) (w : World) (v : Value) (R : List α) : Prop where
  ex : ∃ a c, v = .slice a R.length c ∧ (a = none → c = 0) ∧ (R ≠ [] → ∃ b o, a = some ⟨b, o, none⟩ ∧ ∀ (i : Nat) (u : Value), (R.flatMap enc)[i]? = some u → w.cell? ⟨b, o + i, none⟩ = some u)
theorem rowO_len {α : Type} {k : Nat} {enc : α → List Value} (N : En k enc) : ∀ R : List α, (R.flatMap enc).length = R.length * k
  | [] => by simp
  | r :: R => by rw [List.flatMap_cons, List.length_append, N.len, rowO_len N R, List.length_cons, Nat.succ_mul]; omega
theorem rowO_at {α : Type} {k : Nat} {enc : α → List Value} (N : En k enc) : ∀ (R : List α) {i j : Nat} (h : i < R.length), j < k → (R.flatMap enc)[i * k + j]? = (enc R[i])[j]?
  | [], i, j, h, _ => by simp at h
  | r :: R, 0, j, h, hj => by
    rw [List.flatMap_cons, Nat.zero_mul, Nat.zero_add, List.getElem?_append_left (by rw [N.len]; exact hj)]
    rfl
  | r :: R, i + 1, j, h, hj => by
    have e : (i + 1) * k + j = k + (i * k + j) := by rw [Nat.succ_mul]; omega
    rw [List.flatMap_cons, e, List.getElem?_append_right (by rw [N.len]; omega), N.len, Nat.add_sub_cancel_left]
    exact rowO_at N R (by simpa using h) hj
section
variable {α : Type} {T Ts : TypeId} {k y : Nat} {z : Value} {enc : α → List Value} {B : Nat} {w w' : World} {v u : Value} {R M : List α}
theorem OW.nil (T : TypeId) (k : Nat) (enc : α → List Value) (B : Nat) (w : World) : OW T k enc B w (.slice none 0 0) [] := ⟨World.ownsRow_nil _ _ _ _⟩
theorem OW.keep {F : List Nat} (h : OW T k enc B w v R) (ht : Turned F w w') (hF : ∀ g, v.ownBlock = some g → g ∉ F) : OW T k enc B w' v R := by
  refine ⟨h.own.1, ?_⟩
  rcases h.own.2 with h0 | ⟨g, c, cs, rfl, hb, hg, h3⟩
  · exact .inl h0
  · exact .inr ⟨g, c, cs, rfl, hb, ht.heap hg (hF g rfl), h3⟩
theorem OW.still (h : OW T k enc B w v R) (ht : Turned [] w w') : OW T k enc B w' v R := h.keep ht (by simp)
theorem OW.fresh (h : OW T k enc B w v R) {g : Nat} (hg : v.ownBlock = some g) : B ≤ g ∧ g < w.heap.size := h.own.lt g hg
theorem OW.type (h : OW T k enc B w v R) {g : Nat} (hg : v.ownBlock = some g) : ∃ cs, w.heap[g]? = some (.cells cs T (0, 0)) := by
  rcases h.own.2 with ⟨rfl, h0⟩ | ⟨g', c, cs, rfl, hb, hg', h3⟩
  · cases hg
  · cases hg; exact ⟨cs, hg'⟩
theorem OW.lower {B' : Nat} (h : OW T k enc B w v R) (hb : B' ≤ B) : OW T k enc B' w v R := by
  refine ⟨h.own.1, ?_⟩
  rcases h.own.2 with h0 | ⟨g, c, cs, rfl, hb2, hg, h3⟩
  · exact .inl h0
  · exact .inr ⟨g, c, cs, rfl, by omega, hg, h3⟩
theorem OW.form (h : OW T k enc B w v R) : (v = .slice none 0 0 ∧ R = []) ∨ ∃ g c, v = .slice (some ⟨g, 0, none⟩) R.length c := by
  rcases h.own.2 with ⟨rfl, h0⟩ | ⟨g, c, cs, rfl, _⟩
  · exact .inl ⟨rfl, List.length_eq_zero_iff.1 h0⟩
  · exact .inr ⟨g, c, rfl⟩
theorem OW.slice (h : OW T k enc B w v R) : ∃ a c, v = .slice a R.length c := by
  rcases h.form with ⟨rfl, rfl⟩ | ⟨g, c, rfl⟩
  · exact ⟨none, 0, rfl⟩
  · exact ⟨_, c, rfl⟩
theorem OW.somes {x : α} (h : OW T k enc B w v (R ++ [x])) : ∃ g c, v = .slice (some ⟨g, 0, none⟩) (R.length + 1) c := by
  rcases h.own.2 with ⟨_, e⟩ | ⟨g, c, cs, rfl, _⟩
  · simp at e
  · exact ⟨g, c, by simp⟩
theorem OW.at_ (h : OW T k enc B w v R) (hne : R ≠ []) : ∃ g c, v = .slice (some ⟨g, 0, none⟩) R.length c := by
  rcases h.form with ⟨_, h0⟩ | h0
  · exact absurd h0 hne
  · exact h0
theorem OW.view (h : OW T k enc B w v R) : VW enc w v R := by
  rcases h.form with ⟨rfl, rfl⟩ | ⟨g, c, rfl⟩
  · exact ⟨none, 0, rfl, fun _ => rfl, fun h => absurd rfl h⟩
  · refine ⟨_, c, rfl, (fun h => by cases h), fun _ => ⟨g, 0, rfl, fun i u hu => ?_⟩⟩
    have hi : i < (R.flatMap enc).length := (List.getElem?_eq_some_iff.1 hu).1
    rw [Nat.zero_add, h.own.cellAt i (by have := h.own.1; omega)]
    exact hu
theorem VW.keep {F : List Nat} (h : VW enc w v R) (ht : Turned F w w') (hF : ∀ b, v.ownBlock = some b → b ∉ F) : VW enc w' v R := by
  obtain ⟨a, c, rfl, hz, hc⟩ := h.ex
  refine ⟨a, c, rfl, hz, fun hne => ?_⟩
  obtain ⟨b, o, rfl, hk⟩ := hc hne
  exact ⟨b, o, rfl, fun i u hi => ht.cell (hk i u hi) (hF b rfl)⟩
theorem VW.still (h : VW enc w v R) (ht : Turned [] w w') : VW enc w' v R := h.keep ht (by simp)
theorem VW.nil (enc : α → List Value) (w : World) : VW enc w (.slice none 0 0) [] := ⟨none, 0, rfl, fun _ => rfl, fun h => absurd rfl h⟩
theorem VW.block {g c : Nat} {cs : Array Value} {T : TypeId} (h : w.heap[g]? = some (.cells cs T (0, 0))) (hc : ∀ (i : Nat) (u : Value), (R.flatMap enc)[i]? = some u → cs[i]? = some u) : VW enc w (.slice (some ⟨g, 0, none⟩) R.length c) R :=
  ⟨_, c, rfl, (fun h => by cases h), fun _ => ⟨g, 0, rfl, fun i u hu => by rw [Nat.zero_add, cell_at h]; exact hc i u hu⟩⟩
/-- A thing of a row, cell by cell. -/
theorem VW.get (N : En k enc) (hk : 0 < k) (h : VW enc w v R) {i : Nat} (hi : i < R.length) : ∃ b o c, v = .slice (some ⟨b, o, none⟩) R.length c ∧ b < w.heap.size ∧ ∀ (j : Nat) (u : Value), (enc R[i])[j]? = some u → w.cell? ⟨b, o + (i * k + j), none⟩ = some u := by
  obtain ⟨a, c, rfl, hz, hc⟩ := h.ex
  obtain ⟨b, o, rfl, hq⟩ := hc (fun e => by subst e; simp at hi)
  have hcell : ∀ (j : Nat) (u : Value), (enc R[i])[j]? = some u → w.cell? ⟨b, o + (i * k + j), none⟩ = some u := fun j u hu => by
    have hj : j < k := by
      have := (List.getElem?_eq_some_iff.1 hu).1
      rwa [N.len] at this
    exact hq (i * k + j) u (by rw [rowO_at N R hi hj]; exact hu)
  have h0 : 0 < (enc R[i]).length := by rw [N.len]; exact hk
  exact ⟨b, o, c, rfl, World.block_lt_of_cell? _ _ (hcell 0 _ (List.getElem?_eq_getElem h0)), hcell⟩
/-- 'append(v, u..)'. -/
theorem run_apO (E : El T Ts k y z) (N : En k enc) {ty : TypeId} (hr : OW T k enc B w v R) (hu : VW enc w u M) (hby : (R.length + M.length) * y ≤ 140737488355328) (hB : B ≤ w.heap.size) :
    ∃ v' w', (Builtin.append_ #[Ts, Ts] ty #[v, u]).run Tryz.prog w = .ok v' w' ∧ OW T k enc B w' v' (R ++ M) ∧ Turned v.ownBlock.toList w w' ∧ (v'.ownBlock = v.ownBlock ∨ v'.ownBlock = some w.heap.size) := by
  obtain ⟨i, hi, hzz⟩ := Option.map_eq_some_iff.1 E.info
  simp only [Prod.mk.injEq] at hzz
  obtain ⟨hz, hs1, hb⟩ := hzz
  obtain ⟨a, c, rfl, hz0, hc⟩ := hu.ex
  have hlen : R.length + M.length ≤ 140737488355328 := Nat.le_trans (Nat.le_mul_of_pos_right _ E.posy) hby
  cases a with
  | none =>
    have hms : M = [] := by
      apply Classical.byContradiction
      intro hne
      obtain ⟨b, o, h, _⟩ := hc hne
      cases h
    subst hms
    refine ⟨v, w, ?_, by simpa using hr, Turned.refl _ _, .inl rfl⟩
    have := run_append_owned_none (P := Tryz.prog) (w := w) B Ts ty T i k E.und hi v R.length (R.flatMap enc) hr.own
    rw [hz0 rfl]
    exact this
  | some q =>
    obtain ⟨v', w', hrun, h2, h3, h4, h5⟩ := run_append_own_at (P := Tryz.prog) w B Ts ty T i _ k y E.und hi hz hs1 hb E.zc E.pos v R.length (R.flatMap enc) hr.own q M.length c (M.flatMap enc) (rowO_len N M) (fun j u hj => by
      have hne : M ≠ [] := fun e => by rw [e] at hj; simp at hj
      obtain ⟨b, o, hq, hk⟩ := hc hne
      cases hq
      have hadd : (⟨b, o, none⟩ : Addr).add j = ⟨b, o + j, none⟩ := by unfold Addr.add; split <;> simp_all
      rw [hadd]
      exact hk j u hj) (by
        intro u hu
        obtain ⟨r, _, hr⟩ := List.mem_flatMap.1 hu
        exact N.one r u hr) (by unfold maxLen; omega) hby hB
    exact ⟨v', w', hrun, ⟨by rw [List.length_append, List.flatMap_append]; exact h2⟩, ⟨h3.os, h3.tape, h3.output, h3.size, fun k hk hn => h3.block k hk fun e => hn (by rw [← e]; simp)⟩, h5⟩
theorem wpList_apO (E : El T Ts k y z) (N : En k enc) {ops : Array Oper} {rest : List Oper} {o : Oper} {a : Act} {Q : Exit → Act → World → Prop} (hgd : o.guard = none) (p q : Operand) (ho : o.op = .call { callee := .builtin .append, args := #[p, q], argTypes := #[Ts, Ts] })
    (hs : a.eval p = v) (hr : OW T k enc B w v R) (hy : a.eval q = u) (hu : VW enc w u M) (hby : (R.length + M.length) * y ≤ 140737488355328) (hB : B ≤ w.heap.size)
    (h : ∀ v' w', OW T k enc B w' v' (R ++ M) → Turned v.ownBlock.toList w w' → (v'.ownBlock = v.ownBlock ∨ v'.ownBlock = some w.heap.size) → wpList Tryz.prog ops Q rest (a.put o.dst v') w') : wpList Tryz.prog ops Q (o :: rest) a w := by
  refine wpList_plain hgd fun K hK => ?_
  obtain ⟨v', w', hrun, h2, h3, h4⟩ := run_apO E N (ty := o.type) hr hu hby hB
  unfold Oper.wp execOp
  simp only [ho, resolve, invoke, builtin, Sem.run_bind, Sem.run_pure, Result.andThen_ok, List.map_toArray, List.map_cons, List.map_nil, hs, hy]
  simp only [hrun]
  exact hK _ _ (h v' w' h2 h3 h4)
/-- The same as a step of a region that draws. -/
theorem step_apO (E : El T Ts k y z) (N : En k enc) {ops : Array Oper} {o : Oper} {a : Act} {K : Act → World → Prop} {Q : Exit → Act → World → Prop} {X : Prop} (hgd : o.guard = none) (p q : Operand) (ho : o.op = .call { callee := .builtin .append, args := #[p, q], argTypes := #[Ts, Ts] })
    (hs : a.eval p = v) (hr : OW T k enc B w v R) (hy : a.eval q = u) (hu : VW enc w u M) (hby : (R.length + M.length) * y ≤ 140737488355328) (hB : B ≤ w.heap.size)
    (h : ∀ v' w', OW T k enc B w' v' (R ++ M) → Turned v.ownBlock.toList w w' → (v'.ownBlock = v.ownBlock ∨ v'.ownBlock = some w.heap.size) → K (a.put o.dst v') w') : if Region.wanted o (yielded ops a.tmps) = true then Oper.wp Tryz.prog o a w K Q else X := by
  have hw : Region.wanted o (yielded ops a.tmps) = true := by simp [Region.wanted, hgd]
  rw [if_pos hw]
  obtain ⟨v', w', hrun, h2, h3, h4⟩ := run_apO E N (ty := o.type) hr hu hby hB
  unfold Oper.wp execOp
  simp only [ho, resolve, invoke, builtin, Sem.run_bind, Sem.run_pure, Result.andThen_ok, List.map_toArray, List.map_cons, List.map_nil, hs, hy]
  simp only [hrun]
  exact h v' w' h2 h3 h4
end
end Go.Proofs.YtbnpdfakniebnaaGreatDoor
