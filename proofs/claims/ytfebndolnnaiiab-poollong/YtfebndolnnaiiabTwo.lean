/- A region each of whose operations has one value, in whatever order; two of them, A and then B, turn the world. -/
import Derived.Test.YtfebndolnnaiiabReads
namespace Go.Proofs.Ytfebndolnnaiiab
open Go.RowKit
/-- Operation i waits for operation j, straight or by others. -/
def reachB (ops : Array Oper) : Nat → Nat → Nat → Bool
  | 0, _, _ => false
  | f + 1, i, j => waitsB ops i j || (List.range ops.size).any fun k => waitsB ops i k && reachB ops f k j
section
variable {P : Program} {ops : Array Oper} {Q : Exit → Act → World → Prop}
theorem reach_on {l : Array Bool} (hc : ∀ i j, on l i = true → waitsB ops i j = true → on l j = true) : ∀ f i j, on l i = true → reachB ops f i j = true → on l j = true
  | 0, _, _, _, h => by cases h
  | f + 1, i, j, hi, h => by
    unfold reachB at h
    rw [Bool.or_eq_true, List.any_eq_true] at h
    rcases h with h | ⟨k, -, h⟩
    · exact hc i j hi h
    · rw [Bool.and_eq_true] at h
      exact reach_on hc f k j (hc i k hi h.1) h.2
theorem reach_on_ready {l : Array Bool} {i j : Nat} (hi : i ∈ Region.ready .any ops l) (hr : reachB ops ops.size i j = true) (hc : ∀ i j, on l i = true → waitsB ops i j = true → on l j = true) : on l j = true := by
  cases hz : ops.size with
  | zero => rw [hz] at hr; cases hr
  | succ f =>
    rw [hz] at hr
    unfold reachB at hr
    rw [Bool.or_eq_true, List.any_eq_true] at hr
    rcases hr with h | ⟨k, -, h⟩
    · exact dep_of hi (waits_map h)
    · rw [Bool.and_eq_true] at h
      exact reach_on hc f k j (dep_of hi (waits_map h.1)) h.2
/-- In which worlds operation i may come up, and what it leaves. -/
def Legal (ops : Array Oper) (A B : Nat) (w0 w1 w2 : World) (i : Nat) (w w' : World) : Prop :=
  (i = A ∧ w = w0 ∧ w' = w1) ∨ (i = B ∧ w = w1 ∧ w' = w2) ∨ (i ≠ A ∧ i ≠ B ∧ w' = w ∧ (w = w0 ∨ (reachB ops ops.size A i = false ∧ w = w1) ∨ (reachB ops ops.size A i = false ∧ reachB ops ops.size B i = false ∧ w = w2)))
def Yields2 (P : Program) (ops : Array Oper) (D : List (Option Nat)) (val : Nat → Value) (a0 : Act) (A B : Nat) (w0 w1 w2 : World) (Q : Exit → Act → World → Prop) (i : Nat) : Prop :=
  ∀ (o : Oper) (a : Act) (w w' : World) (K : Act → World → Prop), ops[i]? = some o → o.dst = D.getD i none → a.tmps.size = a0.tmps.size → (∀ s, some s ∉ D → a.eval (.tmp s) = a0.eval (.tmp s)) → (∀ j d, D.getD j none = some d → waitsB ops i j = true → a.eval (.tmp d) = val j) → Legal ops A B w0 w1 w2 i w w' → K (a.put (D.getD i none) (val i)) w' → o.wp P a w K Q
structure ITwo (ops : Array Oper) (D : List (Option Nat)) (val : Nat → Value) (a0 : Act) (A B : Nat) (w0 w1 w2 : World) (l : Array Bool) (a : Act) (w : World) : Prop where
  size : l.size = D.length
  tsize : a.tmps.size = a0.tmps.size
  defers : a.defers = a0.defers
  off : ∀ s, some s ∉ D → a.tmps[s]? = a0.tmps[s]?
  val : ∀ i d, D.getD i none = some d → on l i = true → a.eval (.tmp d) = val i
  closed : ∀ i j, on l i = true → waitsB ops i j = true → on l j = true
  w : w = if on l B then w2 else if on l A then w1 else w0
theorem wp_region_two {id : Nat} {a0 : Act} {w w1 w2 : World} (hm : P.follows .mixedOrders = true) (D : List (Option Nat)) (val : Nat → Value) (hok : regOk ops D a0.tmps.size = true) (A B : Nat) (hA : A < D.length) (hB : B < D.length) (hAB : A ≠ B) (hBA : reachB ops ops.size B A = true)
    (hg : ∀ (i g : Nat) (b : Bool), (ops[i]?).bind (fun o : Oper => o.guard) = some (g, b) → val g = .bool b)
    (hstep : ∀ i, i < D.length → Yields2 P ops D val a0 A B w.drew w1 w2 Q i)
    (hend : ∀ a', a'.tmps.size = a0.tmps.size → a'.defers = a0.defers → (∀ s, some s ∉ D → a'.tmps[s]? = a0.tmps[s]?) → (∀ i d, D.getD i none = some d → a'.eval (.tmp d) = val i) → Q .normal a' w2) :
    (Code.region id ops true).wp P Q a0 w := by
  have hn : ops.size = D.length := by
    unfold regOk at hok
    simp only [Bool.and_eq_true, beq_iff_eq] at hok
    exact hok.1
  have mem : ∀ s i, D.getD i none = some s → some s ∈ D := fun s i e => by
    have hi : i < D.length := by
      apply Classical.byContradiction
      intro h
      rw [List.getD_eq_getElem?_getD, List.getElem?_eq_none (by omega)] at e
      cases e
    rw [List.getD_eq_getElem?_getD, List.getElem?_eq_getElem hi] at e
    have := List.getElem_mem hi
    rw [show D[i] = some s from e] at this
    exact this
  have lt : ∀ i d, D.getD i none = some d → i < D.length := fun i d e => by
    apply Classical.byContradiction
    intro h
    rw [List.getD_eq_getElem?_getD, List.getElem?_eq_none (by omega)] at e
    cases e
  have hoff : ∀ i, on (Array.replicate ops.size false) i = false := fun i => by
    simp only [on, Array.getD_eq_getD_getElem?, Array.getElem?_replicate]
    split <;> rfl
  refine wp_region_inv hm (fun i o ho => (reg_at hok ho).2.2.1) (ITwo ops D val a0 A B w.drew w1 w2) (fun l a w h => by rw [hn]; exact h.size) ?_ ?_ ?_
  · exact ⟨by simp [hn], rfl, rfl, fun _ _ => rfl, fun i d _ hh => (by rw [hoff] at hh; cases hh), fun i j hh => (by rw [hoff] at hh; cases hh), by rw [hoff, hoff]; rfl⟩
  · intro l a w' h i hi
    obtain ⟨hu, o, ho, hall⟩ := mem_ready.1 hi
    obtain ⟨r1, r2, r3, r4, r5, r6⟩ := reg_at hok ho
    have hoi : on l i = false := by simp only [on]; simp [Array.getD, h.size, r1] at hu ⊢; exact hu
    have hset : ∀ j, on (l.setIfInBounds i true) j = if i = j then true else on l j := fun j => on_set i j (by rw [h.size]; exact r1)
    have hBon : on l B = true → on l A = true := fun hb => reach_on h.closed ops.size B A hb hBA
    have hdep : ∀ j d, D.getD j none = some d → waitsB ops i j = true → a.eval (.tmp d) = val j := fun j d hjd hh => h.val j d hjd (dep_of hi (waits_map hh))
    have legal : Legal ops A B w.drew w1 w2 i w' (if on (l.setIfInBounds i true) B then w2 else if on (l.setIfInBounds i true) A then w1 else w.drew) := by
      rw [hset, hset, h.w]
      by_cases eA : i = A
      · subst eA
        have hb : on l B = false := by
          cases hx : on l B with
          | false => rfl
          | true => rw [hBon hx] at hoi; cases hoi
        rw [hb, hoi, if_neg hAB, if_pos rfl]
        exact .inl ⟨rfl, rfl, rfl⟩
      · by_cases eB : i = B
        · subst eB
          have ha : on l A = true := reach_on_ready hi hBA h.closed
          exact .inr (.inl ⟨rfl, by simp [hoi, ha], by simp⟩)
        · rw [if_neg eB, if_neg eA]
          refine .inr (.inr ⟨eA, eB, rfl, ?_⟩)
          have nA : on l A = true → reachB ops ops.size A i = false := fun ha => by
            cases hr : reachB ops ops.size A i with
            | false => rfl
            | true => rw [reach_on h.closed ops.size A i ha hr] at hoi; cases hoi
          have nB : on l B = true → reachB ops ops.size B i = false := fun hb => by
            cases hr : reachB ops ops.size B i with
            | false => rfl
            | true => rw [reach_on h.closed ops.size B i hb hr] at hoi; cases hoi
          cases hb : on l B with
          | true => exact .inr (.inr ⟨nA (hBon hb), nB hb, rfl⟩)
          | false =>
            cases ha : on l A with
            | true => exact .inr (.inl ⟨nA ha, rfl⟩)
            | false => exact .inl rfl
    unfold wpOp
    simp only [ho]
    have hwant : Region.wanted o (yielded ops a.tmps) = true := by
      cases hgd : o.guard with
      | none => simp [Region.wanted, hgd]
      | some gb =>
        obtain ⟨g, b⟩ := gb
        obtain ⟨h1, h3, h4⟩ := r6 g b hgd
        have h2 := hg i g b (by rw [ho]; exact hgd)
        obtain ⟨d, hgD⟩ := Option.isSome_iff_exists.1 h4
        have hv := hdep g d hgD h3
        rw [h2] at hv
        have hgo : ∃ og, ops[g]? = some og := ⟨ops[g]'(by omega), Array.getElem?_eq_getElem (by omega)⟩
        obtain ⟨og, hog⟩ := hgo
        have hy : yielded ops a.tmps g = some b := by
          unfold yielded
          rw [hog]
          simp only [Option.bind_some, (reg_at hok hog).2.1, hgD]
          have hlt : d < a.tmps.size := by rw [h.tsize]; exact (reg_at hok hog).2.2.2.1 d hgD
          simp only [Act.eval, Array.getD, hlt, dite_true] at hv
          rw [Array.getElem?_eq_getElem hlt]
          have : a.tmps[d] = .bool b := hv
          rw [this]
        simp [Region.wanted, hgd, hy]
    rw [if_pos hwant]
    refine .inl (hstep i r1 o a w' _ _ ho r2 h.tsize (fun s hs => ?_) hdep legal ?_)
    · simp only [Act.eval, Array.getD_eq_getD_getElem?, h.off s hs]
    · have hputs : (a.put (D.getD i none) (val i)).tmps.size = a0.tmps.size := by
        cases hD : D.getD i none <;> simp [Act.put, h.tsize]
      have hputd : (a.put (D.getD i none) (val i)).defers = a0.defers := by
        cases hD : D.getD i none <;> simp [Act.put, h.defers]
      refine ⟨by simp [h.size], hputs, hputd, fun s hs => ?_, fun j d hjd hh => ?_, fun x y hx hy => ?_, rfl⟩
      · cases hD : D.getD i none with
        | none => exact h.off s hs
        | some d =>
          have : d ≠ s := fun e => hs (mem s i (by rw [hD, e]))
          simp only [Act.put, Array.getElem?_setIfInBounds, this, if_false]
          exact h.off s hs
      · rw [hset] at hh
        cases hD : D.getD i none with
        | none =>
          have hne : i ≠ j := fun e => by subst e; rw [hD] at hjd; cases hjd
          rw [if_neg hne] at hh
          exact h.val j d hjd hh
        | some d' =>
          rw [ev_put _ _ _ (by rw [h.tsize]; exact r4 d' hD)]
          by_cases e : i = j
          · subst e
            rw [hD] at hjd
            cases hjd
            simp
          · rw [if_neg e] at hh
            rw [if_neg (fun e2 => e (r5 j d (lt j d hjd) (by rw [hD, e2]) hjd))]
            exact h.val j d hjd hh
      · rw [hset] at hx ⊢
        by_cases e2 : i = y
        · rw [if_pos e2]
        · rw [if_neg e2]
          by_cases e1 : i = x
          · subst e1
            exact dep_of hi (waits_map hy)
          · rw [if_neg e1] at hx
            exact h.closed x y hx hy
  · intro l a w' h hall
    have hal : ∀ i, i < D.length → on l i = true := fun i hi => by
      have := hall i (by rw [hn]; exact hi)
      simp only [on, Array.getD, h.size, hi, dite_true] at this ⊢
      exact this
    have hw := h.w
    rw [hal B hB] at hw
    simp only [if_true] at hw
    subst hw
    exact hend a h.tsize h.defers h.off fun i d hD => h.val i d hD (hal i (lt i d hD))
end
end Go.Proofs.Ytfebndolnnaiiab
