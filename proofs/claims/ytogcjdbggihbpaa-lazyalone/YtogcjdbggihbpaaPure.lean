/- A region that only reads, in whatever order: each operation has one value. -/
import Derived.Test.YtogcjdbggihbpaaThree
namespace Go.Proofs.Ytogcjdbggihbpaa
open Go.RowKit Go.Conc Go.MuLone
section
variable {P : Program} {ops : Array Oper} {Q : Exit → Act → World → Prop}
structure IPure (n base : Nat) (val : Nat → Value) (a0 : Act) (w0 : World) (l : Array Bool) (a : Act) (w : World) : Prop where
  size : l.size = n
  tsize : a.tmps.size = a0.tmps.size
  defers : a.defers = a0.defers
  off : ∀ s, s < base ∨ base + n ≤ s → a.tmps[s]? = a0.tmps[s]?
  val : ∀ i, i < n → on l i = true → a.eval (.tmp (base + i)) = val i
  w : w = w0
theorem on_set' {l : Array Bool} (i j : Nat) (hi : i < l.size) : on (l.setIfInBounds i true) j = if i = j then true else on l j := by
  unfold on
  by_cases h : i = j
  · subst h; simp [Array.getD, hi]
  · rw [if_neg h]; simp [Array.getD_eq_getD_getElem?, h]
theorem wp_region_pure {id : Nat} {a0 : Act} {w : World} (hm : P.follows .mixedOrders = true) (hac : ∀ i o, ops[i]? = some o → ∀ e ∈ o.after, Region.binds .any e = true → e.on < i) (n base : Nat) (hn : ops.size = n) (hsz : base + n ≤ a0.tmps.size)
    (val : Nat → Value) (hd : ∀ (i : Nat) (o : Oper), ops[i]? = some o → o.dst = some (base + i)) (hg : ∀ (i : Nat) (o : Oper), ops[i]? = some o → ∀ (g : Nat) (b : Bool), o.guard = some (g, b) → g < n ∧ val g = .bool b ∧ (ops[i]?).map (fun o : Oper => o.after.any fun e => Region.binds .any e && e.on == g) = some true)
    (hstep : ∀ (i : Nat) (o : Oper), ops[i]? = some o → ∀ a : Act, (∀ s, s < base ∨ base + n ≤ s → a.eval (.tmp s) = a0.eval (.tmp s)) → (∀ j, j < n → (ops[i]?).map (fun o : Oper => o.after.any fun e => Region.binds .any e && e.on == j) = some true → a.eval (.tmp (base + j)) = val j) → ∀ K : Act → World → Prop, K (a.put (some (base + i)) (val i)) w.drew → o.wp P a w.drew K Q)
    (hend : ∀ a', a'.tmps.size = a0.tmps.size → a'.defers = a0.defers → (∀ s, s < base ∨ base + n ≤ s → a'.tmps[s]? = a0.tmps[s]?) → (∀ i, i < n → a'.eval (.tmp (base + i)) = val i) → Q .normal a' w.drew) :
    (Code.region id ops true).wp P Q a0 w := by
  refine wp_region_inv hm hac (IPure n base val a0 w.drew) (fun l a w h => by rw [hn]; exact h.size) ?_ ?_ ?_
  · refine ⟨by simp [hn], rfl, rfl, fun _ _ => rfl, fun i _ hh => ?_, rfl⟩
    have hf : on (Array.replicate ops.size false) i = false := by
      simp only [on, Array.getD_eq_getD_getElem?, Array.getElem?_replicate]
      split <;> rfl
    rw [hf] at hh; cases hh
  · intro l a w' h i hi
    obtain ⟨hu, o, ho, hall⟩ := mem_ready.1 hi
    have hin : i < n := by rw [← hn]; exact (Array.getElem?_eq_some_iff.1 ho).1
    have hw := h.w
    subst hw
    have hdep : ∀ j, j < n → (ops[i]?).map (fun o : Oper => o.after.any fun e => Region.binds .any e && e.on == j) = some true → a.eval (.tmp (base + j)) = val j := fun j hj hh => h.val j hj (dep_of hi hh)
    unfold wpOp
    simp only [ho]
    have hwant : Region.wanted o (yielded ops a.tmps) = true := by
      cases hgd : o.guard with
      | none => simp [Region.wanted, hgd]
      | some gb =>
        obtain ⟨g, b⟩ := gb
        obtain ⟨h1, h2, h3⟩ := hg i o ho g b hgd
        have hv := hdep g h1 h3
        rw [h2] at hv
        have hgo : ∃ og, ops[g]? = some og := ⟨ops[g]'(by omega), Array.getElem?_eq_getElem (by omega)⟩
        obtain ⟨og, hog⟩ := hgo
        have hy : yielded ops a.tmps g = some b := by
          unfold yielded
          rw [hog]
          simp only [Option.bind_some, hd g og hog]
          have hlt : base + g < a.tmps.size := by rw [h.tsize]; omega
          simp only [Act.eval, Array.getD, hlt, dite_true] at hv
          rw [Array.getElem?_eq_getElem hlt]
          have : a.tmps[base + g] = .bool b := hv
          rw [this]
        simp [Region.wanted, hgd, hy]
    rw [if_pos hwant]
    refine .inl (hstep i o ho a (fun s hs => ?_) hdep _ ?_)
    · simp only [Act.eval, Array.getD_eq_getD_getElem?, h.off s hs]
    · have hlt : base + i < a.tmps.size := by rw [h.tsize]; omega
      refine ⟨by simp [h.size], by simp [Act.put, h.tsize], h.defers, fun s hs => ?_, fun j hj hh => ?_, rfl⟩
      · have : base + i ≠ s := by omega
        simp only [Act.put, Array.getElem?_setIfInBounds, this, if_false]
        exact h.off s hs
      · rw [ev_put _ _ _ hlt]
        by_cases e : i = j
        · subst e; simp
        · rw [if_neg (by omega)]
          rw [on_set' i j (by rw [h.size]; exact hin), if_neg e] at hh
          exact h.val j hj hh
  · intro l a w' h hall
    have hw := h.w
    subst hw
    refine hend a h.tsize h.defers h.off fun i hi => h.val i hi ?_
    have := hall i (by rw [hn]; exact hi)
    simp only [on, Array.getD, h.size, hi, dite_true] at this ⊢
    exact this
end
section
variable {o : Oper} {a : Act} {w : World} {K : Act → World → Prop} {Q : Exit → Act → World → Prop} {d : Nat}
theorem l_run {v : Value} (hd : o.dst = some d) (hr : (execOp a.eval o).run Try.prog w = .ok (.value v) w) (hK : K (a.put (some d) v) w) : o.wp Try.prog a w K Q := by
  unfold Oper.wp; rw [hr]; simp only [Oper.upon, hd]; exact hK
theorem l_move {x : Nat} {v : Value} (hd : o.dst = some d) (hop : o.op = .move (.tmp x)) (hx : a.eval (.tmp x) = v) (hK : K (a.put (some d) v) w) : o.wp Try.prog a w K Q :=
  l_run hd (by rw [BigFrame.run_move (.tmp x) hop, hx]) hK
theorem r_neqi {ρ : Operand → Value} {s t : Nat} {u : Int} (hop : o.op = .binOp .neq 3 (.tmp s) (.tmp t) 3) (h1 : ρ (.tmp s) = .int .i64 u) (h2 : ρ (.tmp t) = .int .i64 u) : (execOp ρ o).run Try.prog w = .ok (.value (.bool false)) w := by
  unfold execOp; rw [hop]; simp [go_sem, h1, h2]
theorem r_neqb {ρ : Operand → Value} {s t : Nat} {b : Bool} (hop : o.op = .binOp .neq 4 (.tmp s) (.tmp t) 4) (h1 : ρ (.tmp s) = .bool b) (h2 : ρ (.tmp t) = .bool b) : (execOp ρ o).run Try.prog w = .ok (.value (.bool false)) w := by
  unfold execOp; rw [hop]; simp [go_sem, h1, h2]
theorem r_pick {ρ : Operand → Value} {s t : Nat} (hop : o.op = .pick (.tmp s) (.const (.bool true)) (.tmp t)) (h1 : ρ (.tmp s) = .bool false) (h2 : ρ (.tmp t) = .bool false) : (execOp ρ o).run Try.prog w = .ok (.value (.bool false)) w := by
  unfold execOp; rw [hop]; simp [go_sem, h1, h2]
theorem r_index25 {ρ : Operand → Value} {s t g k c j : Nat} (hop : o.op = .indexAddr 25 (.tmp s) (.tmp t)) (hj : j < k) (h1 : ρ (.tmp s) = .slice (some ⟨g, 0, none⟩) k c) (h2 : ρ (.tmp t) = .int .i64 j) : (execOp ρ o).run Try.prog w = .ok (.value (.pointer (some ⟨g, j, none⟩))) w := by
  unfold execOp; rw [hop]; simp [go_sem, h1, h2, hj]
theorem r_index26 {ρ : Operand → Value} {s t g k c j : Nat} (hop : o.op = .indexAddr 26 (.tmp s) (.tmp t)) (hj : j < k) (h1 : ρ (.tmp s) = .slice (some ⟨g, 0, none⟩) k c) (h2 : ρ (.tmp t) = .int .i64 j) : (execOp ρ o).run Try.prog w = .ok (.value (.pointer (some ⟨g, j, none⟩))) w := by
  unfold execOp; rw [hop]; simp [go_sem, h1, h2, hj]
theorem r_index27 {ρ : Operand → Value} {s t g k c j : Nat} (hop : o.op = .indexAddr 27 (.tmp s) (.tmp t)) (hj : j < k) (h1 : ρ (.tmp s) = .slice (some ⟨g, 0, none⟩) k c) (h2 : ρ (.tmp t) = .int .i64 j) : (execOp ρ o).run Try.prog w = .ok (.value (.pointer (some ⟨g, j, none⟩))) w := by
  unfold execOp; rw [hop]; simp [go_sem, h1, h2, hj]
theorem r_index28 {ρ : Operand → Value} {s t g k c j : Nat} (hop : o.op = .indexAddr 28 (.tmp s) (.tmp t)) (hj : j < k) (h1 : ρ (.tmp s) = .slice (some ⟨g, 0, none⟩) k c) (h2 : ρ (.tmp t) = .int .i64 j) : (execOp ρ o).run Try.prog w = .ok (.value (.pointer (some ⟨g, j, none⟩))) w := by
  unfold execOp; rw [hop]; simp [go_sem, h1, h2, hj]
theorem r_load {ρ : Operand → Value} {s : Nat} {p : Addr} {v : Value} (T : TypeId) (hT : T = 3 ∨ T = 4 ∨ T = 27 ∨ T = 29 ∨ T = 34 ∨ T = 38 ∨ T = 40) (hop : o.op = .load T (.tmp s)) (h1 : ρ (.tmp s) = .pointer (some p)) (hc : w.cell? p = some v) : (execOp ρ o).run Try.prog w = .ok (.value v) w := by
  unfold execOp; rw [hop]
  rcases hT with rfl | rfl | rfl | rfl | rfl | rfl | rfl <;> simp [go_sem, h1, hc]
theorem r_nil {ρ : Operand → Value} {s : Nat} {p : Addr} (hop : o.op = .nilCheck (.tmp s)) (h1 : ρ (.tmp s) = .pointer (some p)) : (execOp ρ o).run Try.prog w = .ok (.value (.pointer (some p))) w := by
  unfold execOp; rw [hop]; simp [go_sem, h1]
theorem r_field423 {ρ : Operand → Value} {s b : Nat} (hop : o.op = .fieldAddr 42 (.tmp s) 3) (h1 : ρ (.tmp s) = .pointer (some ⟨b, 0, none⟩)) : (execOp ρ o).run Try.prog w = .ok (.value (.pointer (some ⟨b, 5, none⟩))) w := by
  unfold execOp; rw [hop]; simp [go_sem, h1]
theorem r_field422 {ρ : Operand → Value} {s b : Nat} (hop : o.op = .fieldAddr 42 (.tmp s) 2) (h1 : ρ (.tmp s) = .pointer (some ⟨b, 0, none⟩)) : (execOp ρ o).run Try.prog w = .ok (.value (.pointer (some ⟨b, 4, none⟩))) w := by
  unfold execOp; rw [hop]; simp [go_sem, h1]
theorem r_field331 {ρ : Operand → Value} {s b : Nat} (hop : o.op = .fieldAddr 33 (.tmp s) 1) (h1 : ρ (.tmp s) = .pointer (some ⟨b, 0, none⟩)) : (execOp ρ o).run Try.prog w = .ok (.value (.pointer (some ⟨b, 3, none⟩))) w := by
  unfold execOp; rw [hop]; simp [go_sem, h1]
theorem l_call {f s : Nat} {T1 : TypeId} {v : Value} {p : Value} (hd : o.dst = some d) (hop : o.op = .call { callee := .value (.func f), args := #[.tmp s, .const (.pointer none)], argTypes := #[T1, 71] }) (h1 : a.eval (.tmp s) = p) (hf : (callFunc f #[p, .pointer none]).run Try.prog w = .ok (.enter f #[p, .pointer none]) w)
    (hc : Calls Try.prog f #[p, .pointer none] w fun e w' => e = .returned v ∧ w' = w) (hK : K (a.put (some d) v) w) : o.wp Try.prog a w K Q := by
  have hr : ∀ ρ : Operand → Value, ρ (.tmp s) = p → ρ (.func f) = .func (.func f) #[] #[] → ρ (.const (.pointer none)) = .pointer none → (execOp ρ o).run Try.prog w = .ok (.enter f #[p, .pointer none]) w := by
    intro ρ h1 h2 h3
    unfold execOp
    rw [hop]
    simp [go_sem, h1, h2, h3, hf]
  unfold Oper.wp
  rw [hr _ h1 rfl rfl]
  simp only [Oper.upon]
  refine Calls.mono hc ?_
  rintro e w' ⟨rfl, rfl⟩
  simp only [hd]
  exact hK
theorem hf15 (args : Array Value) (w : World) : (callFunc 15 args).run Try.prog w = .ok (.enter 15 args) w := by simp [go_sem]
theorem hf16 (args : Array Value) (w : World) : (callFunc 16 args).run Try.prog w = .ok (.enter 16 args) w := by simp [go_sem]
end
theorem size41 : (opsOf 41 Try.f3.body).size = 89 := by kernel_rfl
theorem ac41 : ((List.range 89).all fun i => (((opsOf 41 Try.f3.body)[i]?).map fun o => (o.dst == some (224 + i)) && o.after.all fun e => !(Region.binds .any e) || decide (e.on < i)).getD true) = true := by kernel_rfl
end Go.Proofs.Ytogcjdbggihbpaa
