/- A region each of whose operations has one value, in whatever order or in the text's; its last operation may write. -/
import Derived.Test.YtbielnehggcaoaaDoorL05
import Derived.BigRegion
namespace Go.Proofs.YtbielnehggcaoaaDoor
open Go.RowKit
def on (l : Array Bool) (i : Nat) : Bool := l.getD i false
theorem on_set {l : Array Bool} (i j : Nat) (hi : i < l.size) : on (l.setIfInBounds i true) j = if i = j then true else on l j := by
  unfold on
  by_cases h : i = j
  · subst h; simp [Array.getD, hi]
  · rw [if_neg h]; simp [Array.getD_eq_getD_getElem?, h]
theorem ev_put {a : Act} (d s : Nat) (v : Value) (hd : d < a.tmps.size) : (a.put (some d) v).eval (.tmp s) = if d = s then v else a.eval (.tmp s) := by
  by_cases h : d = s
  · subst h; simp [Act.put, Act.eval, Array.getD, hd]
  · rw [if_neg h]; simp [Act.put, Act.eval, Array.getD_eq_getD_getElem?, h]
section
variable {P : Program} {ops : Array Oper} {Q : Exit → Act → World → Prop}
/-- Operation i waits for operation j. -/
def waitsB (ops : Array Oper) (i j : Nat) : Bool := ((ops[i]?).map (fun o : Oper => o.after.any fun e => Region.binds .any e && e.on == j)).getD false
theorem waits_map {i j : Nat} (h : waitsB ops i j = true) : (ops[i]?).map (fun o : Oper => o.after.any fun e => Region.binds .any e && e.on == j) = some true := by
  unfold waitsB at h
  cases ho : ops[i]? with
  | none => rw [ho] at h; cases h
  | some o => rw [ho] at h; exact congrArg some h
structure IRead (n : Nat) (D : Nat → Option Nat) (val : Nat → Value) (a0 : Act) (w0 w1 : World) (l : Array Bool) (a : Act) (w : World) : Prop where
  size : l.size = n
  tsize : a.tmps.size = a0.tmps.size
  defers : a.defers = a0.defers
  off : ∀ s, (∀ i, i < n → D i ≠ some s) → a.tmps[s]? = a0.tmps[s]?
  val : ∀ i d, i < n → D i = some d → on l i = true → a.eval (.tmp d) = val i
  last : on l (n - 1) = true → w1 = w0 ∨ ∀ j, j < n → on l j = true
  w : w = if on l (n - 1) then w1 else w0
theorem wp_region_read {id : Nat} {a0 : Act} {w w1 : World} (hm : P.follows .mixedOrders = true) (hac : ∀ i o, ops[i]? = some o → ∀ e ∈ o.after, Region.binds .any e = true → e.on < i) (n : Nat) (hn : ops.size = n) (D : Nat → Option Nat)
    (hsz : ∀ i d, i < n → D i = some d → d < a0.tmps.size) (inj : ∀ i j d, i < n → j < n → D i = some d → D j = some d → i = j)
    (val : Nat → Value) (hd : ∀ (i : Nat) (o : Oper), ops[i]? = some o → o.dst = D i) (hg : ∀ (i : Nat) (o : Oper), ops[i]? = some o → ∀ (g : Nat) (b : Bool), o.guard = some (g, b) → g < n ∧ val g = .bool b ∧ waitsB ops i g = true ∧ (D g).isSome)
    (hlast : w1 = w.drew ∨ ∀ j, j < n - 1 → waitsB ops (n - 1) j = true)
    (hstep : ∀ (i : Nat) (o : Oper), ops[i]? = some o → ∀ a : Act, a.tmps.size = a0.tmps.size → (∀ s, (∀ i, i < n → D i ≠ some s) → a.eval (.tmp s) = a0.eval (.tmp s)) → (∀ j d, j < n → D j = some d → waitsB ops i j = true → a.eval (.tmp d) = val j) → ∀ K : Act → World → Prop, K (a.put (D i) (val i)) (if i = n - 1 then w1 else w.drew) → o.wp P a w.drew K Q)
    (hend : ∀ a', a'.tmps.size = a0.tmps.size → a'.defers = a0.defers → (∀ s, (∀ i, i < n → D i ≠ some s) → a'.tmps[s]? = a0.tmps[s]?) → (∀ i d, i < n → D i = some d → a'.eval (.tmp d) = val i) → Q .normal a' w1) (hpos : 0 < n) :
    (Code.region id ops true).wp P Q a0 w := by
  have hoff : ∀ i, on (Array.replicate ops.size false) i = false := fun i => by
    simp only [on, Array.getD_eq_getD_getElem?, Array.getElem?_replicate]
    split <;> rfl
  refine wp_region_inv hm hac (IRead n D val a0 w.drew w1) (fun l a w h => by rw [hn]; exact h.size) ?_ ?_ ?_
  · exact ⟨by simp [hn], rfl, rfl, fun _ _ => rfl, fun i d _ _ hh => (by rw [hoff] at hh; cases hh), fun hh => (by rw [hoff] at hh; cases hh), (by rw [hoff]; rfl)⟩
  · intro l a w' h i hi
    obtain ⟨hu, o, ho, hall⟩ := mem_ready.1 hi
    have hin : i < n := by rw [← hn]; exact (Array.getElem?_eq_some_iff.1 ho).1
    have hoi : on l i = false := by simp only [on]; simp [Array.getD, h.size, hin] at hu ⊢; exact hu
    have hwv : w' = w.drew := by
      rw [h.w]
      cases hl : on l (n - 1) with
      | false => rfl
      | true =>
        rcases h.last hl with e | e
        · rw [e]; rfl
        · have := e i hin; rw [hoi] at this; cases this
    subst hwv
    have hdep : ∀ j d, j < n → D j = some d → waitsB ops i j = true → a.eval (.tmp d) = val j := fun j d hj hjd hh => h.val j d hj hjd (dep_of hi (waits_map hh))
    unfold wpOp
    simp only [ho]
    have hwant : Region.wanted o (yielded ops a.tmps) = true := by
      cases hgd : o.guard with
      | none => simp [Region.wanted, hgd]
      | some gb =>
        obtain ⟨g, b⟩ := gb
        obtain ⟨h1, h2, h3, h4⟩ := hg i o ho g b hgd
        obtain ⟨d, hgD⟩ := Option.isSome_iff_exists.1 h4
        have hv := hdep g d h1 hgD h3
        rw [h2] at hv
        have hgo : ∃ og, ops[g]? = some og := ⟨ops[g]'(by omega), Array.getElem?_eq_getElem (by omega)⟩
        obtain ⟨og, hog⟩ := hgo
        have hy : yielded ops a.tmps g = some b := by
          unfold yielded
          rw [hog]
          simp only [Option.bind_some, hd g og hog, hgD]
          have hlt : d < a.tmps.size := by rw [h.tsize]; exact hsz g d h1 hgD
          simp only [Act.eval, Array.getD, hlt, dite_true] at hv
          rw [Array.getElem?_eq_getElem hlt]
          have : a.tmps[d] = .bool b := hv
          rw [this]
        simp [Region.wanted, hgd, hy]
    rw [if_pos hwant]
    refine .inl (hstep i o ho a h.tsize (fun s hs => ?_) hdep _ ?_)
    · simp only [Act.eval, Array.getD_eq_getD_getElem?, h.off s hs]
    · have hputs : (a.put (D i) (val i)).tmps.size = a0.tmps.size := by
        cases hD : D i <;> simp [Act.put, h.tsize]
      have hputd : (a.put (D i) (val i)).defers = a0.defers := by
        cases hD : D i <;> simp [Act.put, h.defers]
      refine ⟨by simp [h.size], hputs, hputd, fun s hs => ?_, fun j d hj hjd hh => ?_, fun hh => ?_, ?_⟩
      · cases hD : D i with
        | none => exact h.off s hs
        | some d =>
          have : d ≠ s := fun e => hs i hin (by rw [hD, e])
          simp only [Act.put, Array.getElem?_setIfInBounds, this, if_false]
          exact h.off s hs
      · rw [on_set i j (by rw [h.size]; exact hin)] at hh
        cases hD : D i with
        | none =>
          have hne : i ≠ j := fun e => by subst e; rw [hD] at hjd; cases hjd
          rw [if_neg hne] at hh
          exact h.val j d hj hjd hh
        | some d' =>
          rw [ev_put _ _ _ (by rw [h.tsize]; exact hsz i d' hin hD)]
          by_cases e : i = j
          · subst e
            rw [hD] at hjd
            cases hjd
            simp
          · rw [if_neg e] at hh
            rw [if_neg (fun e2 => e (inj i j d hin hj (by rw [hD, e2]) hjd))]
            exact h.val j d hj hjd hh
      · rw [on_set _ _ (by rw [h.size]; exact hin)] at hh
        by_cases e : i = n - 1
        · rcases hlast with e1 | e1
          · exact .inl e1
          · refine .inr fun j hj => ?_
            rw [on_set _ _ (by rw [h.size]; exact hin)]
            by_cases e2 : i = j
            · rw [if_pos e2]
            · rw [if_neg e2]
              exact dep_of hi (waits_map (by rw [e]; exact e1 j (by omega)))
        · rw [if_neg e] at hh
          rcases h.last hh with e1 | e1
          · exact .inl e1
          · have := e1 i hin; rw [hoi] at this; cases this
      · rw [on_set _ _ (by rw [h.size]; exact hin)]
        by_cases e : i = n - 1
        · rw [if_pos e, if_pos e]; rfl
        · rw [if_neg e, if_neg e]
          exact h.w
  · intro l a w' h hall
    have hal : ∀ i, i < n → on l i = true := fun i hi => by
      have := hall i (by rw [hn]; exact hi)
      simp only [on, Array.getD, h.size, hi, dite_true] at this ⊢
      exact this
    have hw := h.w
    rw [hal (n - 1) (by omega)] at hw
    simp only [if_true] at hw
    subst hw
    exact hend a h.tsize h.defers h.off fun i d hi hD => h.val i d hi hD (hal i hi)
/-- What is to be seen of a region by itself. -/
def regOk (ops : Array Oper) (D : List (Option Nat)) (n : Nat) : Bool :=
  ops.size == D.length && (List.range ops.size).all (fun i => match ops[i]? with
    | none => false
    | some o => o.dst == D.getD i none && o.after.all (fun e => !Region.binds .any e || decide (e.on < i)) && (match D.getD i none with | none => true | some d => decide (d < n)) &&
        (List.range D.length).all (fun j => i == j || D.getD j none == none || D.getD i none != D.getD j none) &&
        (match o.guard with | none => true | some (g, _) => o.after.any (fun e => Region.binds .any e && e.on == g) && (D.getD g none).isSome && decide (g < D.length)))
theorem reg_at {ops : Array Oper} {D : List (Option Nat)} {n : Nat} (h : regOk ops D n = true) {i : Nat} {o : Oper} (ho : ops[i]? = some o) :
    i < D.length ∧ o.dst = D.getD i none ∧ (∀ e ∈ o.after, Region.binds .any e = true → e.on < i) ∧ (∀ d, D.getD i none = some d → d < n) ∧ (∀ j d, j < D.length → D.getD i none = some d → D.getD j none = some d → i = j) ∧
    (∀ g b, o.guard = some (g, b) → g < D.length ∧ waitsB ops i g = true ∧ (D.getD g none).isSome = true) := by
  unfold regOk at h
  simp only [Bool.and_eq_true, beq_iff_eq] at h
  obtain ⟨h1, h2⟩ := h
  have hi : i < ops.size := (Array.getElem?_eq_some_iff.1 ho).1
  have h3 := List.all_eq_true.1 h2 i (List.mem_range.2 hi)
  rw [ho] at h3
  simp only [Bool.and_eq_true, beq_iff_eq] at h3
  obtain ⟨⟨⟨⟨hd, ha⟩, hn⟩, hj⟩, hg⟩ := h3
  refine ⟨by omega, hd, fun e he hb => ?_, fun d hD => ?_, fun j d hjl hD hE => ?_, fun g b hgd => ?_⟩
  · have := Array.all_eq_true_iff_forall_mem.1 ha e he
    rw [hb] at this
    simpa using this
  · rw [hD] at hn; simpa using hn
  · have := List.all_eq_true.1 hj j (List.mem_range.2 hjl)
    simp only [Bool.or_eq_true, beq_iff_eq, bne_iff_ne, ne_eq] at this
    rcases this with (e | e) | e
    · exact e
    · rw [hE] at e; cases e
    · exact absurd (hD.trans hE.symm) e
  · rw [hgd] at hg
    simp only [Bool.and_eq_true, decide_eq_true_eq] at hg
    refine ⟨hg.2, ?_, hg.1.2⟩
    unfold waitsB
    rw [ho]
    exact hg.1.1
/-- Operation i, behind those that it waits for, has its value. -/
def Yields (P : Program) (ops : Array Oper) (D : List (Option Nat)) (val : Nat → Value) (a0 : Act) (w w1 : World) (Q : Exit → Act → World → Prop) (i : Nat) : Prop :=
  ∀ (o : Oper) (a : Act) (K : Act → World → Prop), ops[i]? = some o → o.dst = D.getD i none → a.tmps.size = a0.tmps.size → (∀ s, some s ∉ D → a.eval (.tmp s) = a0.eval (.tmp s)) → (∀ j d, D.getD j none = some d → waitsB ops i j = true → a.eval (.tmp d) = val j) → K (a.put (D.getD i none) (val i)) w1 → o.wp P a w K Q
theorem wp_region_tab {id : Nat} {a0 : Act} {w w1 : World} (hm : P.follows .mixedOrders = true) (D : List (Option Nat)) (val : Nat → Value) (hok : regOk ops D a0.tmps.size = true) (hpos : 0 < D.length)
    (hg : ∀ (i g : Nat) (b : Bool), (ops[i]?).bind (fun o : Oper => o.guard) = some (g, b) → val g = .bool b)
    (hlast : w1 = w.drew ∨ ∀ j, j < D.length - 1 → waitsB ops (D.length - 1) j = true)
    (hstep : ∀ i, i < D.length → Yields P ops D val a0 w.drew (if i = D.length - 1 then w1 else w.drew) Q i)
    (hend : ∀ a', a'.tmps.size = a0.tmps.size → a'.defers = a0.defers → (∀ s, some s ∉ D → a'.tmps[s]? = a0.tmps[s]?) → (∀ i d, D.getD i none = some d → a'.eval (.tmp d) = val i) → Q .normal a' w1) :
    (Code.region id ops true).wp P Q a0 w := by
  have hn : ops.size = D.length := by
    unfold regOk at hok
    simp only [Bool.and_eq_true, beq_iff_eq] at hok
    exact hok.1
  have mem : ∀ s, (∀ i, i < D.length → D.getD i none ≠ some s) ↔ some s ∉ D := fun s => by
    constructor
    · intro h hm
      obtain ⟨i, hi, e⟩ := List.getElem_of_mem hm
      exact h i hi (by rw [List.getD_eq_getElem?_getD, List.getElem?_eq_getElem hi, e]; rfl)
    · intro h i hi e
      rw [List.getD_eq_getElem?_getD, List.getElem?_eq_getElem hi] at e
      exact h (by have := List.getElem_mem hi; rw [show D[i] = some s from e] at this; exact this)
  have lt : ∀ i d, D.getD i none = some d → i < D.length := fun i d e => by
    apply Classical.byContradiction
    intro h
    rw [List.getD_eq_getElem?_getD, List.getElem?_eq_none (by omega)] at e
    cases e
  refine wp_region_read hm (fun i o ho => (reg_at hok ho).2.2.1) D.length hn (fun i => D.getD i none) ?_ ?_ val (fun i o ho => (reg_at hok ho).2.1) ?_ hlast ?_ ?_ hpos
  · intro i d hi hD
    exact (reg_at hok (Array.getElem?_eq_getElem (by omega : i < ops.size))).2.2.2.1 d hD
  · intro i j d hi hj hD hE
    exact (reg_at hok (Array.getElem?_eq_getElem (by omega : i < ops.size))).2.2.2.2.1 j d hj hD hE
  · intro i o ho g b hgd
    obtain ⟨h1, h2, h3⟩ := (reg_at hok ho).2.2.2.2.2 g b hgd
    exact ⟨h1, hg i g b (by rw [ho]; exact hgd), h2, h3⟩
  · intro i o ho a hs hoff hv K hK
    exact hstep i (reg_at hok ho).1 o a K ho (reg_at hok ho).2.1 hs (fun s hs => hoff s ((mem s).2 hs)) (fun j d hD hw => hv j d (lt j d hD) hD hw) hK
  · intro a' h1 h2 h3 h4
    exact hend a' h1 h2 (fun s hs => h3 s ((mem s).2 hs)) (fun i d hD => h4 i d (lt i d hD) hD)
theorem op_is {i : Nat} {o : Oper} {p : Op} (h : (ops[i]?).map (fun o : Oper => o.op) = some p) (ho : ops[i]? = some o) : o.op = p := by rw [ho] at h; simpa using h
theorem no_guard (h : ops.all (fun o => o.guard.isNone) = true) {i g : Nat} {b : Bool} (hh : (ops[i]?).bind (fun o : Oper => o.guard) = some (g, b)) : False := by
  cases ho : ops[i]? with
  | none => rw [ho] at hh; cases hh
  | some o =>
    rw [ho] at hh
    have := Array.all_eq_true_iff_forall_mem.1 h o (Array.mem_of_getElem? ho)
    simp only [Option.bind_some] at hh
    rw [hh] at this
    cases this
theorem ops_nil {a : Act} {w : World} (h : Q .normal a w) : wpOps P ops Q [] a w := h
theorem ops_run {a : Act} {w w' : World} {i : Nat} {rest : List Nat} {o : Oper} {v : Value} (ho : ops[i]? = some o) (hg : o.guard = none) (hr : (execOp a.eval o).run P w = .ok (.value v) w') (h : wpOps P ops Q rest (a.put o.dst v) w') : wpOps P ops Q (i :: rest) a w := by
  unfold wpOps
  simp only [ho]
  rw [if_pos (by simp [Region.wanted, hg])]
  refine .inl ?_
  unfold Oper.wp; rw [hr]; exact h
theorem ops_skip {a : Act} {w w' : World} {i : Nat} {rest : List Nat} {o : Oper} (ho : ops[i]? = some o) (hg : o.guard = none) (hr : (execOp a.eval o).run P w = .ok .skip w') (h : wpOps P ops Q rest (a.put o.dst undef) w') : wpOps P ops Q (i :: rest) a w := by
  unfold wpOps
  simp only [ho]
  rw [if_pos (by simp [Region.wanted, hg])]
  refine .inl ?_
  unfold Oper.wp; rw [hr]; exact h
/- One operation, run. -/
section
variable {ρ : Operand → Value} {o : Oper} {w : World}
theorem x_move {x : Operand} (h : o.op = .move x) : (execOp ρ o).run P w = .ok (.value (ρ x)) w := by simp [execOp, h]
theorem x_assign {x : Operand} (h : o.op = .assign x) : (execOp ρ o).run P w = .ok (.value (ρ x)) w := by simp [execOp, h]
theorem x_nil {x : Operand} {a : Addr} (h : o.op = .nilCheck x) (hx : ρ x = .pointer (some a)) : (execOp ρ o).run P w = .ok (.value (.pointer (some a))) w := by simp [execOp, h, hx]
theorem x_load {x : Operand} {t : TypeId} {v : Value} {w' : World} (h : o.op = .load t x) (hr : (Instr.loadAt t (ρ x)).run P w = .ok v w') : (execOp ρ o).run P w = .ok (.value v) w' := by simp [execOp, h, hr, Result.andThen]
theorem x_store {x y : Operand} {t : TypeId} {w' : World} (h : o.op = .store t x y) (hr : (Instr.storeAt t (ρ x) (ρ y)).run P w = .ok () w') : (execOp ρ o).run P w = .ok .skip w' := by simp [execOp, h, hr, Result.andThen]
theorem x_alloc {t : TypeId} {v : Value} {w' : World} (h : o.op = .alloc t) (hr : (Instr.alloc t true (.tuple #[])).run P w = .ok v w') : (execOp ρ o).run P w = .ok (.value v) w' := by simp [execOp, h, hr, Result.andThen]
end
end
section
variable {P : Program} {o : Oper} {a : Act} {w w' : World} {K : Act → World → Prop} {Q : Exit → Act → World → Prop} {d : Option Nat}
theorem l_val {v : Value} (hd : o.dst = d) (hr : (execOp a.eval o).run P w = .ok (.value v) w') (hK : K (a.put d v) w') : o.wp P a w K Q := by
  unfold Oper.wp; rw [hr]; simp only [Oper.upon, hd]; exact hK
theorem l_skip (hd : o.dst = d) (hr : (execOp a.eval o).run P w = .ok .skip w') (hK : K (a.put d undef) w') : o.wp P a w K Q := by
  unfold Oper.wp; rw [hr]; simp only [Oper.upon, hd]; exact hK
end
end Go.Proofs.YtbielnehggcaoaaDoor
/- A region each of whose operations has one value, in whatever order; two of them, A and then B, turn the world. -/
namespace Go.Proofs.YtbielnehggcaoaaDoor
open Go.RowKit
/-- Operation i waits for operation j, straight or by others. -/
def reachB (ops : Array Oper) : Nat → Nat → Nat → Bool
  | 0, _, _ => false
  | f + 1, i, j => waitsB ops i j || (List.range ops.size).any fun k => waitsB ops i k && reachB ops f k j
section
variable {P : Program} {ops : Array Oper} {Q : Exit → Act → World → Prop}
theorem reach_on {l : Array Bool} (hc : ∀ i j, on l i = true → waitsB ops i j = true → on l j = true) : ∀ f i j, on l i = true → reachB ops f i j = true → on l j = true
  | 0, _, _, _, h => by cases h
  | f + 1, i, j, hi, h => by
    unfold reachB at h
    rw [Bool.or_eq_true, List.any_eq_true] at h
    rcases h with h | ⟨k, -, h⟩
    · exact hc i j hi h
    · rw [Bool.and_eq_true] at h
      exact reach_on hc f k j (hc i k hi h.1) h.2
theorem reach_on_ready {l : Array Bool} {i j : Nat} (hi : i ∈ Region.ready .any ops l) (hr : reachB ops ops.size i j = true) (hc : ∀ i j, on l i = true → waitsB ops i j = true → on l j = true) : on l j = true := by
  cases hz : ops.size with
  | zero => rw [hz] at hr; cases hr
  | succ f =>
    rw [hz] at hr
    unfold reachB at hr
    rw [Bool.or_eq_true, List.any_eq_true] at hr
    rcases hr with h | ⟨k, -, h⟩
    · exact dep_of hi (waits_map h)
    · rw [Bool.and_eq_true] at h
      exact reach_on hc f k j (dep_of hi (waits_map h.1)) h.2
/-- In which worlds operation i may come up, and what it leaves. -/
def Legal (ops : Array Oper) (A B : Nat) (w0 w1 w2 : World) (i : Nat) (w w' : World) : Prop :=
  (i = A ∧ w = w0 ∧ w' = w1) ∨ (i = B ∧ w = w1 ∧ w' = w2) ∨ (i ≠ A ∧ i ≠ B ∧ w' = w ∧ (w = w0 ∨ (reachB ops ops.size A i = false ∧ w = w1) ∨ (reachB ops ops.size A i = false ∧ reachB ops ops.size B i = false ∧ w = w2)))
def Yields2 (P : Program) (ops : Array Oper) (D : List (Option Nat)) (val : Nat → Value) (a0 : Act) (A B : Nat) (w0 w1 w2 : World) (Q : Exit → Act → World → Prop) (i : Nat) : Prop :=
  ∀ (o : Oper) (a : Act) (w w' : World) (K : Act → World → Prop), ops[i]? = some o → o.dst = D.getD i none → a.tmps.size = a0.tmps.size → (∀ s, some s ∉ D → a.eval (.tmp s) = a0.eval (.tmp s)) → (∀ j d, D.getD j none = some d → waitsB ops i j = true → a.eval (.tmp d) = val j) → Legal ops A B w0 w1 w2 i w w' → K (a.put (D.getD i none) (val i)) w' → o.wp P a w K Q
structure ITwo (ops : Array Oper) (D : List (Option Nat)) (val : Nat → Value) (a0 : Act) (A B : Nat) (w0 w1 w2 : World) (l : Array Bool) (a : Act) (w : World) : Prop where
  size : l.size = D.length
  tsize : a.tmps.size = a0.tmps.size
  defers : a.defers = a0.defers
  off : ∀ s, some s ∉ D → a.tmps[s]? = a0.tmps[s]?
  val : ∀ i d, D.getD i none = some d → on l i = true → a.eval (.tmp d) = val i
  closed : ∀ i j, on l i = true → waitsB ops i j = true → on l j = true
  w : w = if on l B then w2 else if on l A then w1 else w0
theorem wp_region_two {id : Nat} {a0 : Act} {w w1 w2 : World} (hm : P.follows .mixedOrders = true) (D : List (Option Nat)) (val : Nat → Value) (hok : regOk ops D a0.tmps.size = true) (A B : Nat) (hA : A < D.length) (hB : B < D.length) (hAB : A ≠ B) (hBA : reachB ops ops.size B A = true)
    (hg : ∀ (i g : Nat) (b : Bool), (ops[i]?).bind (fun o : Oper => o.guard) = some (g, b) → val g = .bool b)
    (hstep : ∀ i, i < D.length → Yields2 P ops D val a0 A B w.drew w1 w2 Q i)
    (hend : ∀ a', a'.tmps.size = a0.tmps.size → a'.defers = a0.defers → (∀ s, some s ∉ D → a'.tmps[s]? = a0.tmps[s]?) → (∀ i d, D.getD i none = some d → a'.eval (.tmp d) = val i) → Q .normal a' w2) :
    (Code.region id ops true).wp P Q a0 w := by
  have hn : ops.size = D.length := by
    unfold regOk at hok
    simp only [Bool.and_eq_true, beq_iff_eq] at hok
    exact hok.1
  have mem : ∀ s i, D.getD i none = some s → some s ∈ D := fun s i e => by
    have hi : i < D.length := by
      apply Classical.byContradiction
      intro h
      rw [List.getD_eq_getElem?_getD, List.getElem?_eq_none (by omega)] at e
      cases e
    rw [List.getD_eq_getElem?_getD, List.getElem?_eq_getElem hi] at e
    have := List.getElem_mem hi
    rw [show D[i] = some s from e] at this
    exact this
  have lt : ∀ i d, D.getD i none = some d → i < D.length := fun i d e => by
    apply Classical.byContradiction
    intro h
    rw [List.getD_eq_getElem?_getD, List.getElem?_eq_none (by omega)] at e
    cases e
  have hoff : ∀ i, on (Array.replicate ops.size false) i = false := fun i => by
    simp only [on, Array.getD_eq_getD_getElem?, Array.getElem?_replicate]
    split <;> rfl
  refine wp_region_inv hm (fun i o ho => (reg_at hok ho).2.2.1) (ITwo ops D val a0 A B w.drew w1 w2) (fun l a w h => by rw [hn]; exact h.size) ?_ ?_ ?_
  · exact ⟨by simp [hn], rfl, rfl, fun _ _ => rfl, fun i d _ hh => (by rw [hoff] at hh; cases hh), fun i j hh => (by rw [hoff] at hh; cases hh), by rw [hoff, hoff]; rfl⟩
  · intro l a w' h i hi
    obtain ⟨hu, o, ho, hall⟩ := mem_ready.1 hi
    obtain ⟨r1, r2, r3, r4, r5, r6⟩ := reg_at hok ho
    have hoi : on l i = false := by simp only [on]; simp [Array.getD, h.size, r1] at hu ⊢; exact hu
    have hset : ∀ j, on (l.setIfInBounds i true) j = if i = j then true else on l j := fun j => on_set i j (by rw [h.size]; exact r1)
    have hBon : on l B = true → on l A = true := fun hb => reach_on h.closed ops.size B A hb hBA
    have hdep : ∀ j d, D.getD j none = some d → waitsB ops i j = true → a.eval (.tmp d) = val j := fun j d hjd hh => h.val j d hjd (dep_of hi (waits_map hh))
    have legal : Legal ops A B w.drew w1 w2 i w' (if on (l.setIfInBounds i true) B then w2 else if on (l.setIfInBounds i true) A then w1 else w.drew) := by
      rw [hset, hset, h.w]
      by_cases eA : i = A
      · subst eA
        have hb : on l B = false := by
          cases hx : on l B with
          | false => rfl
          | true => rw [hBon hx] at hoi; cases hoi
        rw [hb, hoi, if_neg hAB, if_pos rfl]
        exact .inl ⟨rfl, rfl, rfl⟩
      · by_cases eB : i = B
        · subst eB
          have ha : on l A = true := reach_on_ready hi hBA h.closed
          exact .inr (.inl ⟨rfl, by simp [hoi, ha], by simp⟩)
        · rw [if_neg eB, if_neg eA]
          refine .inr (.inr ⟨eA, eB, rfl, ?_⟩)
          have nA : on l A = true → reachB ops ops.size A i = false := fun ha => by
            cases hr : reachB ops ops.size A i with
            | false => rfl
            | true => rw [reach_on h.closed ops.size A i ha hr] at hoi; cases hoi
          have nB : on l B = true → reachB ops ops.size B i = false := fun hb => by
            cases hr : reachB ops ops.size B i with
            | false => rfl
            | true => rw [reach_on h.closed ops.size B i hb hr] at hoi; cases hoi
          cases hb : on l B with
          | true => exact .inr (.inr ⟨nA (hBon hb), nB hb, rfl⟩)
          | false =>
            cases ha : on l A with
            | true => exact .inr (.inl ⟨nA ha, rfl⟩)
            | false => exact .inl rfl
    unfold wpOp
    simp only [ho]
    have hwant : Region.wanted o (yielded ops a.tmps) = true := by
      cases hgd : o.guard with
      | none => simp [Region.wanted, hgd]
      | some gb =>
        obtain ⟨g, b⟩ := gb
        obtain ⟨h1, h3, h4⟩ := r6 g b hgd
        have h2 := hg i g b (by rw [ho]; exact hgd)
        obtain ⟨d, hgD⟩ := Option.isSome_iff_exists.1 h4
        have hv := hdep g d hgD h3
        rw [h2] at hv
        have hgo : ∃ og, ops[g]? = some og := ⟨ops[g]'(by omega), Array.getElem?_eq_getElem (by omega)⟩
        obtain ⟨og, hog⟩ := hgo
        have hy : yielded ops a.tmps g = some b := by
          unfold yielded
          rw [hog]
          simp only [Option.bind_some, (reg_at hok hog).2.1, hgD]
          have hlt : d < a.tmps.size := by rw [h.tsize]; exact (reg_at hok hog).2.2.2.1 d hgD
          simp only [Act.eval, Array.getD, hlt, dite_true] at hv
          rw [Array.getElem?_eq_getElem hlt]
          have : a.tmps[d] = .bool b := hv
          rw [this]
        simp [Region.wanted, hgd, hy]
    rw [if_pos hwant]
    refine .inl (hstep i r1 o a w' _ _ ho r2 h.tsize (fun s hs => ?_) hdep legal ?_)
    · simp only [Act.eval, Array.getD_eq_getD_getElem?, h.off s hs]
    · have hputs : (a.put (D.getD i none) (val i)).tmps.size = a0.tmps.size := by
        cases hD : D.getD i none <;> simp [Act.put, h.tsize]
      have hputd : (a.put (D.getD i none) (val i)).defers = a0.defers := by
        cases hD : D.getD i none <;> simp [Act.put, h.defers]
      refine ⟨by simp [h.size], hputs, hputd, fun s hs => ?_, fun j d hjd hh => ?_, fun x y hx hy => ?_, rfl⟩
      · cases hD : D.getD i none with
        | none => exact h.off s hs
        | some d =>
          have : d ≠ s := fun e => hs (mem s i (by rw [hD, e]))
          simp only [Act.put, Array.getElem?_setIfInBounds, this, if_false]
          exact h.off s hs
      · rw [hset] at hh
        cases hD : D.getD i none with
        | none =>
          have hne : i ≠ j := fun e => by subst e; rw [hD] at hjd; cases hjd
          rw [if_neg hne] at hh
          exact h.val j d hjd hh
        | some d' =>
          rw [ev_put _ _ _ (by rw [h.tsize]; exact r4 d' hD)]
          by_cases e : i = j
          · subst e
            rw [hD] at hjd
            cases hjd
            simp
          · rw [if_neg e] at hh
            rw [if_neg (fun e2 => e (r5 j d (lt j d hjd) (by rw [hD, e2]) hjd))]
            exact h.val j d hjd hh
      · rw [hset] at hx ⊢
        by_cases e2 : i = y
        · rw [if_pos e2]
        · rw [if_neg e2]
          by_cases e1 : i = x
          · subst e1
            exact dep_of hi (waits_map hy)
          · rw [if_neg e1] at hx
            exact h.closed x y hx hy
  · intro l a w' h hall
    have hal : ∀ i, i < D.length → on l i = true := fun i hi => by
      have := hall i (by rw [hn]; exact hi)
      simp only [on, Array.getD, h.size, hi, dite_true] at this ⊢
      exact this
    have hw := h.w
    rw [hal B hB] at hw
    simp only [if_true] at hw
    subst hw
    exact hend a h.tsize h.defers h.off fun i d hD => h.val i d hD (hal i (lt i d hD))
end
end Go.Proofs.YtbielnehggcaoaaDoor
/- A region in whatever order; some of its operations, one behind the other, turn the world; some may not be wanted. -/
namespace Go.Proofs.YtbielnehggcaoaaDoor
open Go.RowKit
section
variable {P : Program} {ops : Array Oper} {Q : Exit → Act → World → Prop}
/-- In which worlds operation i may come up, and what it leaves. -/
def LegalC (R : Nat → Nat → Bool) (As : List Nat) (W : Nat → World) (i : Nat) (w w' : World) : Prop :=
  (∃ j, As[j]? = some i ∧ w = W j ∧ w' = W (j + 1)) ∨ (i ∉ As ∧ w' = w ∧ ∃ j, j ≤ As.length ∧ w = W j ∧ ∀ q x, As[q]? = some x → R x i = true → j ≤ q)
def YieldsC (P : Program) (ops : Array Oper) (D : List (Option Nat)) (val : Nat → Value) (a0 : Act) (R : Nat → Nat → Bool) (As : List Nat) (W : Nat → World) (Q : Exit → Act → World → Prop) (i : Nat) : Prop :=
  ∀ (o : Oper) (a : Act) (w w' : World) (K : Act → World → Prop), ops[i]? = some o → o.dst = D.getD i none → a.tmps.size = a0.tmps.size → (∀ s, some s ∉ D → a.eval (.tmp s) = a0.eval (.tmp s)) → (∀ j d, D.getD j none = some d → waitsB ops i j = true → a.eval (.tmp d) = val j) → LegalC R As W i w w' → K (a.put (D.getD i none) (val i)) w' → o.wp P a w K Q
structure IChain (ops : Array Oper) (D : List (Option Nat)) (val : Nat → Value) (a0 : Act) (As : List Nat) (W : Nat → World) (l : Array Bool) (a : Act) (w : World) : Prop where
  size : l.size = D.length
  tsize : a.tmps.size = a0.tmps.size
  defers : a.defers = a0.defers
  off : ∀ s, some s ∉ D → a.tmps[s]? = a0.tmps[s]?
  val : ∀ i d, D.getD i none = some d → on l i = true → a.eval (.tmp d) = val i
  closed : ∀ i j, on l i = true → waitsB ops i j = true → on l j = true
  w : ∃ c, c ≤ As.length ∧ (∀ j x, As[j]? = some x → (on l x = true ↔ j < c)) ∧ w = W c
def chainOk (ops : Array Oper) (As : List Nat) (n : Nat) : Bool := As.all (fun x => decide (x < n)) && (List.range (As.length - 1)).all (fun j => reachB ops ops.size (As.getD (j + 1) 0) (As.getD j 0))
theorem wp_region_chain {id : Nat} {a0 : Act} {w : World} (hm : P.follows .mixedOrders = true) (D : List (Option Nat)) (val : Nat → Value) (hok : regOk ops D a0.tmps.size = true) (As : List Nat) (W : Nat → World) (h0 : W 0 = w.drew) (hnd : As.Nodup) (hch : chainOk ops As D.length = true)
    (hg : ∀ (i g : Nat) (b : Bool), (ops[i]?).bind (fun o : Oper => o.guard) = some (g, b) → ∃ b', val g = .bool b' ∧ (b' ≠ b → val i = undef ∧ i ∉ As))
    (hstep : ∀ i, i < D.length → (∀ (g : Nat) (b : Bool), (ops[i]?).bind (fun o : Oper => o.guard) = some (g, b) → val g = .bool b) → YieldsC P ops D val a0 (reachB ops ops.size) As W Q i)
    (hend : ∀ a', a'.tmps.size = a0.tmps.size → a'.defers = a0.defers → (∀ s, some s ∉ D → a'.tmps[s]? = a0.tmps[s]?) → (∀ i d, D.getD i none = some d → a'.eval (.tmp d) = val i) → Q .normal a' (W As.length)) :
    (Code.region id ops true).wp P Q a0 w := by
  have hn : ops.size = D.length := by
    unfold regOk at hok
    simp only [Bool.and_eq_true, beq_iff_eq] at hok
    exact hok.1
  unfold chainOk at hch
  rw [Bool.and_eq_true, List.all_eq_true, List.all_eq_true] at hch
  obtain ⟨hAlt, hAr⟩ := hch
  have alt : ∀ {j x : Nat}, As[j]? = some x → x < D.length := fun {j x} hj => by simpa using hAlt x (List.mem_of_getElem? hj)
  have reach : ∀ {j x y : Nat}, As[j]? = some x → As[j + 1]? = some y → reachB ops ops.size y x = true := fun {j x y} h1 h2 => by
    have hl := (List.getElem?_eq_some_iff.1 h2).1
    have := hAr j (List.mem_range.2 (by omega))
    rw [List.getD_eq_getElem?_getD, List.getD_eq_getElem?_getD, h1, h2] at this
    exact this
  have inj : ∀ {j k x : Nat}, As[j]? = some x → As[k]? = some x → j = k := fun {j k x} h1 h2 => by
    obtain ⟨l1, e1⟩ := List.getElem?_eq_some_iff.1 h1
    obtain ⟨l2, e2⟩ := List.getElem?_eq_some_iff.1 h2
    have hp := List.pairwise_iff_getElem.1 hnd
    rcases Nat.lt_trichotomy j k with h | h | h
    · exact absurd (e1.trans e2.symm) (hp j k l1 l2 h)
    · exact h
    · exact absurd (e2.trans e1.symm) (hp k j l2 l1 h)
  have mem : ∀ s i, D.getD i none = some s → some s ∈ D := fun s i e => by
    have hi : i < D.length := by
      apply Classical.byContradiction
      intro h
      rw [List.getD_eq_getElem?_getD, List.getElem?_eq_none (by omega)] at e
      cases e
    rw [List.getD_eq_getElem?_getD, List.getElem?_eq_getElem hi] at e
    have := List.getElem_mem hi
    rw [show D[i] = some s from e] at this
    exact this
  have lt : ∀ i d, D.getD i none = some d → i < D.length := fun i d e => by
    apply Classical.byContradiction
    intro h
    rw [List.getD_eq_getElem?_getD, List.getElem?_eq_none (by omega)] at e
    cases e
  have hoff : ∀ i, on (Array.replicate ops.size false) i = false := fun i => by
    simp only [on, Array.getD_eq_getD_getElem?, Array.getElem?_replicate]
    split <;> rfl
  refine wp_region_inv hm (fun i o ho => (reg_at hok ho).2.2.1) (IChain ops D val a0 As W) (fun l a w h => by rw [hn]; exact h.size) ?_ ?_ ?_
  · exact ⟨by simp [hn], rfl, rfl, fun _ _ => rfl, fun i d _ hh => (by rw [hoff] at hh; cases hh), fun i j hh => (by rw [hoff] at hh; cases hh), 0, Nat.zero_le _, fun j x _ => by rw [hoff]; simp, h0.symm⟩
  · intro l a w' h i hi
    obtain ⟨hu, o, ho, hall⟩ := mem_ready.1 hi
    obtain ⟨r1, r2, r3, r4, r5, r6⟩ := reg_at hok ho
    have hoi : on l i = false := by simp only [on]; simp [Array.getD, h.size, r1] at hu ⊢; exact hu
    have hset : ∀ j, on (l.setIfInBounds i true) j = if i = j then true else on l j := fun j => on_set i j (by rw [h.size]; exact r1)
    have hdep : ∀ j d, D.getD j none = some d → waitsB ops i j = true → a.eval (.tmp d) = val j := fun j d hjd hh => h.val j d hjd (dep_of hi (waits_map hh))
    obtain ⟨c, hc1, hc2, hc3⟩ := h.w
    have keeps : ∀ w'' : World, (∃ c', c' ≤ As.length ∧ (∀ j x, As[j]? = some x → (on (l.setIfInBounds i true) x = true ↔ j < c')) ∧ w'' = W c') → IChain ops D val a0 As W (l.setIfInBounds i true) (a.put (D.getD i none) (val i)) w'' := fun w'' hw => by
      have hputs : (a.put (D.getD i none) (val i)).tmps.size = a0.tmps.size := by
        cases hD : D.getD i none <;> simp [Act.put, h.tsize]
      have hputd : (a.put (D.getD i none) (val i)).defers = a0.defers := by
        cases hD : D.getD i none <;> simp [Act.put, h.defers]
      refine ⟨by simp [h.size], hputs, hputd, fun s hs => ?_, fun j d hjd hh => ?_, fun x y hx hy => ?_, hw⟩
      · cases hD : D.getD i none with
        | none => exact h.off s hs
        | some d =>
          have : d ≠ s := fun e => hs (mem s i (by rw [hD, e]))
          simp only [Act.put, Array.getElem?_setIfInBounds, this, if_false]
          exact h.off s hs
      · rw [hset] at hh
        cases hD : D.getD i none with
        | none =>
          have hne : i ≠ j := fun e => by subst e; rw [hD] at hjd; cases hjd
          rw [if_neg hne] at hh
          exact h.val j d hjd hh
        | some d' =>
          rw [ev_put _ _ _ (by rw [h.tsize]; exact r4 d' hD)]
          by_cases e : i = j
          · subst e
            rw [hD] at hjd
            cases hjd
            simp
          · rw [if_neg e] at hh
            rw [if_neg (fun e2 => e (r5 j d (lt j d hjd) (by rw [hD, e2]) hjd))]
            exact h.val j d hjd hh
      · rw [hset] at hx ⊢
        by_cases e2 : i = y
        · rw [if_pos e2]
        · rw [if_neg e2]
          by_cases e1 : i = x
          · subst e1
            exact dep_of hi (waits_map hy)
          · rw [if_neg e1] at hx
            exact h.closed x y hx hy
    have legal : ∃ w'', LegalC (reachB ops ops.size) As W i w' w'' ∧ (∃ c', c' ≤ As.length ∧ (∀ j x, As[j]? = some x → (on (l.setIfInBounds i true) x = true ↔ j < c')) ∧ w'' = W c') ∧ (i ∉ As → w'' = w') := by
      by_cases hmem : i ∈ As
      · obtain ⟨j, hj⟩ := List.getElem?_of_mem hmem
        have hjl := (List.getElem?_eq_some_iff.1 hj).1
        have hge : c ≤ j := Nat.le_of_not_lt fun hlt => by
          have := (hc2 j i hj).2 hlt
          rw [hoi] at this
          cases this
        have hle : j ≤ c := by
          cases j with
          | zero => exact Nat.zero_le _
          | succ k =>
            obtain ⟨x, hx⟩ : ∃ x, As[k]? = some x := ⟨As[k]'(by omega), List.getElem?_eq_getElem (by omega)⟩
            have := (hc2 k x hx).1 (reach_on_ready hi (reach hx hj) h.closed)
            omega
        obtain rfl : c = j := by omega
        refine ⟨W (c + 1), .inl ⟨c, hj, hc3, rfl⟩, ⟨c + 1, by omega, fun k x hk => ?_, rfl⟩, fun hno => absurd hmem hno⟩
        rw [hset]
        by_cases e : i = x
        · subst e
          have := inj hj hk
          simp [this]
        · rw [if_neg e, hc2 k x hk]
          have : k ≠ c := fun ek => e (by rw [ek] at hk; rw [hj] at hk; exact Option.some.inj hk)
          omega
      · have hup : ∀ q x, As[q]? = some x → reachB ops ops.size x i = true → c ≤ q := fun q x hq hr => Nat.le_of_not_lt fun hl => by
          have := reach_on h.closed ops.size x i ((hc2 q x hq).2 hl) hr
          rw [hoi] at this
          cases this
        refine ⟨w', .inr ⟨hmem, rfl, c, hc1, hc3, hup⟩, ⟨c, hc1, fun k x hk => ?_, hc3⟩, fun _ => rfl⟩
        rw [hset, if_neg (fun e => hmem (by rw [e]; exact List.mem_of_getElem? hk))]
        exact hc2 k x hk
    obtain ⟨w'', leg, hw'', hsame⟩ := legal
    have hyield : ∀ (g : Nat) (b b' : Bool), o.guard = some (g, b) → val g = .bool b' → yielded ops a.tmps g = some b' := fun g b b' hgd h2 => by
      obtain ⟨h1, h3, h4⟩ := r6 g b hgd
      obtain ⟨d, hgD⟩ := Option.isSome_iff_exists.1 h4
      have hv := hdep g d hgD h3
      rw [h2] at hv
      have hgo : ∃ og, ops[g]? = some og := ⟨ops[g]'(by omega), Array.getElem?_eq_getElem (by omega)⟩
      obtain ⟨og, hog⟩ := hgo
      unfold yielded
      rw [hog]
      simp only [Option.bind_some, (reg_at hok hog).2.1, hgD]
      have hlt : d < a.tmps.size := by rw [h.tsize]; exact (reg_at hok hog).2.2.2.1 d hgD
      simp only [Act.eval, Array.getD, hlt, dite_true] at hv
      rw [Array.getElem?_eq_getElem hlt]
      have : a.tmps[d] = .bool b' := hv
      rw [this]
    unfold wpOp
    simp only [ho]
    by_cases hwant : Region.wanted o (yielded ops a.tmps) = true
    · rw [if_pos hwant]
      refine .inl (hstep i r1 (fun g b hgb => ?_) o a w' w'' _ ho r2 h.tsize (fun s hs => ?_) hdep leg (keeps w'' hw''))
      · obtain ⟨b', h1, h2⟩ := hg i g b hgb
        rw [ho] at hgb
        have hgd : o.guard = some (g, b) := hgb
        have hy := hyield g b b' hgd h1
        simp [Region.wanted, hgd, hy] at hwant
        rw [h1, hwant]
      · simp only [Act.eval, Array.getD_eq_getD_getElem?, h.off s hs]
    · rw [if_neg hwant, r2]
      cases hgd : o.guard with
      | none => exact absurd (by simp [Region.wanted, hgd]) hwant
      | some gb =>
        obtain ⟨g, b⟩ := gb
        obtain ⟨b', h1, h2⟩ := hg i g b (by rw [ho]; exact hgd)
        have hy := hyield g b b' hgd h1
        have hne : b' ≠ b := fun e => hwant (by simp [Region.wanted, hgd, hy, e])
        have hs := hsame (h2 hne).2
        subst hs
        rw [← (h2 hne).1]
        exact keeps w'' hw''
  · intro l a w' h hall
    have hal : ∀ i, i < D.length → on l i = true := fun i hi => by
      have := hall i (by rw [hn]; exact hi)
      simp only [on, Array.getD, h.size, hi, dite_true] at this ⊢
      exact this
    obtain ⟨c, hc1, hc2, hc3⟩ := h.w
    have hcm : c = As.length := by
      apply Classical.byContradiction
      intro hne
      have hlt : c < As.length := by omega
      have hx : As[c]? = some As[c] := List.getElem?_eq_getElem hlt
      have := (hc2 c _ hx).1 (hal _ (alt hx))
      omega
    rw [hc3, hcm]
    exact hend a h.tsize h.defers h.off fun i d hD => h.val i d hD (hal i (lt i d hD))
end
end Go.Proofs.YtbielnehggcaoaaDoor
