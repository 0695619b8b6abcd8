/- Single operations, run; a call as one operation of a region. -/
import Derived.Test.YtbielnehggcaoaaDoorL06
import Derived.Conc.MuLone
namespace Go.Proofs.YtbielnehggcaoaaDoor
open Go.RowKit
def pv (b k : Nat) : Value := .pointer (some ⟨b, k, none⟩)
section
variable {P : Program} {o : Oper} {a : Act} {w w' : World} {K : Act → World → Prop} {Q : Exit → Act → World → Prop} {d : Option Nat}
theorem l_call {f : FuncId} {fn : Func} {c : Code} {args : Array Operand} {tys : Array TypeId} {xs : Array Value} {v : Value} (hd : o.dst = d) (h : o.op = .call { callee := .value (.func f), args := args, argTypes := tys }) (hx : args.map a.eval = xs)
    (hf : P.funcs[f]? = some fn) (hname : (fn.name == "runtime.NumGoroutine") = false) (hb : fn.body = some c) (hc : Calls P f xs w fun e w'' => e = .returned v ∧ w'' = w') (hK : K (a.put d v) w') : o.wp P a w K Q := by
  have hr : (execOp a.eval o).run P w = .ok (.enter f xs) w := by
    simp [execOp, h, resolve, invoke, hx, Deferred.ofValue, Go.MuLone.run_callFunc_enter hf hname hb, Act.eval]
  unfold Oper.wp
  rw [hr, Oper.upon_enter]
  refine hc.mono ?_
  rintro e w'' ⟨rfl, rfl⟩
  rw [hd]
  exact hK
end
section
variable {P : Program} {ρ : Operand → Value} {o : Oper} {w w' : World} {v : Value}
theorem x_field {t : TypeId} {x : Operand} {k : Nat} (h : o.op = .fieldAddr t x k) (hr : (Instr.fieldAt t (ρ x) k).run P w = .ok v w') : (execOp ρ o).run P w = .ok (.value v) w' := by simp [execOp, h, hr, Result.andThen]
theorem x_index {t : TypeId} {x y : Operand} (h : o.op = .indexAddr t x y) (hr : (Instr.indexAt t (ρ x) (ρ y)).run P w = .ok v w') : (execOp ρ o).run P w = .ok (.value v) w' := by simp [execOp, h, hr, Result.andThen]
theorem x_build {t : TypeId} {ps : Array (Nat × Operand)} {qs : Array (Nat × Value)} (h : o.op = .build t ps) (hq : ps.map (fun (i, x) => (i, ρ x)) = qs) (hr : (Instr.build t qs).run P w = .ok v w') : (execOp ρ o).run P w = .ok (.value v) w' := by
  subst hq
  simp [execOp, h, hr, Result.andThen]
theorem x_bin {op : BinOp} {t u : TypeId} {x y : Operand} {a b : Value} (h : o.op = .binOp op t x y u) (hx : ρ x = a) (hy : ρ y = b) (hg : (eqGuard op t x y a b).run P w = .ok () w) (hr : (binOp op t a b).run P w = .ok v w') : (execOp ρ o).run P w = .ok (.value v) w' := by
  simp [execOp, h, hx, hy, hg, hr, Result.andThen]
end
theorem ty_is {ops : Array Oper} {i : Nat} {o : Oper} {t : TypeId} (h : (ops[i]?).map (fun o : Oper => o.type) = some t) (ho : ops[i]? = some o) : o.type = t := by rw [ho] at h; simpa using h
section
variable {P : Program} {ρ : Operand → Value} {o : Oper} {w w' : World} {v : Value}
theorem x_bslice {t : TypeId} {len : Nat} {ps : Array (Nat × Operand)} {qs : Array (Nat × Value)} (h : o.op = .buildSlice t len ps) (hq : ps.map (fun (i, x) => (i, ρ x)) = qs) (hr : (Instr.buildSlice t len qs).run P w = .ok v w') : (execOp ρ o).run P w = .ok (.value v) w' := by
  subst hq
  simp [execOp, h, hr, Result.andThen]
theorem x_append {s x : Operand} {t ty : TypeId} {a b : Value} (h : o.op = .call { callee := .builtin .append, args := #[s, x], argTypes := #[t, t] }) (hty : o.type = ty) (hs : ρ s = a) (hx : ρ x = b) (hr : (Builtin.append_ #[t, t] ty #[a, b]).run P w = .ok v w') : (execOp ρ o).run P w = .ok (.value v) w' := by
  subst hty
  simp only [execOp, h, resolve, invoke, builtin, Sem.run_bind, Sem.run_pure, Result.andThen_ok, List.map_toArray, List.map_cons, List.map_nil, hs, hx, hr]
end
theorem ev_same {a a' : Act} {s : Nat} (h : a'.tmps[s]? = a.tmps[s]?) : a'.eval (.tmp s) = a.eval (.tmp s) := by
  simp only [Act.eval, Array.getD_eq_getD_getElem?, h]
theorem not_low {D : List (Option Nat)} {s n : Nat} (hs : s < n) (h : D.all (fun d => match d with | none => true | some x => decide (n ≤ x)) = true) : some s ∉ D := fun hm => by
  have := List.all_eq_true.1 h _ hm
  simp at this
  omega
end Go.Proofs.YtbielnehggcaoaaDoor
/- A region in whatever order; some of its operations, one behind the other, turn the world, each to one of the worlds that a property tells; some may not be wanted. -/
namespace Go.Proofs.YtbielnehggcaoaaDoor
open Go.RowKit
section
variable {P : Program} {ops : Array Oper} {Q : Exit → Act → World → Prop}
/-- In which worlds operation i may come up, and which it may leave. -/
def LegalP (R : Nat → Nat → Bool) (As : List Nat) (W : Nat → World → Prop) (i : Nat) (w : World) (M : World → Prop) : Prop :=
  (∃ j, As[j]? = some i ∧ W j w ∧ M = W (j + 1)) ∨ (i ∉ As ∧ (M = fun w' => w' = w) ∧ ∃ j, j ≤ As.length ∧ W j w ∧ ∀ q x, As[q]? = some x → R x i = true → j ≤ q)
def YieldsP (P : Program) (ops : Array Oper) (D : List (Option Nat)) (val : Nat → Value) (a0 : Act) (R : Nat → Nat → Bool) (As : List Nat) (W : Nat → World → Prop) (Q : Exit → Act → World → Prop) (i : Nat) : Prop :=
  ∀ (o : Oper) (a : Act) (w : World) (M : World → Prop) (K : Act → World → Prop), ops[i]? = some o → o.dst = D.getD i none → a.tmps.size = a0.tmps.size → (∀ s, some s ∉ D → a.eval (.tmp s) = a0.eval (.tmp s)) → (∀ j d, D.getD j none = some d → waitsB ops i j = true → a.eval (.tmp d) = val j) → (∀ j d, D.getD j none = some d → waitsB ops j i = true → a.eval (.tmp d) = a0.eval (.tmp d)) → LegalP R As W i w M → (∀ w', M w' → K (a.put (D.getD i none) (val i)) w') → o.wp P a w K Q
structure IChainP (ops : Array Oper) (D : List (Option Nat)) (val : Nat → Value) (a0 : Act) (As : List Nat) (W : Nat → World → Prop) (l : Array Bool) (a : Act) (w : World) : Prop where
  size : l.size = D.length
  tsize : a.tmps.size = a0.tmps.size
  defers : a.defers = a0.defers
  off : ∀ s, some s ∉ D → a.tmps[s]? = a0.tmps[s]?
  val : ∀ i d, D.getD i none = some d → on l i = true → a.eval (.tmp d) = val i
  pend : ∀ i d, D.getD i none = some d → on l i = false → a.tmps[d]? = a0.tmps[d]?
  closed : ∀ i j, on l i = true → waitsB ops i j = true → on l j = true
  w : ∃ c, c ≤ As.length ∧ (∀ j x, As[j]? = some x → (on l x = true ↔ j < c)) ∧ W c w
theorem wp_region_chainP {id : Nat} {a0 : Act} {w : World} (hm : P.follows .mixedOrders = true) (D : List (Option Nat)) (val : Nat → Value) (hok : regOk ops D a0.tmps.size = true) (As : List Nat) (W : Nat → World → Prop) (h0 : W 0 w.drew) (hnd : As.Nodup) (hch : chainOk ops As D.length = true)
    (hg : ∀ (i g : Nat) (b : Bool), (ops[i]?).bind (fun o : Oper => o.guard) = some (g, b) → ∃ b', val g = .bool b' ∧ (b' ≠ b → val i = undef ∧ i ∉ As))
    (hstep : ∀ i, i < D.length → (∀ (g : Nat) (b : Bool), (ops[i]?).bind (fun o : Oper => o.guard) = some (g, b) → val g = .bool b) → YieldsP P ops D val a0 (reachB ops ops.size) As W Q i)
    (hend : ∀ a', a'.tmps.size = a0.tmps.size → a'.defers = a0.defers → (∀ s, some s ∉ D → a'.tmps[s]? = a0.tmps[s]?) → (∀ i d, D.getD i none = some d → a'.eval (.tmp d) = val i) → ∀ w', W As.length w' → Q .normal a' w') :
    (Code.region id ops true).wp P Q a0 w := by
  have hn : ops.size = D.length := by
    unfold regOk at hok
    simp only [Bool.and_eq_true, beq_iff_eq] at hok
    exact hok.1
  unfold chainOk at hch
  rw [Bool.and_eq_true, List.all_eq_true, List.all_eq_true] at hch
  obtain ⟨hAlt, hAr⟩ := hch
  have alt : ∀ {j x : Nat}, As[j]? = some x → x < D.length := fun {j x} hj => by simpa using hAlt x (List.mem_of_getElem? hj)
  have reach : ∀ {j x y : Nat}, As[j]? = some x → As[j + 1]? = some y → reachB ops ops.size y x = true := fun {j x y} h1 h2 => by
    have hl := (List.getElem?_eq_some_iff.1 h2).1
    have := hAr j (List.mem_range.2 (by omega))
    rw [List.getD_eq_getElem?_getD, List.getD_eq_getElem?_getD, h1, h2] at this
    exact this
  have inj : ∀ {j k x : Nat}, As[j]? = some x → As[k]? = some x → j = k := fun {j k x} h1 h2 => by
    obtain ⟨l1, e1⟩ := List.getElem?_eq_some_iff.1 h1
    obtain ⟨l2, e2⟩ := List.getElem?_eq_some_iff.1 h2
    have hp := List.pairwise_iff_getElem.1 hnd
    rcases Nat.lt_trichotomy j k with h | h | h
    · exact absurd (e1.trans e2.symm) (hp j k l1 l2 h)
    · exact h
    · exact absurd (e2.trans e1.symm) (hp k j l2 l1 h)
  have mem : ∀ s i, D.getD i none = some s → some s ∈ D := fun s i e => by
    have hi : i < D.length := by
      apply Classical.byContradiction
      intro h
      rw [List.getD_eq_getElem?_getD, List.getElem?_eq_none (by omega)] at e
      cases e
    rw [List.getD_eq_getElem?_getD, List.getElem?_eq_getElem hi] at e
    have := List.getElem_mem hi
    rw [show D[i] = some s from e] at this
    exact this
  have lt : ∀ i d, D.getD i none = some d → i < D.length := fun i d e => by
    apply Classical.byContradiction
    intro h
    rw [List.getD_eq_getElem?_getD, List.getElem?_eq_none (by omega)] at e
    cases e
  have hoff : ∀ i, on (Array.replicate ops.size false) i = false := fun i => by
    simp only [on, Array.getD_eq_getD_getElem?, Array.getElem?_replicate]
    split <;> rfl
  refine wp_region_inv hm (fun i o ho => (reg_at hok ho).2.2.1) (IChainP ops D val a0 As W) (fun l a w h => by rw [hn]; exact h.size) ?_ ?_ ?_
  · exact ⟨by simp [hn], rfl, rfl, fun _ _ => rfl, fun i d _ hh => (by rw [hoff] at hh; cases hh), fun _ _ _ _ => rfl, fun i j hh => (by rw [hoff] at hh; cases hh), 0, Nat.zero_le _, fun j x _ => by rw [hoff]; simp, h0⟩
  · intro l a w' h i hi
    obtain ⟨hu, o, ho, hall⟩ := mem_ready.1 hi
    obtain ⟨r1, r2, r3, r4, r5, r6⟩ := reg_at hok ho
    have hoi : on l i = false := by simp only [on]; simp [Array.getD, h.size, r1] at hu ⊢; exact hu
    have hset : ∀ j, on (l.setIfInBounds i true) j = if i = j then true else on l j := fun j => on_set i j (by rw [h.size]; exact r1)
    have hdep : ∀ j d, D.getD j none = some d → waitsB ops i j = true → a.eval (.tmp d) = val j := fun j d hjd hh => h.val j d hjd (dep_of hi (waits_map hh))
    have hpre : ∀ j d, D.getD j none = some d → waitsB ops j i = true → a.eval (.tmp d) = a0.eval (.tmp d) := fun j d hjd hh => by
      have : on l j = false := by
        cases hj : on l j with
        | false => rfl
        | true => rw [h.closed j i hj hh] at hoi; cases hoi
      simp only [Act.eval, Array.getD_eq_getD_getElem?, h.pend j d hjd this]
    obtain ⟨c, hc1, hc2, hc3⟩ := h.w
    have keeps : ∀ w'' : World, (∃ c', c' ≤ As.length ∧ (∀ j x, As[j]? = some x → (on (l.setIfInBounds i true) x = true ↔ j < c')) ∧ W c' w'') → IChainP ops D val a0 As W (l.setIfInBounds i true) (a.put (D.getD i none) (val i)) w'' := fun w'' hw => by
      have hputs : (a.put (D.getD i none) (val i)).tmps.size = a0.tmps.size := by
        cases hD : D.getD i none <;> simp [Act.put, h.tsize]
      have hputd : (a.put (D.getD i none) (val i)).defers = a0.defers := by
        cases hD : D.getD i none <;> simp [Act.put, h.defers]
      refine ⟨by simp [h.size], hputs, hputd, fun s hs => ?_, fun j d hjd hh => ?_, fun j d hjd hh => ?_, fun x y hx hy => ?_, hw⟩
      · cases hD : D.getD i none with
        | none => exact h.off s hs
        | some d =>
          have : d ≠ s := fun e => hs (mem s i (by rw [hD, e]))
          simp only [Act.put, Array.getElem?_setIfInBounds, this, if_false]
          exact h.off s hs
      · rw [hset] at hh
        cases hD : D.getD i none with
        | none =>
          have hne : i ≠ j := fun e => by subst e; rw [hD] at hjd; cases hjd
          rw [if_neg hne] at hh
          exact h.val j d hjd hh
        | some d' =>
          rw [ev_put _ _ _ (by rw [h.tsize]; exact r4 d' hD)]
          by_cases e : i = j
          · subst e
            rw [hD] at hjd
            cases hjd
            simp
          · rw [if_neg e] at hh
            rw [if_neg (fun e2 => e (r5 j d (lt j d hjd) (by rw [hD, e2]) hjd))]
            exact h.val j d hjd hh
      · rw [hset] at hh
        by_cases e : i = j
        · rw [if_pos e] at hh
          cases hh
        · rw [if_neg e] at hh
          cases hD : D.getD i none with
          | none => exact h.pend j d hjd hh
          | some d' =>
            have hdd : d' ≠ d := fun e2 => e (r5 j d (lt j d hjd) (by rw [hD, e2]) hjd)
            simp only [Act.put, Array.getElem?_setIfInBounds, hdd, if_false]
            exact h.pend j d hjd hh
      · rw [hset] at hx ⊢
        by_cases e2 : i = y
        · rw [if_pos e2]
        · rw [if_neg e2]
          by_cases e1 : i = x
          · subst e1
            exact dep_of hi (waits_map hy)
          · rw [if_neg e1] at hx
            exact h.closed x y hx hy
    have legal : ∃ M : World → Prop, LegalP (reachB ops ops.size) As W i w' M ∧ (∀ w'', M w'' → ∃ c', c' ≤ As.length ∧ (∀ j x, As[j]? = some x → (on (l.setIfInBounds i true) x = true ↔ j < c')) ∧ W c' w'') ∧ (i ∉ As → M w') := by
      by_cases hmem : i ∈ As
      · obtain ⟨j, hj⟩ := List.getElem?_of_mem hmem
        have hjl := (List.getElem?_eq_some_iff.1 hj).1
        have hge : c ≤ j := Nat.le_of_not_lt fun hlt => by
          have := (hc2 j i hj).2 hlt
          rw [hoi] at this
          cases this
        have hle : j ≤ c := by
          cases j with
          | zero => exact Nat.zero_le _
          | succ k =>
            obtain ⟨x, hx⟩ : ∃ x, As[k]? = some x := ⟨As[k]'(by omega), List.getElem?_eq_getElem (by omega)⟩
            have := (hc2 k x hx).1 (reach_on_ready hi (reach hx hj) h.closed)
            omega
        obtain rfl : c = j := by omega
        refine ⟨W (c + 1), .inl ⟨c, hj, hc3, rfl⟩, fun w'' hw'' => ⟨c + 1, by omega, fun k x hk => ?_, hw''⟩, fun hno => absurd hmem hno⟩
        rw [hset]
        by_cases e : i = x
        · subst e
          have := inj hj hk
          simp [this]
        · rw [if_neg e, hc2 k x hk]
          have : k ≠ c := fun ek => e (by rw [ek] at hk; rw [hj] at hk; exact Option.some.inj hk)
          omega
      · have hup : ∀ q x, As[q]? = some x → reachB ops ops.size x i = true → c ≤ q := fun q x hq hr => Nat.le_of_not_lt fun hl => by
          have := reach_on h.closed ops.size x i ((hc2 q x hq).2 hl) hr
          rw [hoi] at this
          cases this
        refine ⟨fun w'' => w'' = w', .inr ⟨hmem, rfl, c, hc1, hc3, hup⟩, fun w'' hw'' => ⟨c, hc1, fun k x hk => ?_, by rw [hw'']; exact hc3⟩, fun _ => rfl⟩
        rw [hset, if_neg (fun e => hmem (by rw [e]; exact List.mem_of_getElem? hk))]
        exact hc2 k x hk
    obtain ⟨M, leg, hM, hsame⟩ := legal
    have hyield : ∀ (g : Nat) (b b' : Bool), o.guard = some (g, b) → val g = .bool b' → yielded ops a.tmps g = some b' := fun g b b' hgd h2 => by
      obtain ⟨h1, h3, h4⟩ := r6 g b hgd
      obtain ⟨d, hgD⟩ := Option.isSome_iff_exists.1 h4
      have hv := hdep g d hgD h3
      rw [h2] at hv
      have hgo : ∃ og, ops[g]? = some og := ⟨ops[g]'(by omega), Array.getElem?_eq_getElem (by omega)⟩
      obtain ⟨og, hog⟩ := hgo
      unfold yielded
      rw [hog]
      simp only [Option.bind_some, (reg_at hok hog).2.1, hgD]
      have hlt : d < a.tmps.size := by rw [h.tsize]; exact (reg_at hok hog).2.2.2.1 d hgD
      simp only [Act.eval, Array.getD, hlt, dite_true] at hv
      rw [Array.getElem?_eq_getElem hlt]
      have : a.tmps[d] = .bool b' := hv
      rw [this]
    unfold wpOp
    simp only [ho]
    by_cases hwant : Region.wanted o (yielded ops a.tmps) = true
    · rw [if_pos hwant]
      refine .inl (hstep i r1 (fun g b hgb => ?_) o a w' M _ ho r2 h.tsize (fun s hs => ?_) hdep hpre leg (fun w'' hw'' => keeps w'' (hM w'' hw'')))
      · obtain ⟨b', h1, h2⟩ := hg i g b hgb
        rw [ho] at hgb
        have hgd : o.guard = some (g, b) := hgb
        have hy := hyield g b b' hgd h1
        simp [Region.wanted, hgd, hy] at hwant
        rw [h1, hwant]
      · simp only [Act.eval, Array.getD_eq_getD_getElem?, h.off s hs]
    · rw [if_neg hwant, r2]
      cases hgd : o.guard with
      | none => exact absurd (by simp [Region.wanted, hgd]) hwant
      | some gb =>
        obtain ⟨g, b⟩ := gb
        obtain ⟨b', h1, h2⟩ := hg i g b (by rw [ho]; exact hgd)
        have hy := hyield g b b' hgd h1
        have hne : b' ≠ b := fun e => hwant (by simp [Region.wanted, hgd, hy, e])
        have hs := hsame (h2 hne).2
        rw [← (h2 hne).1]
        exact keeps w' (hM w' hs)
  · intro l a w' h hall
    have hal : ∀ i, i < D.length → on l i = true := fun i hi => by
      have := hall i (by rw [hn]; exact hi)
      simp only [on, Array.getD, h.size, hi, dite_true] at this ⊢
      exact this
    obtain ⟨c, hc1, hc2, hc3⟩ := h.w
    have hcm : c = As.length := by
      apply Classical.byContradiction
      intro hne
      have hlt : c < As.length := by omega
      have hx : As[c]? = some As[c] := List.getElem?_eq_getElem hlt
      have := (hc2 c _ hx).1 (hal _ (alt hx))
      omega
    rw [hcm] at hc3
    exact hend a h.tsize h.defers h.off (fun i d hD => h.val i d hD (hal i (lt i d hD))) w' hc3
end
theorem LegalP.at_ {R : Nat → Nat → Bool} {As : List Nat} {W : Nat → World → Prop} {i j : Nat} {w : World} {M : World → Prop} (h : LegalP R As W i w M) (hnd : As.Nodup) (hj : As[j]? = some i) : W j w ∧ M = W (j + 1) := by
  rcases h with ⟨k, h1, h2, h3⟩ | ⟨h1, -⟩
  · have : k = j := by
      obtain ⟨l1, e1⟩ := List.getElem?_eq_some_iff.1 h1
      obtain ⟨l2, e2⟩ := List.getElem?_eq_some_iff.1 hj
      have hp := List.pairwise_iff_getElem.1 hnd
      rcases Nat.lt_trichotomy k j with h | h | h
      · exact absurd (e1.trans e2.symm) (hp k j l1 l2 h)
      · exact h
      · exact absurd (e2.trans e1.symm) (hp j k l2 l1 h)
    subst this
    exact ⟨h2, h3⟩
  · exact absurd (List.mem_of_getElem? hj) h1
theorem LegalP.off {R : Nat → Nat → Bool} {As : List Nat} {W : Nat → World → Prop} {i : Nat} {w : World} {M : World → Prop} (h : LegalP R As W i w M) (hi : i ∉ As) : M w ∧ ∃ j, j ≤ As.length ∧ W j w ∧ ∀ q x, As[q]? = some x → R x i = true → j ≤ q := by
  rcases h with ⟨k, h1, -⟩ | ⟨-, h2, h3⟩
  · exact absurd (List.mem_of_getElem? h1) hi
  · exact ⟨by rw [h2], h3⟩
section
variable {P : Program} {o : Oper} {a : Act} {w : World} {K : Act → World → Prop} {Q : Exit → Act → World → Prop} {d : Option Nat}
theorem l_callP {f : FuncId} {fn : Func} {c : Code} {args : Array Operand} {tys : Array TypeId} {xs : Array Value} {v : Value} {M : World → Prop} (hd : o.dst = d) (h : o.op = .call { callee := .value (.func f), args := args, argTypes := tys }) (hx : args.map a.eval = xs)
    (hf : P.funcs[f]? = some fn) (hname : (fn.name == "runtime.NumGoroutine") = false) (hb : fn.body = some c) (hc : Calls P f xs w fun e w'' => e = .returned v ∧ M w'') (hK : ∀ w', M w' → K (a.put d v) w') : o.wp P a w K Q := by
  have hr : (execOp a.eval o).run P w = .ok (.enter f xs) w := by
    simp [execOp, h, resolve, invoke, hx, Deferred.ofValue, Go.MuLone.run_callFunc_enter hf hname hb, Act.eval]
  unfold Oper.wp
  rw [hr, Oper.upon_enter]
  refine hc.mono ?_
  rintro e w'' ⟨rfl, hM⟩
  rw [hd]
  exact hK w'' hM
end
end Go.Proofs.YtbielnehggcaoaaDoor
/- A region in whatever order; what its turning operations leave, and what they answer, hangs on the order: a ghost tells it. -/
namespace Go.Proofs.YtbielnehggcaoaaDoor
open Go.RowKit
section
variable {P : Program} {ops : Array Oper} {Q : Exit → Act → World → Prop} {G : Type}
structure IGhost (ops : Array Oper) (D : List (Option Nat)) (V : G → Nat → Value) (a0 : Act) (As : List Nat) (done : G → Nat → Bool) (St : G → World → Prop) (l : Array Bool) (a : Act) (w : World) : Prop where
  size : l.size = D.length
  tsize : a.tmps.size = a0.tmps.size
  defers : a.defers = a0.defers
  off : ∀ s, some s ∉ D → a.tmps[s]? = a0.tmps[s]?
  closed : ∀ i j, on l i = true → waitsB ops i j = true → on l j = true
  g : ∃ g, St g w ∧ (∀ x ∈ As, done g x = on l x) ∧ ∀ i d, D.getD i none = some d → on l i = true → a.eval (.tmp d) = V g i
def YieldsG (P : Program) (ops : Array Oper) (D : List (Option Nat)) (V : G → Nat → Value) (a0 : Act) (As : List Nat) (done : G → Nat → Bool) (St : G → World → Prop) (Q : Exit → Act → World → Prop) (i : Nat) : Prop :=
  ∀ (o : Oper) (a : Act) (w : World) (g : G) (K : Act → World → Prop), ops[i]? = some o → o.dst = D.getD i none → a.tmps.size = a0.tmps.size → (∀ s, some s ∉ D → a.eval (.tmp s) = a0.eval (.tmp s)) → (∀ j d, D.getD j none = some d → waitsB ops i j = true → a.eval (.tmp d) = V g j) → St g w → (∀ x ∈ As, reachB ops ops.size i x = true → done g x = true) → (i ∈ As → done g i = false) → (∀ x ∈ As, reachB ops ops.size x i = true → done g x = false) →
    (∀ g' w', St g' w' → (∀ x ∈ As, done g' x = (done g x || x == i)) → (∀ j, j ≠ i → reachB ops ops.size j i = false → V g' j = V g j) → K (a.put (D.getD i none) (V g' i)) w') → o.wp P a w K Q
theorem wp_region_ghost {id : Nat} {a0 : Act} {w : World} (hm : P.follows .mixedOrders = true) (D : List (Option Nat)) (hok : regOk ops D a0.tmps.size = true) (hng : ops.all (fun o => o.guard.isNone) = true) (V : G → Nat → Value) (As : List Nat) (done : G → Nat → Bool) (St : G → World → Prop) (g0 : G) (h0 : St g0 w.drew) (hd0 : ∀ x ∈ As, done g0 x = false) (hlt : As.all (fun x => decide (x < D.length)) = true)
    (hstep : ∀ i, i < D.length → YieldsG P ops D V a0 As done St Q i)
    (hend : ∀ a' w' g, a'.tmps.size = a0.tmps.size → a'.defers = a0.defers → (∀ s, some s ∉ D → a'.tmps[s]? = a0.tmps[s]?) → St g w' → (∀ x ∈ As, done g x = true) → (∀ i d, D.getD i none = some d → a'.eval (.tmp d) = V g i) → Q .normal a' w') :
    (Code.region id ops true).wp P Q a0 w := by
  have hn : ops.size = D.length := by
    unfold regOk at hok
    simp only [Bool.and_eq_true, beq_iff_eq] at hok
    exact hok.1
  have mem : ∀ s i, D.getD i none = some s → some s ∈ D := fun s i e => by
    have hi : i < D.length := by
      apply Classical.byContradiction
      intro h
      rw [List.getD_eq_getElem?_getD, List.getElem?_eq_none (by omega)] at e
      cases e
    rw [List.getD_eq_getElem?_getD, List.getElem?_eq_getElem hi] at e
    have := List.getElem_mem hi
    rw [show D[i] = some s from e] at this
    exact this
  have lt : ∀ i d, D.getD i none = some d → i < D.length := fun i d e => by
    apply Classical.byContradiction
    intro h
    rw [List.getD_eq_getElem?_getD, List.getElem?_eq_none (by omega)] at e
    cases e
  have hoff : ∀ i, on (Array.replicate ops.size false) i = false := fun i => by
    simp only [on, Array.getD_eq_getD_getElem?, Array.getElem?_replicate]
    split <;> rfl
  refine wp_region_inv hm (fun i o ho => (reg_at hok ho).2.2.1) (IGhost ops D V a0 As done St) (fun l a w h => by rw [hn]; exact h.size) ?_ ?_ ?_
  · exact ⟨by simp [hn], rfl, rfl, fun _ _ => rfl, fun i j hh => (by rw [hoff] at hh; cases hh), g0, h0, fun x hx => by rw [hoff, hd0 x hx], fun i d _ hh => (by rw [hoff] at hh; cases hh)⟩
  · intro l a w' h i hi
    obtain ⟨hu, o, ho, hall⟩ := mem_ready.1 hi
    obtain ⟨r1, r2, r3, r4, r5, r6⟩ := reg_at hok ho
    have hoi : on l i = false := by simp only [on]; simp [Array.getD, h.size, r1] at hu ⊢; exact hu
    have hset : ∀ j, on (l.setIfInBounds i true) j = if i = j then true else on l j := fun j => on_set i j (by rw [h.size]; exact r1)
    obtain ⟨g, hg1, hg2, hg3⟩ := h.g
    have hgd : o.guard = none := by
      have := Array.all_eq_true.1 hng i (by rw [hn]; exact r1)
      rw [(Array.getElem?_eq_some_iff.1 ho).2] at this
      simpa using this
    refine wpOp_of ho hgd ?_
    refine hstep i r1 o a w' g _ ho r2 h.tsize (fun s hs => ?_) (fun j d hjd hh => hg3 j d hjd (dep_of hi (waits_map hh))) hg1 (fun x hx hr => ?_) (fun hm => ?_) (fun x hx hr => ?_) ?_
    · simp only [Act.eval, Array.getD_eq_getD_getElem?, h.off s hs]
    · rw [hg2 x hx]
      exact reach_on_ready hi hr h.closed
    · rw [hg2 i hm, hoi]
    · rw [hg2 x hx]
      cases hx2 : on l x with
      | false => rfl
      | true =>
        have := reach_on h.closed ops.size x i hx2 hr
        rw [hoi] at this
        cases this
    · intro g' w2 hS hdn hV
      have hputs : (a.put (D.getD i none) (V g' i)).tmps.size = a0.tmps.size := by
        cases hD : D.getD i none <;> simp [Act.put, h.tsize]
      have hputd : (a.put (D.getD i none) (V g' i)).defers = a0.defers := by
        cases hD : D.getD i none <;> simp [Act.put, h.defers]
      refine ⟨by simp [h.size], hputs, hputd, fun s hs => ?_, fun x y hx hy => ?_, g', hS, fun x hx => ?_, fun j d hjd hh => ?_⟩
      · cases hD : D.getD i none with
        | none => exact h.off s hs
        | some d =>
          have : d ≠ s := fun e => hs (mem s i (by rw [hD, e]))
          simp only [Act.put, Array.getElem?_setIfInBounds, this, if_false]
          exact h.off s hs
      · rw [hset] at hx ⊢
        by_cases e2 : i = y
        · rw [if_pos e2]
        · rw [if_neg e2]
          by_cases e1 : i = x
          · subst e1
            exact dep_of hi (waits_map hy)
          · rw [if_neg e1] at hx
            exact h.closed x y hx hy
      · rw [hdn x hx, hg2 x hx, hset]
        by_cases e : i = x
        · subst e
          simp
        · have e' : ¬ x = i := fun z => e z.symm
          simp [e, e']
      · rw [hset] at hh
        by_cases e : i = j
        · subst e
          rw [hjd, ev_put _ _ _ (by rw [h.tsize]; exact r4 d hjd), if_pos rfl]
        · rw [if_neg e] at hh
          have hVj : V g' j = V g j := hV j (fun z => e z.symm) (by
            cases hr : reachB ops ops.size j i with
            | false => rfl
            | true =>
              have := reach_on h.closed ops.size j i hh hr
              rw [hoi] at this
              cases this)
          rw [hVj]
          cases hD : D.getD i none with
          | none => exact hg3 j d hjd hh
          | some d' =>
            rw [ev_put _ _ _ (by rw [h.tsize]; exact r4 d' hD), if_neg (fun e2 => e (r5 j d (lt j d hjd) (by rw [hD, e2]) hjd))]
            exact hg3 j d hjd hh
  · intro l a w' h hall
    have hal : ∀ i, i < D.length → on l i = true := fun i hi => by
      have := hall i (by rw [hn]; exact hi)
      simp only [on, Array.getD, h.size, hi, dite_true] at this ⊢
      exact this
    obtain ⟨g, hg1, hg2, hg3⟩ := h.g
    exact hend a w' g h.tsize h.defers h.off hg1 (fun x hx => by
      rw [hg2 x hx]
      exact hal x (by simpa using List.all_eq_true.1 hlt x hx)) fun i d hD => hg3 i d hD (hal i (lt i d hD))
end
end Go.Proofs.YtbielnehggcaoaaDoor
/- The same with guards that hold. -/
namespace Go.Proofs.YtbielnehggcaoaaDoor
open Go.RowKit
section
variable {P : Program} {ops : Array Oper} {Q : Exit → Act → World → Prop} {G : Type}
theorem wp_region_ghost2 {id : Nat} {a0 : Act} {w : World} (hm : P.follows .mixedOrders = true) (D : List (Option Nat)) (hok : regOk ops D a0.tmps.size = true) (V : G → Nat → Value) (hgu : ∀ (i g : Nat) (b : Bool), (ops[i]?).bind (fun o : Oper => o.guard) = some (g, b) → ∀ γ, V γ g = .bool b) (As : List Nat) (done : G → Nat → Bool) (St : G → World → Prop) (g0 : G) (h0 : St g0 w.drew) (hd0 : ∀ x ∈ As, done g0 x = false) (hlt : As.all (fun x => decide (x < D.length)) = true)
    (hstep : ∀ i, i < D.length → YieldsG P ops D V a0 As done St Q i)
    (hend : ∀ a' w' g, a'.tmps.size = a0.tmps.size → a'.defers = a0.defers → (∀ s, some s ∉ D → a'.tmps[s]? = a0.tmps[s]?) → St g w' → (∀ x ∈ As, done g x = true) → (∀ i d, D.getD i none = some d → a'.eval (.tmp d) = V g i) → Q .normal a' w') :
    (Code.region id ops true).wp P Q a0 w := by
  have hn : ops.size = D.length := by
    unfold regOk at hok
    simp only [Bool.and_eq_true, beq_iff_eq] at hok
    exact hok.1
  have mem : ∀ s i, D.getD i none = some s → some s ∈ D := fun s i e => by
    have hi : i < D.length := by
      apply Classical.byContradiction
      intro h
      rw [List.getD_eq_getElem?_getD, List.getElem?_eq_none (by omega)] at e
      cases e
    rw [List.getD_eq_getElem?_getD, List.getElem?_eq_getElem hi] at e
    have := List.getElem_mem hi
    rw [show D[i] = some s from e] at this
    exact this
  have lt : ∀ i d, D.getD i none = some d → i < D.length := fun i d e => by
    apply Classical.byContradiction
    intro h
    rw [List.getD_eq_getElem?_getD, List.getElem?_eq_none (by omega)] at e
    cases e
  have hoff : ∀ i, on (Array.replicate ops.size false) i = false := fun i => by
    simp only [on, Array.getD_eq_getD_getElem?, Array.getElem?_replicate]
    split <;> rfl
  refine wp_region_inv hm (fun i o ho => (reg_at hok ho).2.2.1) (IGhost ops D V a0 As done St) (fun l a w h => by rw [hn]; exact h.size) ?_ ?_ ?_
  · exact ⟨by simp [hn], rfl, rfl, fun _ _ => rfl, fun i j hh => (by rw [hoff] at hh; cases hh), g0, h0, fun x hx => by rw [hoff, hd0 x hx], fun i d _ hh => (by rw [hoff] at hh; cases hh)⟩
  · intro l a w' h i hi
    obtain ⟨hu, o, ho, hall⟩ := mem_ready.1 hi
    obtain ⟨r1, r2, r3, r4, r5, r6⟩ := reg_at hok ho
    have hoi : on l i = false := by simp only [on]; simp [Array.getD, h.size, r1] at hu ⊢; exact hu
    have hset : ∀ j, on (l.setIfInBounds i true) j = if i = j then true else on l j := fun j => on_set i j (by rw [h.size]; exact r1)
    obtain ⟨g, hg1, hg2, hg3⟩ := h.g
    have hwant : Region.wanted o (yielded ops a.tmps) = true := by
      cases hgd : o.guard with
      | none => simp [Region.wanted, hgd]
      | some gb =>
        obtain ⟨q, bq⟩ := gb
        obtain ⟨h1, h3, h4⟩ := r6 q bq hgd
        obtain ⟨d, hgD⟩ := Option.isSome_iff_exists.1 h4
        have hv := hg3 q d hgD (dep_of hi (waits_map h3))
        rw [hgu i q bq (by rw [ho]; exact hgd) g] at hv
        have hgo : ∃ og, ops[q]? = some og := ⟨ops[q]'(by omega), Array.getElem?_eq_getElem (by omega)⟩
        obtain ⟨og, hog⟩ := hgo
        have hy : yielded ops a.tmps q = some bq := by
          unfold yielded
          rw [hog]
          simp only [Option.bind_some, (reg_at hok hog).2.1, hgD]
          have hlt : d < a.tmps.size := by rw [h.tsize]; exact (reg_at hok hog).2.2.2.1 d hgD
          simp only [Act.eval, Array.getD, hlt, dite_true] at hv
          rw [Array.getElem?_eq_getElem hlt]
          have : a.tmps[d] = .bool bq := hv
          rw [this]
        simp [Region.wanted, hgd, hy]
    unfold wpOp
    simp only [ho]
    rw [if_pos hwant]
    left
    refine hstep i r1 o a w' g _ ho r2 h.tsize (fun s hs => ?_) (fun j d hjd hh => hg3 j d hjd (dep_of hi (waits_map hh))) hg1 (fun x hx hr => ?_) (fun hm => ?_) (fun x hx hr => ?_) ?_
    · simp only [Act.eval, Array.getD_eq_getD_getElem?, h.off s hs]
    · rw [hg2 x hx]
      exact reach_on_ready hi hr h.closed
    · rw [hg2 i hm, hoi]
    · rw [hg2 x hx]
      cases hx2 : on l x with
      | false => rfl
      | true =>
        have := reach_on h.closed ops.size x i hx2 hr
        rw [hoi] at this
        cases this
    · intro g' w2 hS hdn hV
      have hputs : (a.put (D.getD i none) (V g' i)).tmps.size = a0.tmps.size := by
        cases hD : D.getD i none <;> simp [Act.put, h.tsize]
      have hputd : (a.put (D.getD i none) (V g' i)).defers = a0.defers := by
        cases hD : D.getD i none <;> simp [Act.put, h.defers]
      refine ⟨by simp [h.size], hputs, hputd, fun s hs => ?_, fun x y hx hy => ?_, g', hS, fun x hx => ?_, fun j d hjd hh => ?_⟩
      · cases hD : D.getD i none with
        | none => exact h.off s hs
        | some d =>
          have : d ≠ s := fun e => hs (mem s i (by rw [hD, e]))
          simp only [Act.put, Array.getElem?_setIfInBounds, this, if_false]
          exact h.off s hs
      · rw [hset] at hx ⊢
        by_cases e2 : i = y
        · rw [if_pos e2]
        · rw [if_neg e2]
          by_cases e1 : i = x
          · subst e1
            exact dep_of hi (waits_map hy)
          · rw [if_neg e1] at hx
            exact h.closed x y hx hy
      · rw [hdn x hx, hg2 x hx, hset]
        by_cases e : i = x
        · subst e
          simp
        · have e' : ¬ x = i := fun z => e z.symm
          simp [e, e']
      · rw [hset] at hh
        by_cases e : i = j
        · subst e
          rw [hjd, ev_put _ _ _ (by rw [h.tsize]; exact r4 d hjd), if_pos rfl]
        · rw [if_neg e] at hh
          have hVj : V g' j = V g j := hV j (fun z => e z.symm) (by
            cases hr : reachB ops ops.size j i with
            | false => rfl
            | true =>
              have := reach_on h.closed ops.size j i hh hr
              rw [hoi] at this
              cases this)
          rw [hVj]
          cases hD : D.getD i none with
          | none => exact hg3 j d hjd hh
          | some d' =>
            rw [ev_put _ _ _ (by rw [h.tsize]; exact r4 d' hD), if_neg (fun e2 => e (r5 j d (lt j d hjd) (by rw [hD, e2]) hjd))]
            exact hg3 j d hjd hh
  · intro l a w' h hall
    have hal : ∀ i, i < D.length → on l i = true := fun i hi => by
      have := hall i (by rw [hn]; exact hi)
      simp only [on, Array.getD, h.size, hi, dite_true] at this ⊢
      exact this
    obtain ⟨g, hg1, hg2, hg3⟩ := h.g
    exact hend a w' g h.tsize h.defers h.off hg1 (fun x hx => by
      rw [hg2 x hx]
      exact hal x (by simpa using List.all_eq_true.1 hlt x hx)) fun i d hD => hg3 i d hD (hal i (lt i d hD))
end
theorem l_callE {P : Program} {o : Oper} {a : Act} {w : World} {K : Act → World → Prop} {Q : Exit → Act → World → Prop} {f : FuncId} {fn : Func} {c : Code} {args : Array Operand} {tys : Array TypeId} {xs : Array Value} {R : Ending → World → Prop} (h : o.op = .call { callee := .value (.func f), args := args, argTypes := tys }) (hx : args.map a.eval = xs)
    (hf : P.funcs[f]? = some fn) (hname : (fn.name == "runtime.NumGoroutine") = false) (hb : fn.body = some c) (hc : Calls P f xs w R) (hR : ∀ e w', R e w' → ∃ v, e = .returned v ∧ K (a.put o.dst v) w') : o.wp P a w K Q := by
  have hr : (execOp a.eval o).run P w = .ok (.enter f xs) w := by
    simp [execOp, h, resolve, invoke, hx, Deferred.ofValue, Go.MuLone.run_callFunc_enter hf hname hb, Act.eval]
  unfold Oper.wp
  rw [hr, Oper.upon_enter]
  refine hc.mono ?_
  intro e w' k
  obtain ⟨v, rfl, hK⟩ := hR e w' k
  exact hK
end Go.Proofs.YtbielnehggcaoaaDoor
/- A region in whatever order, a ghost beside it, with guards that hold or not; the frame behind it written out. -/
namespace Go.Proofs.YtbielnehggcaoaaDoor
open Go.RowKit
section
variable {P : Program} {ops : Array Oper} {Q : Exit → Act → World → Prop} {G : Type}
theorem wp_region_ghost3 {id : Nat} {a0 : Act} {w : World} (hm : P.follows .mixedOrders = true) (D : List (Option Nat)) (hok : regOk ops D a0.tmps.size = true) (V : G → Nat → Value) (As : List Nat) (hgu : ∀ (i g : Nat) (b : Bool), (ops[i]?).bind (fun o : Oper => o.guard) = some (g, b) → ∀ γ, (∃ b', V γ g = .bool b' ∧ (b' ≠ b → V γ i = undef ∧ i ∉ As)) ∨ (V γ g = undef ∧ V γ i = undef ∧ i ∉ As)) (done : G → Nat → Bool) (St : G → World → Prop) (g0 : G) (h0 : St g0 w.drew) (hd0 : ∀ x ∈ As, done g0 x = false) (hlt : As.all (fun x => decide (x < D.length)) = true)
    (hstep : ∀ i, i < D.length → (∀ (g : Nat) (b : Bool), (ops[i]?).bind (fun o : Oper => o.guard) = some (g, b) → ∃ γ, V γ g = .bool b) → YieldsG P ops D V a0 As done St Q i)
    (hend : ∀ a' w' g, a'.tmps.size = a0.tmps.size → a'.defers = a0.defers → (∀ s, some s ∉ D → a'.tmps[s]? = a0.tmps[s]?) → St g w' → (∀ x ∈ As, done g x = true) → (∀ i d, D.getD i none = some d → a'.eval (.tmp d) = V g i) → Q .normal a' w') :
    (Code.region id ops true).wp P Q a0 w := by
  have hn : ops.size = D.length := by
    unfold regOk at hok
    simp only [Bool.and_eq_true, beq_iff_eq] at hok
    exact hok.1
  have mem : ∀ s i, D.getD i none = some s → some s ∈ D := fun s i e => by
    have hi : i < D.length := by
      apply Classical.byContradiction
      intro h
      rw [List.getD_eq_getElem?_getD, List.getElem?_eq_none (by omega)] at e
      cases e
    rw [List.getD_eq_getElem?_getD, List.getElem?_eq_getElem hi] at e
    have := List.getElem_mem hi
    rw [show D[i] = some s from e] at this
    exact this
  have lt : ∀ i d, D.getD i none = some d → i < D.length := fun i d e => by
    apply Classical.byContradiction
    intro h
    rw [List.getD_eq_getElem?_getD, List.getElem?_eq_none (by omega)] at e
    cases e
  have hoff : ∀ i, on (Array.replicate ops.size false) i = false := fun i => by
    simp only [on, Array.getD_eq_getD_getElem?, Array.getElem?_replicate]
    split <;> rfl
  refine wp_region_inv hm (fun i o ho => (reg_at hok ho).2.2.1) (IGhost ops D V a0 As done St) (fun l a w h => by rw [hn]; exact h.size) ?_ ?_ ?_
  · exact ⟨by simp [hn], rfl, rfl, fun _ _ => rfl, fun i j hh => (by rw [hoff] at hh; cases hh), g0, h0, fun x hx => by rw [hoff, hd0 x hx], fun i d _ hh => (by rw [hoff] at hh; cases hh)⟩
  · intro l a w' h i hi
    obtain ⟨hu, o, ho, hall⟩ := mem_ready.1 hi
    obtain ⟨r1, r2, r3, r4, r5, r6⟩ := reg_at hok ho
    have hoi : on l i = false := by simp only [on]; simp [Array.getD, h.size, r1] at hu ⊢; exact hu
    have hset : ∀ j, on (l.setIfInBounds i true) j = if i = j then true else on l j := fun j => on_set i j (by rw [h.size]; exact r1)
    obtain ⟨g, hg1, hg2, hg3⟩ := h.g
    have hyield : ∀ (q : Nat) (bq b' : Bool), o.guard = some (q, bq) → V g q = .bool b' → yielded ops a.tmps q = some b' := fun q bq b' hgd h2 => by
      obtain ⟨h1, h3, h4⟩ := r6 q bq hgd
      obtain ⟨d, hgD⟩ := Option.isSome_iff_exists.1 h4
      have hv := hg3 q d hgD (dep_of hi (waits_map h3))
      rw [h2] at hv
      have hgo : ∃ og, ops[q]? = some og := ⟨ops[q]'(by omega), Array.getElem?_eq_getElem (by omega)⟩
      obtain ⟨og, hog⟩ := hgo
      unfold yielded
      rw [hog]
      simp only [Option.bind_some, (reg_at hok hog).2.1, hgD]
      have hlt : d < a.tmps.size := by rw [h.tsize]; exact (reg_at hok hog).2.2.2.1 d hgD
      simp only [Act.eval, Array.getD, hlt, dite_true] at hv
      rw [Array.getElem?_eq_getElem hlt]
      have : a.tmps[d] = .bool b' := hv
      rw [this]
    have hyieldU : ∀ (q : Nat) (bq : Bool), o.guard = some (q, bq) → V g q = undef → yielded ops a.tmps q = none := fun q bq hgd h2 => by
      obtain ⟨h1, h3, h4⟩ := r6 q bq hgd
      obtain ⟨d, hgD⟩ := Option.isSome_iff_exists.1 h4
      have hv := hg3 q d hgD (dep_of hi (waits_map h3))
      rw [h2] at hv
      have hgo : ∃ og, ops[q]? = some og := ⟨ops[q]'(by omega), Array.getElem?_eq_getElem (by omega)⟩
      obtain ⟨og, hog⟩ := hgo
      unfold yielded
      rw [hog]
      simp only [Option.bind_some, (reg_at hok hog).2.1, hgD]
      have hlt : d < a.tmps.size := by rw [h.tsize]; exact (reg_at hok hog).2.2.2.1 d hgD
      simp only [Act.eval, Array.getD, hlt, dite_true] at hv
      rw [Array.getElem?_eq_getElem hlt]
      have : a.tmps[d] = undef := hv
      rw [this]
      rfl
    have keeps : ∀ g' w2, St g' w2 → (∀ x ∈ As, done g' x = (done g x || x == i)) → (∀ j, j ≠ i → reachB ops ops.size j i = false → V g' j = V g j) → IGhost ops D V a0 As done St (l.setIfInBounds i true) (a.put (D.getD i none) (V g' i)) w2 := by
      intro g' w2 hS hdn hV
      have hputs : (a.put (D.getD i none) (V g' i)).tmps.size = a0.tmps.size := by
        cases hD : D.getD i none <;> simp [Act.put, h.tsize]
      have hputd : (a.put (D.getD i none) (V g' i)).defers = a0.defers := by
        cases hD : D.getD i none <;> simp [Act.put, h.defers]
      refine ⟨by simp [h.size], hputs, hputd, fun s hs => ?_, fun x y hx hy => ?_, g', hS, fun x hx => ?_, fun j d hjd hh => ?_⟩
      · cases hD : D.getD i none with
        | none => exact h.off s hs
        | some d =>
          have : d ≠ s := fun e => hs (mem s i (by rw [hD, e]))
          simp only [Act.put, Array.getElem?_setIfInBounds, this, if_false]
          exact h.off s hs
      · rw [hset] at hx ⊢
        by_cases e2 : i = y
        · rw [if_pos e2]
        · rw [if_neg e2]
          by_cases e1 : i = x
          · subst e1
            exact dep_of hi (waits_map hy)
          · rw [if_neg e1] at hx
            exact h.closed x y hx hy
      · rw [hdn x hx, hg2 x hx, hset]
        by_cases e : i = x
        · subst e
          simp
        · have e' : ¬ x = i := fun z => e z.symm
          simp [e, e']
      · rw [hset] at hh
        by_cases e : i = j
        · subst e
          rw [hjd, ev_put _ _ _ (by rw [h.tsize]; exact r4 d hjd), if_pos rfl]
        · rw [if_neg e] at hh
          have hVj : V g' j = V g j := hV j (fun z => e z.symm) (by
            cases hr : reachB ops ops.size j i with
            | false => rfl
            | true =>
              have := reach_on h.closed ops.size j i hh hr
              rw [hoi] at this
              cases this)
          rw [hVj]
          cases hD : D.getD i none with
          | none => exact hg3 j d hjd hh
          | some d' =>
            rw [ev_put _ _ _ (by rw [h.tsize]; exact r4 d' hD), if_neg (fun e2 => e (r5 j d (lt j d hjd) (by rw [hD, e2]) hjd))]
            exact hg3 j d hjd hh
    unfold wpOp
    simp only [ho]
    by_cases hwant : Region.wanted o (yielded ops a.tmps) = true
    · rw [if_pos hwant]
      left
      refine hstep i r1 (fun q bq hgb => ?_) o a w' g _ ho r2 h.tsize (fun s hs => ?_) (fun j d hjd hh => hg3 j d hjd (dep_of hi (waits_map hh))) hg1 (fun x hx hr => ?_) (fun hm => ?_) (fun x hx hr => ?_) keeps
      · rcases hgu i q bq hgb g with ⟨b', h1, h2⟩ | ⟨h1, -, -⟩
        · rw [ho] at hgb
          have hgd : o.guard = some (q, bq) := hgb
          have hy := hyield q bq b' hgd h1
          simp [Region.wanted, hgd, hy] at hwant
          exact ⟨g, by rw [h1, hwant]⟩
        · rw [ho] at hgb
          have hgd : o.guard = some (q, bq) := hgb
          have hy := hyieldU q bq hgd h1
          simp [Region.wanted, hgd, hy] at hwant
      · simp only [Act.eval, Array.getD_eq_getD_getElem?, h.off s hs]
      · rw [hg2 x hx]
        exact reach_on_ready hi hr h.closed
      · rw [hg2 i hm, hoi]
      · rw [hg2 x hx]
        cases hx2 : on l x with
        | false => rfl
        | true =>
          have := reach_on h.closed ops.size x i hx2 hr
          rw [hoi] at this
          cases this
    · rw [if_neg hwant, r2]
      cases hgd : o.guard with
      | none => exact absurd (by simp [Region.wanted, hgd]) hwant
      | some gb =>
        obtain ⟨q, bq⟩ := gb
        obtain ⟨h3, h4⟩ : V g i = undef ∧ i ∉ As := by
          rcases hgu i q bq (by rw [ho]; exact hgd) g with ⟨b', h1, h2⟩ | ⟨-, h2, h3⟩
          · have hy := hyield q bq b' hgd h1
            have hne : b' ≠ bq := fun e => hwant (by simp [Region.wanted, hgd, hy, e])
            exact h2 hne
          · exact ⟨h2, h3⟩
        have := keeps g w' hg1 (fun x hx => by have : ¬ x = i := fun e => h4 (e ▸ hx); simp [this]) (fun j _ _ => rfl)
        rw [h3] at this
        exact this
  · intro l a w' h hall
    have hal : ∀ i, i < D.length → on l i = true := fun i hi => by
      have := hall i (by rw [hn]; exact hi)
      simp only [on, Array.getD, h.size, hi, dite_true] at this ⊢
      exact this
    obtain ⟨g, hg1, hg2, hg3⟩ := h.g
    exact hend a w' g h.tsize h.defers h.off hg1 (fun x hx => by
      rw [hg2 x hx]
      exact hal x (by simpa using List.all_eq_true.1 hlt x hx)) fun i d hD => hg3 i d hD (hal i (lt i d hD))
end

/-- Values put into slots, one behind the other. -/
def puts (V : Nat → Value) : Act → List (Option Nat) → Nat → Act
  | a, [], _ => a
  | a, d :: D, i => puts V (a.put d (V i)) D (i + 1)
theorem puts_frame {V : Nat → Value} : ∀ (D : List (Option Nat)) (i : Nat) (a0 : Act), (puts V a0 D i).tmps.size = a0.tmps.size ∧ (puts V a0 D i).defers = a0.defers ∧ (∀ s, some s ∉ D → (puts V a0 D i).tmps[s]? = a0.tmps[s]?)
  | [], i, a0 => ⟨rfl, rfl, fun _ _ => rfl⟩
  | d :: D, i, a0 => by
    obtain ⟨h1, h2, h3⟩ := puts_frame (V := V) D (i + 1) (a0.put d (V i))
    refine ⟨h1.trans (by cases d <;> simp [Act.put]), h2.trans (by cases d <;> simp [Act.put]), fun s hs => (h3 s fun h => hs (by simp [h])).trans ?_⟩
    cases d with
    | none => rfl
    | some d =>
      have : d ≠ s := fun e => hs (by simp [e])
      simp only [Act.put, Array.getElem?_setIfInBounds, this, if_false]
theorem puts_val {V : Nat → Value} : ∀ (D : List (Option Nat)) (i : Nat) (a0 : Act), (D.Pairwise fun x y => x = none ∨ x ≠ y) → (∀ d, some d ∈ D → d < a0.tmps.size) → ∀ j d, D.getD j none = some d → (puts V a0 D i).tmps[d]? = some (V (i + j))
  | [], i, a0, _, _, j, d, h => by simp at h
  | x :: D, i, a0, hp, hlt, 0, d, h => by
    simp only [List.getD_cons_zero] at h
    subst h
    obtain ⟨h1, h2⟩ := List.pairwise_cons.1 hp
    show (puts V (a0.put (some d) (V i)) D (i + 1)).tmps[d]? = _
    rw [(puts_frame (V := V) D (i + 1) _).2.2 d fun hm => by rcases h1 _ hm with h | h; cases h; exact h rfl]
    have := hlt d (by simp)
    simp [Act.put, this]
  | x :: D, i, a0, hp, hlt, j + 1, d, h => by
    simp only [List.getD_cons_succ] at h
    obtain ⟨h1, h2⟩ := List.pairwise_cons.1 hp
    have := puts_val (V := V) D (i + 1) (a0.put x (V i)) h2 (fun d hd => by have := hlt d (by simp [hd]); cases x <;> simpa [Act.put] using this) j d h
    rw [show i + (j + 1) = i + 1 + j by omega]
    exact this
/-- The slots are unlike, and there. -/
def okD (n : Nat) : List (Option Nat) → Bool
  | [] => true
  | none :: D => okD n D
  | some d :: D => decide (d < n) && D.all (fun e => e != some d) && okD n D
theorem okD_is {n : Nat} : ∀ {D : List (Option Nat)}, okD n D = true → (D.Pairwise fun x y => x = none ∨ x ≠ y) ∧ ∀ d, some d ∈ D → d < n
  | [], _ => ⟨List.Pairwise.nil, fun _ h => nomatch h⟩
  | none :: D, h => by
    obtain ⟨h1, h2⟩ := okD_is (D := D) h
    exact ⟨List.pairwise_cons.2 ⟨fun _ _ => .inl rfl, h1⟩, fun d hd => h2 d (by simpa using hd)⟩
  | some d :: D, h => by
    simp only [okD, Bool.and_eq_true, decide_eq_true_eq, List.all_eq_true] at h
    obtain ⟨⟨h1, h2⟩, h3⟩ := h
    obtain ⟨h4, h5⟩ := okD_is (D := D) h3
    refine ⟨List.pairwise_cons.2 ⟨fun y hy => .inr fun e => ?_, h4⟩, fun e he => ?_⟩
    · have := h2 y hy; rw [← e] at this; simp at this
    · rcases List.mem_cons.1 he with he | he
      · cases he; exact h1
      · exact h5 e he
/-- The frame, written out. -/
theorem frame_is {V : Nat → Value} {D : List (Option Nat)} {a0 a' : Act} (hsz : a'.tmps.size = a0.tmps.size) (hdf : a'.defers = a0.defers) (hoff : ∀ s, some s ∉ D → a'.tmps[s]? = a0.tmps[s]?) (hval : ∀ i d, D.getD i none = some d → a'.eval (.tmp d) = V i) (hd : okD a0.tmps.size D = true) : a' = puts V a0 D 0 := by
  obtain ⟨hp, hlt⟩ := okD_is hd
  obtain ⟨h1, h2, h3⟩ := puts_frame (V := V) D 0 a0
  have ht : a'.tmps = (puts V a0 D 0).tmps := by
    apply Array.ext_getElem?
    intro s
    by_cases hs : some s ∈ D
    · obtain ⟨j, hj, he⟩ := List.mem_iff_getElem.1 hs
      have hjd : D.getD j none = some s := by rw [List.getD_eq_getElem?_getD, List.getElem?_eq_getElem hj, he]; rfl
      rw [puts_val D 0 a0 hp hlt j s hjd, Nat.zero_add]
      have hv := hval j s hjd
      have hl : s < a'.tmps.size := by rw [hsz]; exact hlt s hs
      simp only [Act.eval, Array.getD, hl, dite_true] at hv
      rw [Array.getElem?_eq_getElem hl]
      exact congrArg some hv
    · rw [hoff s hs, h3 s hs]
  have : a'.defers = (puts V a0 D 0).defers := hdf.trans h2.symm
  cases a'
  cases hpz : puts V a0 D 0
  rw [hpz] at ht this
  simp only at ht this
  rw [ht, this]
section
variable {P : Program} {ops : Array Oper} {Q : Exit → Act → World → Prop} {G : Type}
/-- An operation that only reads. -/
theorem soft {D : List (Option Nat)} {V : G → Nat → Value} {a0 : Act} {As : List Nat} {done : G → Nat → Bool} {St : G → World → Prop} {i : Nat} (hi : i ∉ As)
    (h : ∀ (o : Oper) (a : Act) (w : World) (g : G), ops[i]? = some o → (∀ s, some s ∉ D → a.eval (.tmp s) = a0.eval (.tmp s)) → (∀ j d, D.getD j none = some d → waitsB ops i j = true → a.eval (.tmp d) = V g j) → St g w → (∀ x ∈ As, reachB ops ops.size i x = true → done g x = true) → (execOp a.eval o).run P w = .ok (.value (V g i)) w) : YieldsG P ops D V a0 As done St Q i := by
  intro o a w g K ho hd hs hoff hv hS hdn _ _ hK
  exact l_val hd (h o a w g ho hoff hv hS hdn) (hK g w hS (fun x hx => by have : ¬ x = i := fun e => hi (e ▸ hx); simp [this]) fun _ _ _ => rfl)
end
end Go.Proofs.YtbielnehggcaoaaDoor
