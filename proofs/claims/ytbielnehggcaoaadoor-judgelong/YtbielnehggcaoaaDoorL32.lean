/- Drawn regions within a round of a range over a function: by the same invariants. -/
import Derived.Test.YtbielnehggcaoaaDoorL07
import Derived.Test.YtbielnehggcaoaaDoorL02
import Derived.OrdersIn
import Derived.RangeFuncCalls
import Derived.Test.YtbielnehggcaoaaDoorL09
import Derived.Test.YtbielnehggcaoaaDoorL31
import Derived.Test.YtbielnehggcaoaaDoorL30
namespace Go.Proofs.YtbielnehggcaoaaDoor
open Go.RowKit
section
variable {P : Program} {ops : Array Oper} {Q : Exit → Act → World → Prop}
theorem any_inv (hac : ∀ i o, ops[i]? = some o → ∀ e ∈ o.after, Region.binds .any e = true → e.on < i) (I : Array Bool → Act → World → Prop) (hsz : ∀ l a w, I l a w → l.size = ops.size) {a : Act} {w : World}
    (h0 : I (Array.replicate ops.size false) a w.drew) (hstep : ∀ l a w, I l a w → ∀ i ∈ Region.ready .any ops l, wpOp P ops Q i (fun a' w' => I (l.setIfInBounds i true) a' w') a w) (hend : ∀ l a w, I l a w → (∀ i, i < ops.size → l.getD i true = true) → Q .normal a w) :
    wpAny P .any ops Q ops.size (Array.replicate ops.size false) a w.drew := by
  refine wpAny_inv hac I hsz hstep hend ops.size _ _ _ h0 ?_
  have : ∀ n, cnt (List.replicate n false) ≤ n := fun n => by
    have := List.countP_le_length (p := fun b => !b) (l := List.replicate n false)
    simpa [cnt] using this
  simpa using this ops.size
def noDefer (o : Oper) : Bool := match o.op with | .defer _ => false | _ => true
theorem noDefer_ne {o : Oper} (h : noDefer o = true) : ∀ c, o.op ≠ .defer c := fun c e => by unfold noDefer at h; rw [e] at h; cases h
theorem oper_in {o : Oper} {a : Act} {w : World} {K : Act → World → Prop} {Q' : Exit → Act → World → Prop} {l : Nat} (hd : noDefer o = true) (h : o.wp P a w K (fun _ _ _ => False)) : o.wpIn (Fence.wide.inRound l) 0 P a w K Q' := by
  refine ⟨fun f _ => trivial, ?_⟩
  rw [show (Fence.wide.inRound l).round = some l from rfl, Oper.semAt_some l a.eval o (noDefer_ne hd)]
  unfold Oper.wp at h
  cases hr : (execOp a.eval o).run P w with
  | ok x w' =>
    rw [hr] at h
    cases x with
    | value v => exact h
    | skip => exact h
    | defer d => exact h
    | enter f args =>
      refine ⟨fun hh => (by cases hh), ?_⟩
      have h2 : Calls P f args w' _ := h
      refine ((callsIn_wide.2 h2).inRound l).mono ?_
      intro e w'' he
      cases e with
      | returned v => exact he
      | panicked ch => exact he.elim
      | outgrown => obtain ⟨_, _, hh⟩ := he; exact hh.elim
    | row r args =>
      refine ⟨fun hh => (by cases hh), fun c cs _ => ?_⟩
      obtain ⟨v, w'', hv, hs⟩ := h c cs
      exact ⟨v, w'', hv, stepsIn_wide.2 hs⟩
    | _ => exact h.elim
  | halt x w' =>
    rw [hr] at h
    cases x with
    | panic v => exact h.elim
    | _ => exact h.elim
theorem oper_post {o : Oper} {a : Act} {w : World} {K K' : Act → World → Prop} (h : o.wp P a w K (Exit.then K' (fun _ _ _ => False))) : o.wp P a w K (fun _ _ _ => False) := by
  unfold Oper.wp at *
  cases hr : (execOp a.eval o).run P w with
  | ok x w' =>
    rw [hr] at h
    cases x with
    | enter f args =>
      refine Calls.mono (show Calls P f args w' _ from h) ?_
      intro e w'' he
      cases e with
      | returned v => exact he
      | panicked ch => exact he
      | outgrown => obtain ⟨x, y, hh⟩ := he; exact ⟨x, y, hh⟩
    | _ => exact h
  | halt x w' => rw [hr] at h; cases x <;> exact h
theorem lets_false {K : Act → World → Prop} : ¬ LetsOut (Exit.then K (fun _ _ _ => False)) := by
  rintro ⟨a, w, h⟩; exact h
theorem any_in {K : Act → World → Prop} {Q' : Exit → Act → World → Prop} {l : Nat} (hd : ops.all noDefer = true) : ∀ (fuel : Nat) (li : Array Bool) (a : Act) (w : World), wpAny P .any ops (Exit.then K (fun _ _ _ => False)) fuel li a w → wpAnyIn (Fence.wide.inRound l) 0 P .any ops (Exit.then K Q') fuel li a w := by
  intro fuel
  induction fuel with
  | zero => intro li a w h; exact h
  | succ fuel ih =>
    intro li a w h
    refine ⟨h.1, fun i hi => ?_⟩
    have hs := h.2 i hi
    unfold wpOp at hs
    unfold wpOpIn
    cases ho : ops[i]? with
    | none => simp only [ho] at hs ⊢; exact ih _ _ _ hs
    | some o =>
      simp only [ho] at hs ⊢
      have hno : noDefer o = true := Array.all_eq_true_iff_forall_mem.1 hd o (Array.mem_of_getElem? ho)
      split at hs
      · rename_i hw
        rw [if_pos hw]
        rcases hs with hs | ⟨_, hs⟩
        · refine oper_in hno ?_
          refine Oper.wp_mono (fun a w => ih _ a w) ?_
          exact oper_post hs
        · exact (lets_false hs).elim
      · rename_i hw
        rw [if_neg hw]
        exact ⟨fun f _ => trivial, ih _ _ _ hs⟩
theorem region_in {K : Act → World → Prop} {Q' : Exit → Act → World → Prop} {l id : Nat} {a : Act} {w : World} (hm : P.follows .mixedOrders = true) (hd : ops.all noDefer = true) (h : wpAny P .any ops (Exit.then K (fun _ _ _ => False)) ops.size (Array.replicate ops.size false) a w.drew) : (Code.region id ops true).wpIn (Fence.wide.inRound l) 0 P (Exit.then K Q') a w :=
  wpIn_region_any hm (any_in hd _ _ _ _ h)
end
section
variable {P : Program} {ops : Array Oper} {Q : Exit → Act → World → Prop} {G : Type}
theorem ghost3_any {a0 : Act} {w : World} (D : List (Option Nat)) (hok : regOk ops D a0.tmps.size = true) (V : G → Nat → Value) (As : List Nat) (hgu : ∀ (i g : Nat) (b : Bool), (ops[i]?).bind (fun o : Oper => o.guard) = some (g, b) → ∀ γ, (∃ b', V γ g = .bool b' ∧ (b' ≠ b → V γ i = undef ∧ i ∉ As)) ∨ (V γ g = undef ∧ V γ i = undef ∧ i ∉ As)) (done : G → Nat → Bool) (St : G → World → Prop) (g0 : G) (h0 : St g0 w.drew) (hd0 : ∀ x ∈ As, done g0 x = false) (hlt : As.all (fun x => decide (x < D.length)) = true)
    (hstep : ∀ i, i < D.length → (∀ (g : Nat) (b : Bool), (ops[i]?).bind (fun o : Oper => o.guard) = some (g, b) → ∃ γ, V γ g = .bool b) → YieldsG P ops D V a0 As done St Q i)
    (hend : ∀ a' w' g, a'.tmps.size = a0.tmps.size → a'.defers = a0.defers → (∀ s, some s ∉ D → a'.tmps[s]? = a0.tmps[s]?) → St g w' → (∀ x ∈ As, done g x = true) → (∀ i d, D.getD i none = some d → a'.eval (.tmp d) = V g i) → Q .normal a' w') :
    wpAny P .any ops Q ops.size (Array.replicate ops.size false) a0 w.drew := by
  have hn : ops.size = D.length := by
    unfold regOk at hok
    simp only [Bool.and_eq_true, beq_iff_eq] at hok
    exact hok.1
  have mem : ∀ s i, D.getD i none = some s → some s ∈ D := fun s i e => by
    have hi : i < D.length := by
      apply Classical.byContradiction
      intro h
      rw [List.getD_eq_getElem?_getD, List.getElem?_eq_none (by omega)] at e
      cases e
    rw [List.getD_eq_getElem?_getD, List.getElem?_eq_getElem hi] at e
    have := List.getElem_mem hi
    rw [show D[i] = some s from e] at this
    exact this
  have lt : ∀ i d, D.getD i none = some d → i < D.length := fun i d e => by
    apply Classical.byContradiction
    intro h
    rw [List.getD_eq_getElem?_getD, List.getElem?_eq_none (by omega)] at e
    cases e
  have hoff : ∀ i, on (Array.replicate ops.size false) i = false := fun i => by
    simp only [on, Array.getD_eq_getD_getElem?, Array.getElem?_replicate]
    split <;> rfl
  refine any_inv (fun i o ho => (reg_at hok ho).2.2.1) (IGhost ops D V a0 As done St) (fun l a w h => by rw [hn]; exact h.size) ?_ ?_ ?_
  · exact ⟨by simp [hn], rfl, rfl, fun _ _ => rfl, fun i j hh => (by rw [hoff] at hh; cases hh), g0, h0, fun x hx => by rw [hoff, hd0 x hx], fun i d _ hh => (by rw [hoff] at hh; cases hh)⟩
  · intro l a w' h i hi
    obtain ⟨hu, o, ho, hall⟩ := mem_ready.1 hi
    obtain ⟨r1, r2, r3, r4, r5, r6⟩ := reg_at hok ho
    have hoi : on l i = false := by simp only [on]; simp [Array.getD, h.size, r1] at hu ⊢; exact hu
    have hset : ∀ j, on (l.setIfInBounds i true) j = if i = j then true else on l j := fun j => on_set i j (by rw [h.size]; exact r1)
    obtain ⟨g, hg1, hg2, hg3⟩ := h.g
    have hyield : ∀ (q : Nat) (bq b' : Bool), o.guard = some (q, bq) → V g q = .bool b' → yielded ops a.tmps q = some b' := fun q bq b' hgd h2 => by
      obtain ⟨h1, h3, h4⟩ := r6 q bq hgd
      obtain ⟨d, hgD⟩ := Option.isSome_iff_exists.1 h4
      have hv := hg3 q d hgD (dep_of hi (waits_map h3))
      rw [h2] at hv
      have hgo : ∃ og, ops[q]? = some og := ⟨ops[q]'(by omega), Array.getElem?_eq_getElem (by omega)⟩
      obtain ⟨og, hog⟩ := hgo
      unfold yielded
      rw [hog]
      simp only [Option.bind_some, (reg_at hok hog).2.1, hgD]
      have hlt : d < a.tmps.size := by rw [h.tsize]; exact (reg_at hok hog).2.2.2.1 d hgD
      simp only [Act.eval, Array.getD, hlt, dite_true] at hv
      rw [Array.getElem?_eq_getElem hlt]
      have : a.tmps[d] = .bool b' := hv
      rw [this]
    have hyieldU : ∀ (q : Nat) (bq : Bool), o.guard = some (q, bq) → V g q = undef → yielded ops a.tmps q = none := fun q bq hgd h2 => by
      obtain ⟨h1, h3, h4⟩ := r6 q bq hgd
      obtain ⟨d, hgD⟩ := Option.isSome_iff_exists.1 h4
      have hv := hg3 q d hgD (dep_of hi (waits_map h3))
      rw [h2] at hv
      have hgo : ∃ og, ops[q]? = some og := ⟨ops[q]'(by omega), Array.getElem?_eq_getElem (by omega)⟩
      obtain ⟨og, hog⟩ := hgo
      unfold yielded
      rw [hog]
      simp only [Option.bind_some, (reg_at hok hog).2.1, hgD]
      have hlt : d < a.tmps.size := by rw [h.tsize]; exact (reg_at hok hog).2.2.2.1 d hgD
      simp only [Act.eval, Array.getD, hlt, dite_true] at hv
      rw [Array.getElem?_eq_getElem hlt]
      have : a.tmps[d] = undef := hv
      rw [this]
      rfl
    have keeps : ∀ g' w2, St g' w2 → (∀ x ∈ As, done g' x = (done g x || x == i)) → (∀ j, j ≠ i → reachB ops ops.size j i = false → V g' j = V g j) → IGhost ops D V a0 As done St (l.setIfInBounds i true) (a.put (D.getD i none) (V g' i)) w2 := by
      intro g' w2 hS hdn hV
      have hputs : (a.put (D.getD i none) (V g' i)).tmps.size = a0.tmps.size := by
        cases hD : D.getD i none <;> simp [Act.put, h.tsize]
      have hputd : (a.put (D.getD i none) (V g' i)).defers = a0.defers := by
        cases hD : D.getD i none <;> simp [Act.put, h.defers]
      refine ⟨by simp [h.size], hputs, hputd, fun s hs => ?_, fun x y hx hy => ?_, g', hS, fun x hx => ?_, fun j d hjd hh => ?_⟩
      · cases hD : D.getD i none with
        | none => exact h.off s hs
        | some d =>
          have : d ≠ s := fun e => hs (mem s i (by rw [hD, e]))
          simp only [Act.put, Array.getElem?_setIfInBounds, this, if_false]
          exact h.off s hs
      · rw [hset] at hx ⊢
        by_cases e2 : i = y
        · rw [if_pos e2]
        · rw [if_neg e2]
          by_cases e1 : i = x
          · subst e1
            exact dep_of hi (waits_map hy)
          · rw [if_neg e1] at hx
            exact h.closed x y hx hy
      · rw [hdn x hx, hg2 x hx, hset]
        by_cases e : i = x
        · subst e
          simp
        · have e' : ¬ x = i := fun z => e z.symm
          simp [e, e']
      · rw [hset] at hh
        by_cases e : i = j
        · subst e
          rw [hjd, ev_put _ _ _ (by rw [h.tsize]; exact r4 d hjd), if_pos rfl]
        · rw [if_neg e] at hh
          have hVj : V g' j = V g j := hV j (fun z => e z.symm) (by
            cases hr : reachB ops ops.size j i with
            | false => rfl
            | true =>
              have := reach_on h.closed ops.size j i hh hr
              rw [hoi] at this
              cases this)
          rw [hVj]
          cases hD : D.getD i none with
          | none => exact hg3 j d hjd hh
          | some d' =>
            rw [ev_put _ _ _ (by rw [h.tsize]; exact r4 d' hD), if_neg (fun e2 => e (r5 j d (lt j d hjd) (by rw [hD, e2]) hjd))]
            exact hg3 j d hjd hh
    unfold wpOp
    simp only [ho]
    by_cases hwant : Region.wanted o (yielded ops a.tmps) = true
    · rw [if_pos hwant]
      left
      refine hstep i r1 (fun q bq hgb => ?_) o a w' g _ ho r2 h.tsize (fun s hs => ?_) (fun j d hjd hh => hg3 j d hjd (dep_of hi (waits_map hh))) hg1 (fun x hx hr => ?_) (fun hm => ?_) (fun x hx hr => ?_) keeps
      · rcases hgu i q bq hgb g with ⟨b', h1, h2⟩ | ⟨h1, -, -⟩
        · rw [ho] at hgb
          have hgd : o.guard = some (q, bq) := hgb
          have hy := hyield q bq b' hgd h1
          simp [Region.wanted, hgd, hy] at hwant
          exact ⟨g, by rw [h1, hwant]⟩
        · rw [ho] at hgb
          have hgd : o.guard = some (q, bq) := hgb
          have hy := hyieldU q bq hgd h1
          simp [Region.wanted, hgd, hy] at hwant
      · simp only [Act.eval, Array.getD_eq_getD_getElem?, h.off s hs]
      · rw [hg2 x hx]
        exact reach_on_ready hi hr h.closed
      · rw [hg2 i hm, hoi]
      · rw [hg2 x hx]
        cases hx2 : on l x with
        | false => rfl
        | true =>
          have := reach_on h.closed ops.size x i hx2 hr
          rw [hoi] at this
          cases this
    · rw [if_neg hwant, r2]
      cases hgd : o.guard with
      | none => exact absurd (by simp [Region.wanted, hgd]) hwant
      | some gb =>
        obtain ⟨q, bq⟩ := gb
        obtain ⟨h3, h4⟩ : V g i = undef ∧ i ∉ As := by
          rcases hgu i q bq (by rw [ho]; exact hgd) g with ⟨b', h1, h2⟩ | ⟨-, h2, h3⟩
          · have hy := hyield q bq b' hgd h1
            have hne : b' ≠ bq := fun e => hwant (by simp [Region.wanted, hgd, hy, e])
            exact h2 hne
          · exact ⟨h2, h3⟩
        have := keeps g w' hg1 (fun x hx => by have : ¬ x = i := fun e => h4 (e ▸ hx); simp [this]) (fun j _ _ => rfl)
        rw [h3] at this
        exact this
  · intro l a w' h hall
    have hal : ∀ i, i < D.length → on l i = true := fun i hi => by
      have := hall i (by rw [hn]; exact hi)
      simp only [on, Array.getD, h.size, hi, dite_true] at this ⊢
      exact this
    obtain ⟨g, hg1, hg2, hg3⟩ := h.g
    exact hend a w' g h.tsize h.defers h.off hg1 (fun x hx => by
      rw [hg2 x hx]
      exact hal x (by simpa using List.all_eq_true.1 hlt x hx)) fun i d hD => hg3 i d hD (hal i (lt i d hD))

theorem wpIn_region_ghost3 {K : Act → World → Prop} {Q' : Exit → Act → World → Prop} {l id : Nat} {a0 : Act} {w : World} (hm : P.follows .mixedOrders = true) (hdf : ops.all noDefer = true) (D : List (Option Nat)) (hok : regOk ops D a0.tmps.size = true) (V : G → Nat → Value) (As : List Nat) (hgu : ∀ (i g : Nat) (b : Bool), (ops[i]?).bind (fun o : Oper => o.guard) = some (g, b) → ∀ γ, (∃ b', V γ g = .bool b' ∧ (b' ≠ b → V γ i = undef ∧ i ∉ As)) ∨ (V γ g = undef ∧ V γ i = undef ∧ i ∉ As)) (done : G → Nat → Bool) (St : G → World → Prop) (g0 : G) (h0 : St g0 w.drew) (hd0 : ∀ x ∈ As, done g0 x = false) (hlt : As.all (fun x => decide (x < D.length)) = true)
    (hstep : ∀ i, i < D.length → (∀ (g : Nat) (b : Bool), (ops[i]?).bind (fun o : Oper => o.guard) = some (g, b) → ∃ γ, V γ g = .bool b) → YieldsG P ops D V a0 As done St (Exit.then K (fun _ _ _ => False)) i)
    (hend : ∀ a' w' g, a'.tmps.size = a0.tmps.size → a'.defers = a0.defers → (∀ s, some s ∉ D → a'.tmps[s]? = a0.tmps[s]?) → St g w' → (∀ x ∈ As, done g x = true) → (∀ i d, D.getD i none = some d → a'.eval (.tmp d) = V g i) → K a' w') :
    (Code.region id ops true).wpIn (Fence.wide.inRound l) 0 P (Exit.then K Q') a0 w :=
  region_in hm hdf (ghost3_any D hok V As hgu done St g0 h0 hd0 hlt hstep hend)
end
/-- The operations of a region, also of one in the body of a range over a function. -/
def regOpsR (id : Nat) : Code → Option (Array Oper)
  | .region i ops _ => if i = id then some ops else none
  | .seq a b => match regOpsR id a with
    | some o => some o
    | none => regOpsR id b
  | .cond _ a b => match regOpsR id a with
    | some o => some o
    | none => regOpsR id b
  | .block _ c => regOpsR id c
  | .scope c => regOpsR id c
  | .loop c => regOpsR id c
  | .rangeFunc _ _ a b => match regOpsR id a with
    | some o => some o
    | none => regOpsR id b
  | _ => none
def opsR (id : Nat) (b : Option Code) : Array Oper := (b.bind (regOpsR id)).getD #[]
/-- Ahead of and behind a chain of calls: g: how many were done. -/
structure StC (F : List Nat) (w : World) (k : Nat) (A Post : World → Prop) (g : Nat) (x : World) : Prop where
  turned : Turned F w x
  le : g ≤ k
  pre : g < k → A x
  post : g = k → Post x
def doneC (l : List Nat) (g i : Nat) : Bool := decide (l.idxOf i < g)
end Go.Proofs.YtbielnehggcaoaaDoor
/- Drawn regions in which a chain of operations turn the world: what holds behind each. (Nothing of a program.) -/
namespace Go.Proofs.YtbielnehggcaoaaDoor
open Go.RowKit
structure StP (k : Nat) (Ph : Nat → (Nat → Value) → World → Prop) (g : Nat × (Nat → Value)) (x : World) : Prop where
  le : g.1 ≤ k
  ph : Ph g.1 g.2 x
def doneP (l : List Nat) (g : Nat × (Nat → Value)) (i : Nat) : Bool := decide (l.idxOf i < g.1)
section
variable {P : Program} {ops : Array Oper} {Q : Exit → Act → World → Prop} {G : Type}
theorem softL {D : List (Option Nat)} {V : G → Nat → Value} {a0 : Act} {As : List Nat} {done : G → Nat → Bool} {St : G → World → Prop} {i : Nat} (hi : i ∉ As)
    (h : ∀ (o : Oper) (a : Act) (w : World) (g : G), ops[i]? = some o → (∀ s, some s ∉ D → a.eval (.tmp s) = a0.eval (.tmp s)) → (∀ j d, D.getD j none = some d → waitsB ops i j = true → a.eval (.tmp d) = V g j) → St g w → (∀ x ∈ As, reachB ops ops.size i x = true → done g x = true) → (∀ x ∈ As, reachB ops ops.size x i = true → done g x = false) → (execOp a.eval o).run P w = .ok (.value (V g i)) w) : YieldsG P ops D V a0 As done St Q i := by
  intro o a w g K ho hd hs hoff hv hS hdn _ hlt hK
  exact l_val hd (h o a w g ho hoff hv hS hdn hlt) (hK g w hS (fun x hx => by have : ¬ x = i := fun e => hi (e ▸ hx); simp [this]) fun _ _ _ => rfl)
end
section
variable {ρ : Operand → Value} {o : Oper} {w w' : World} {P : Program}
theorem x_bsliceC {t : TypeId} {n : Nat} {ps : Array (Nat × Operand)} {qs : Array (Nat × Value)} {v : Value} (h : o.op = .buildSlice t n ps) (hq : ps.map (fun (i, x) => (i, ρ x)) = qs) (hr : (Instr.buildSlice t n qs).run P w = .ok v w') : (execOp ρ o).run P w = .ok (.value v) w' := by
  subst hq
  simp [execOp, h, hr, Result.andThen]
theorem x_appendC {s y : Operand} {t ty : TypeId} {a b v : Value} (h : o.op = .call { callee := .builtin .append, args := #[s, y], argTypes := #[t, t] }) (hty : o.type = ty) (hs : ρ s = a) (hy : ρ y = b) (hr : (Builtin.append_ #[t, t] ty #[a, b]).run P w = .ok v w') : (execOp ρ o).run P w = .ok (.value v) w' := by
  subst hty hs hy
  simp only [execOp, h, resolve, invoke, builtin, Sem.run_bind, Sem.run_pure, Result.andThen_ok, List.map_toArray, List.map_cons, List.map_nil, hr]
theorem ty_isC {ops : Array Oper} {i : Nat} {t : TypeId} (h : (ops[i]?).map (fun o : Oper => o.type) = some t) (ho : ops[i]? = some o) : o.type = t := by rw [ho] at h; simpa using h
end
/-- A frame that differs from another one in some slots alone is that one with these slots put. -/
theorem act_many (a' : Act) : ∀ (l : List Nat) (a : Act), a.tmps.size = a'.tmps.size → a.defers = a'.defers → (∀ s, s ∉ l → a'.eval (.tmp s) = a.eval (.tmp s)) → a' = l.foldl (fun a s => a.put (some s) (a'.eval (.tmp s))) a
  | [], a, hs, hd, h => by
    obtain ⟨t, d⟩ := a
    obtain ⟨t', d'⟩ := a'
    simp only at hs hd
    subst hd
    show (⟨t', d⟩ : Act) = ⟨t, d⟩
    congr 1
    refine Array.ext hs.symm fun i h1 h2 => ?_
    have := h i (by simp)
    simpa [Act.eval, h1, h2] using this
  | t :: l, a, hs, hd, h => by
    refine act_many a' l (a.put (some t) (a'.eval (.tmp t))) (by simpa [Act.put] using hs) (by simpa [Act.put] using hd) fun s hn => ?_
    by_cases e : s = t
    · subst e
      by_cases hlt : s < a.tmps.size
      · simp [Act.eval, Act.put, hlt, hs ▸ hlt]
      · have hlt' : ¬ s < a'.tmps.size := hs ▸ hlt
        simp [Act.eval, Act.put, hlt, hlt']
    · rw [h s (by simp [e, hn])]
      simp [Act.eval, Act.put, Ne.symm e]
end Go.Proofs.YtbielnehggcaoaaDoor
/- An event is told: the drawn region of a snapshot. (Written by tools/gen/genjz13.py.) -/
set_option linter.unusedVariables false
namespace Go.Proofs.YtbielnehggcaoaaDoor
open Go.RowKit
def tl_r13V (sb eb ub mm uc : Nat) (ga bg en : Int) : Nat × (Nat → Value) → Nat → Value := fun g j => match j with | 0 => (pa eb 0) | 1 => (Value.int IntKind.i64 ga) | 2 => (pa eb 1) | 3 => (Value.int IntKind.i64 bg) | 4 => (pa eb 2) | 5 => (Value.int IntKind.i64 en) | 6 => (pa sb 0) | 7 => (pa sb 0) | 8 => (pa sb 1) | 9 => (Value.slice (some ⟨ub, 0, none⟩) mm uc) | 10 => (g.2 10) | 11 => (Value.agg #[.int .i64 ga, .int .i64 bg, .int .i64 en, .int .i64 4, .int .i64 0, .int .i64 0, .int .i64 0, .bool false, .int .i64 0, .bool false, .int .i64 0, (g.2 10), .slice none 0 0]) | 12 => undef | _ => undef
set_option maxRecDepth 100000 in
set_option maxHeartbeats 1600000 in
theorem tl_r13 {sb eb ub mm uc : Nat} {ga bg en : Int} {Ph : Nat → (Nat → Value) → World → Prop} {K : Act → World → Prop} {Q : Exit → Act → World → Prop} {a0 : Act} {w : World} (hs : a0.tmps.size = 130) (x0 : a0.eval (.tmp 0) = pa sb 0) (x10 : a0.eval (.tmp 10) = pa eb 0) (h0 : ∀ g u x, g ≤ 1 → Ph g u x → x.cell? ⟨eb, 0, none⟩ = some (.int .i64 ga)) (h1 : ∀ g u x, g ≤ 1 → Ph g u x → x.cell? ⟨eb, 1, none⟩ = some (.int .i64 bg)) (h2 : ∀ g u x, g ≤ 1 → Ph g u x → x.cell? ⟨eb, 2, none⟩ = some (.int .i64 en)) (hs1 : ∀ g u x, g ≤ 0 → Ph g u x → x.cell? ⟨sb, 1, none⟩ = some (.slice (some ⟨ub, 0, none⟩) mm uc)) (hU : ∀ g u x, 1 ≤ g → Ph g u x → ∃ a n c, u 10 = .slice a n c) (hA : Ph 0 (fun _ => undef) w.drew)
    (hL0 : ∀ u x, Ph 0 u x → ∃ v w', (Builtin.append_ #[22, 22] 22 #[(Value.slice none 0 0), (Value.slice (some ⟨ub, 0, none⟩) mm uc)]).run Tryd.prog x = .ok v w' ∧ Ph 1 (upd u 10 v) w')
    (hL1 : ∀ u x, Ph 1 u x → ∃ w', (Instr.storeAt 52 (pa eb 0) (Value.agg #[.int .i64 ga, .int .i64 bg, .int .i64 en, .int .i64 4, .int .i64 0, .int .i64 0, .int .i64 0, .bool false, .int .i64 0, .bool false, .int .i64 0, (u 10), .slice none 0 0])).run Tryd.prog x = .ok () w' ∧ Ph 2 u w')
    (hEnd : ∀ a' x u, a'.tmps.size = a0.tmps.size → a'.defers = a0.defers → (∀ s, some s ∉ ([some 108, some 109, some 110, some 111, some 112, some 113, some 114, some 115, some 116, some 117, some 118, some 119, none] : List (Option Nat)) → a'.eval (.tmp s) = a0.eval (.tmp s)) →  Ph 2 u x → K a' x) : (Code.region 13 (opsR 13 Tryd.f27.body) true).wp Tryd.prog (Exit.then K Q) a0 w := by
  refine wp_region_ghost3 (G := Nat × (Nat → Value)) (by kernel_rfl) [some 108, some 109, some 110, some 111, some 112, some 113, some 114, some 115, some 116, some 117, some 118, some 119, none] (by rw [hs]; kernel_rfl) (tl_r13V sb eb ub mm uc ga bg en) [10, 12] ?_ (doneP [10, 12]) (StP 2 Ph) ((0, fun _ => undef)) (⟨Nat.zero_le _, hA⟩) (by intro x hx; simp at hx; rcases hx with rfl | rfl <;> rfl) (by decide) ?_ ?_
  · intro i g b h γ
    have hi : i < 13 := by
      apply Classical.byContradiction
      intro hn
      rw [show (opsR 13 Tryd.f27.body)[i]? = none from Array.getElem?_eq_none (by have : (opsR 13 Tryd.f27.body).size = 13 := (by kernel_rfl); omega)] at h
      cases h
    rcases (by omega : i = 0 ∨ i = 1 ∨ i = 2 ∨ i = 3 ∨ i = 4 ∨ i = 5 ∨ i = 6 ∨ i = 7 ∨ i = 8 ∨ i = 9 ∨ i = 10 ∨ i = 11 ∨ i = 12) with rfl | rfl | rfl | rfl | rfl | rfl | rfl | rfl | rfl | rfl | rfl | rfl | rfl
    · rw [show ((opsR 13 Tryd.f27.body)[0]?).bind (fun o : Oper => o.guard) = none from by kernel_rfl] at h
      cases h
    · rw [show ((opsR 13 Tryd.f27.body)[1]?).bind (fun o : Oper => o.guard) = none from by kernel_rfl] at h
      cases h
    · rw [show ((opsR 13 Tryd.f27.body)[2]?).bind (fun o : Oper => o.guard) = none from by kernel_rfl] at h
      cases h
    · rw [show ((opsR 13 Tryd.f27.body)[3]?).bind (fun o : Oper => o.guard) = none from by kernel_rfl] at h
      cases h
    · rw [show ((opsR 13 Tryd.f27.body)[4]?).bind (fun o : Oper => o.guard) = none from by kernel_rfl] at h
      cases h
    · rw [show ((opsR 13 Tryd.f27.body)[5]?).bind (fun o : Oper => o.guard) = none from by kernel_rfl] at h
      cases h
    · rw [show ((opsR 13 Tryd.f27.body)[6]?).bind (fun o : Oper => o.guard) = none from by kernel_rfl] at h
      cases h
    · rw [show ((opsR 13 Tryd.f27.body)[7]?).bind (fun o : Oper => o.guard) = none from by kernel_rfl] at h
      cases h
    · rw [show ((opsR 13 Tryd.f27.body)[8]?).bind (fun o : Oper => o.guard) = none from by kernel_rfl] at h
      cases h
    · rw [show ((opsR 13 Tryd.f27.body)[9]?).bind (fun o : Oper => o.guard) = none from by kernel_rfl] at h
      cases h
    · rw [show ((opsR 13 Tryd.f27.body)[10]?).bind (fun o : Oper => o.guard) = none from by kernel_rfl] at h
      cases h
    · rw [show ((opsR 13 Tryd.f27.body)[11]?).bind (fun o : Oper => o.guard) = none from by kernel_rfl] at h
      cases h
    · rw [show ((opsR 13 Tryd.f27.body)[12]?).bind (fun o : Oper => o.guard) = none from by kernel_rfl] at h
      cases h
  · intro i hi hgd
    rcases (by simp at hi; omega : i = 0 ∨ i = 1 ∨ i = 2 ∨ i = 3 ∨ i = 4 ∨ i = 5 ∨ i = 6 ∨ i = 7 ∨ i = 8 ∨ i = 9 ∨ i = 10 ∨ i = 11 ∨ i = 12) with rfl | rfl | rfl | rfl | rfl | rfl | rfl | rfl | rfl | rfl | rfl | rfl | rfl
    · refine soft (by decide) ?_
      intro o ac wa g ho hoff hv hS hdn
      exact x_field (op_is rfl ho) (by rw [((hoff 10 (by decide)).trans x10)]; show (Instr.fieldAt _ (pa _ _) _).run _ _ = .ok (pa _ _) _; unfold pa; go_simp)
    · refine softL (by decide) ?_
      intro o ac wa g ho hoff hv hS hdn hlt
      have hg : g.1 ≤ 1 := by have := hlt 12 (by simp) (by kernel_rfl); simpa [doneP, List.idxOf, List.findIdx, List.findIdx.go] using this
      have hc := (h0 _ _ _ hg hS.ph)
      exact x_load (op_is rfl ho) (by rw [(hv 0 108 rfl (by kernel_rfl))]; show (Instr.loadAt _ (pa _ _)).run _ _ = _; unfold pa; go_simp; first | rfl | skip)
    · refine soft (by decide) ?_
      intro o ac wa g ho hoff hv hS hdn
      exact x_field (op_is rfl ho) (by rw [((hoff 10 (by decide)).trans x10)]; show (Instr.fieldAt _ (pa _ _) _).run _ _ = .ok (pa _ _) _; unfold pa; go_simp)
    · refine softL (by decide) ?_
      intro o ac wa g ho hoff hv hS hdn hlt
      have hg : g.1 ≤ 1 := by have := hlt 12 (by simp) (by kernel_rfl); simpa [doneP, List.idxOf, List.findIdx, List.findIdx.go] using this
      have hc := (h1 _ _ _ hg hS.ph)
      exact x_load (op_is rfl ho) (by rw [(hv 2 110 rfl (by kernel_rfl))]; show (Instr.loadAt _ (pa _ _)).run _ _ = _; unfold pa; go_simp; first | rfl | skip)
    · refine soft (by decide) ?_
      intro o ac wa g ho hoff hv hS hdn
      exact x_field (op_is rfl ho) (by rw [((hoff 10 (by decide)).trans x10)]; show (Instr.fieldAt _ (pa _ _) _).run _ _ = .ok (pa _ _) _; unfold pa; go_simp)
    · refine softL (by decide) ?_
      intro o ac wa g ho hoff hv hS hdn hlt
      have hg : g.1 ≤ 1 := by have := hlt 12 (by simp) (by kernel_rfl); simpa [doneP, List.idxOf, List.findIdx, List.findIdx.go] using this
      have hc := (h2 _ _ _ hg hS.ph)
      exact x_load (op_is rfl ho) (by rw [(hv 4 112 rfl (by kernel_rfl))]; show (Instr.loadAt _ (pa _ _)).run _ _ = _; unfold pa; go_simp; first | rfl | skip)
    · refine soft (by decide) ?_
      intro o ac wa g ho hoff hv hS hdn
      exact (x_move (op_is rfl ho)).trans (by rw [((hoff 0 (by decide)).trans x0)]; rfl)
    · refine soft (by decide) ?_
      intro o ac wa g ho hoff hv hS hdn
      exact x_nil (op_is rfl ho) ((hv 6 114 rfl (by kernel_rfl)))
    · refine soft (by decide) ?_
      intro o ac wa g ho hoff hv hS hdn
      exact x_field (op_is rfl ho) (by rw [(hv 7 115 rfl (by kernel_rfl))]; show (Instr.fieldAt _ (pa _ _) _).run _ _ = .ok (pa _ _) _; unfold pa; go_simp)
    · refine softL (by decide) ?_
      intro o ac wa g ho hoff hv hS hdn hlt
      have hg : g.1 ≤ 0 := by have := hlt 10 (by simp) (by kernel_rfl); simpa [doneP, List.idxOf, List.findIdx, List.findIdx.go] using this
      have hc := (hs1 _ _ _ hg hS.ph)
      exact x_load (op_is rfl ho) (by rw [(hv 8 116 rfl (by kernel_rfl))]; show (Instr.loadAt _ (pa _ _)).run _ _ = _; unfold pa; go_simp; first | rfl | skip)
    · intro o ac wa g K ho hd _ hoff hv hS hpre hnd hlater hK
      have h1 : g.1 ≤ 0 := by have := hnd (by simp); simpa [doneP, List.idxOf, List.findIdx, List.findIdx.go] using this
      have hg : g.1 = 0 := by omega
      obtain ⟨g1, u⟩ := g
      simp only at hg
      subst hg
      obtain ⟨v, w', hr', hp⟩ := hL0 u wa hS.ph
      refine l_val hd (x_appendC (op_is rfl ho) (ty_isC rfl ho) (rfl) ((hv 9 117 rfl (by kernel_rfl))) hr') ?_
      refine hK (1, upd u 10 v) w' ⟨by simp, hp⟩ (by intro x hx; simp at hx; rcases hx with rfl | rfl <;> simp [doneP, List.idxOf, List.findIdx, List.findIdx.go]) fun j hj hr => ?_
      match j, hr with
      | 0, _ => rfl
      | 1, _ => rfl
      | 2, _ => rfl
      | 3, _ => rfl
      | 4, _ => rfl
      | 5, _ => rfl
      | 6, _ => rfl
      | 7, _ => rfl
      | 8, _ => rfl
      | 9, _ => rfl
      | 10, _ => exact absurd rfl hj
      | 11, hr => exact absurd (hr.symm.trans (by kernel_rfl : reachB (opsR 13 Tryd.f27.body) (opsR 13 Tryd.f27.body).size 11 10 = true)) (by decide)
      | 12, _ => rfl
      | q + 13, _ => rfl
    · refine soft (by decide) ?_
      intro o ac wa g ho hoff hv hS hdn
      have hg1 : 1 ≤ g.1 := by have := hdn 10 (by simp) (by kernel_rfl); simp [doneP, List.idxOf, List.findIdx, List.findIdx.go] at this; omega
      obtain ⟨ua, un, uc2, hu⟩ := hU _ _ _ hg1 hS.ph
      exact x_build1Z (op_is rfl ho) (qs := #[(0, .int .i64 ga), (1, .int .i64 bg), (2, .int .i64 en), (3, .int .i64 4), (11, g.2 10)]) (by simp only [List.map_toArray, List.map_cons, List.map_nil]; rw [(hv 1 109 rfl (by kernel_rfl)), (hv 3 111 rfl (by kernel_rfl)), (hv 5 113 rfl (by kernel_rfl)), (hv 10 118 rfl (by kernel_rfl))]; rfl) (by show _ = Result.ok (Value.agg #[.int .i64 ga, .int .i64 bg, .int .i64 en, .int .i64 4, .int .i64 0, .int .i64 0, .int .i64 0, .bool false, .int .i64 0, .bool false, .int .i64 0, (g.2 10), .slice none 0 0]) _; rw [hu]; go_simp)
    · intro o ac wa g K ho hd _ hoff hv hS hpre hnd hlater hK
      have h1 : g.1 ≤ 1 := by have := hnd (by simp); simpa [doneP, List.idxOf, List.findIdx, List.findIdx.go] using this
      have h2 : 1 ≤ g.1 := by have := hpre 10 (by simp) (by kernel_rfl); simp [doneP, List.idxOf, List.findIdx, List.findIdx.go] at this; omega
      have hg : g.1 = 1 := by omega
      obtain ⟨g1, u⟩ := g
      simp only at hg
      subst hg
      obtain ⟨w', hr', hp⟩ := hL1 u wa hS.ph
      refine l_skip hd (x_store (op_is rfl ho) (by rw [((hoff 10 (by decide)).trans x10), (hv 11 119 rfl (by kernel_rfl))]; exact hr')) ?_
      refine hK (2, u) w' ⟨by simp, hp⟩ (by intro x hx; simp at hx; rcases hx with rfl | rfl <;> simp [doneP, List.idxOf, List.findIdx, List.findIdx.go]) fun j hj hr => ?_
      match j, hr with
      | 0, _ => rfl
      | 1, _ => rfl
      | 2, _ => rfl
      | 3, _ => rfl
      | 4, _ => rfl
      | 5, _ => rfl
      | 6, _ => rfl
      | 7, _ => rfl
      | 8, _ => rfl
      | 9, _ => rfl
      | 10, _ => rfl
      | 11, _ => rfl
      | 12, _ => exact absurd rfl hj
      | q + 13, _ => rfl
  · intro a' w' g hsz hdf hoff hS hdn hval
    obtain ⟨g1, u⟩ := g
    have hg : g1 = 2 := by have h := hdn 12 (by simp); simp [doneP, List.idxOf, List.findIdx, List.findIdx.go] at h; have := hS.le; simp only at this; omega
    subst hg
    exact hEnd a' w' u hsz hdf (fun s hs => ev_same (hoff s hs))  hS.ph
end Go.Proofs.YtbielnehggcaoaaDoor
/-
  An event is told: a snapshot of all numbers. (By the verifier; no statement.)
-/
namespace Go.Proofs.YtbielnehggcaoaaDoor
open Go.RowKit
section
variable {tb sb ub nb uc nc m : Nat} {Ms : List Nat} {W1 w x3 : World} {nu : Nat → Int} {ho : Nat → Hold} {lv : Value} {D : List Ev} {eb : Nat}
theorem turned13 {v0 v1 v2 v3 v4 v5 v6 v7 v8 v9 v10 v11 v12 : Value} : Turned [eb] w (((((((((((((w.setCell ⟨eb, 0, none⟩ v0).setCell ⟨eb, 1, none⟩ v1).setCell ⟨eb, 2, none⟩ v2).setCell ⟨eb, 3, none⟩ v3).setCell ⟨eb, 4, none⟩ v4).setCell ⟨eb, 5, none⟩ v5).setCell ⟨eb, 6, none⟩ v6).setCell ⟨eb, 7, none⟩ v7).setCell ⟨eb, 8, none⟩ v8).setCell ⟨eb, 9, none⟩ v9).setCell ⟨eb, 10, none⟩ v10).setCell ⟨eb, 11, none⟩ v11).setCell ⟨eb, 12, none⟩ v12) :=
  ((((((((((((((Turned.refl [eb] w).set (.inl (by simp)) 0 v0).set (.inl (by simp)) 1 v1).set (.inl (by simp)) 2 v2).set (.inl (by simp)) 3 v3).set (.inl (by simp)) 4 v4).set (.inl (by simp)) 5 v5).set (.inl (by simp)) 6 v6).set (.inl (by simp)) 7 v7).set (.inl (by simp)) 8 v8).set (.inl (by simp)) 9 v9).set (.inl (by simp)) 10 v10).set (.inl (by simp)) 11 v11).set (.inl (by simp)) 12 v12)
set_option maxHeartbeats 1600000 in
set_option maxRecDepth 100000 in
theorem run_storeS {v0 v1 v2 v3 v4 v5 v6 v7 v8 v9 v10 v11 v12 : Value} {ga bg en : Int} {a : Option Addr} {n c : Nat} (h : ME tb sb ub nb uc nc m Ms W1 w nu ho lv D eb #[v0, v1, v2, v3, v4, v5, v6, v7, v8, v9, v10, v11, v12]) : ∃ w', (Instr.storeAt 52 (pa eb 0) (.agg #[.int .i64 ga, .int .i64 bg, .int .i64 en, .int .i64 4, .int .i64 0, .int .i64 0, .int .i64 0, .bool false, .int .i64 0, .bool false, .int .i64 0, .slice a n c, .slice none 0 0])).run Tryd.prog w = .ok () w' ∧ ME tb sb ub nb uc nc m Ms W1 w' nu ho lv D eb #[.int .i64 ga, .int .i64 bg, .int .i64 en, .int .i64 4, .int .i64 0, .int .i64 0, .int .i64 0, .bool false, .int .i64 0, .bool false, .int .i64 0, .slice a n c, .slice none 0 0] ∧ Turned [eb] w w' := by
  obtain ⟨el, e0, e1, e2, e3, e4, e5, e6, e7, e8, e9, e10, e11, e12, f0, f1, f2, f3, f4, f5, f6, f7, f8, f9, f10, f11, f12⟩ := h.zcells
  unfold pa
  refine ⟨_, ?_, h.sets13, turned13⟩
  go_simp
/-- What holds behind the steps of a snapshot's region. -/
def PhS (tb sb ub nb uc nc m : Nat) (Ms : List Nat) (W1 : World) (nu : Nat → Int) (ho : Nat → Hold) (lv : Value) (D : List Ev) (eb : Nat) (x3 : World) (ga bg en : Int) (NS : List Int) : Nat → (Nat → Value) → World → Prop
  | 0, _, x => Turned [] x3 x
  | 1, u, x => Turned [] x3 x ∧ ∃ a c, u 10 = .slice a NS.length c ∧ OW 3 1 (fun q : Int => [Value.int .i64 q]) x3.heap.size x (.slice a NS.length c) NS
  | _, u, x => ∃ a c, u 10 = .slice a NS.length c ∧ ME tb sb ub nb uc nc m Ms W1 x nu ho lv D eb #[.int .i64 ga, .int .i64 bg, .int .i64 en, .int .i64 4, .int .i64 0, .int .i64 0, .int .i64 0, .bool false, .int .i64 0, .bool false, .int .i64 0, .slice a NS.length c, .slice none 0 0] ∧ OW 3 1 (fun q : Int => [Value.int .i64 q]) W1.heap.size x (.slice a NS.length c) NS
set_option maxHeartbeats 1600000 in
set_option maxRecDepth 100000 in
theorem tl_snap {v3 v4 v5 v6 v7 v8 v9 v10 v11 v12 : Value} {ga bg en : Int} {K : Act → World → Prop} {Q : Exit → Act → World → Prop} {a0 : Act} (hs : a0.tmps.size = 130) (x0 : a0.eval (.tmp 0) = pa sb 0) (x10 : a0.eval (.tmp 10) = pa eb 0) (hE : ME tb sb ub nb uc nc m Ms W1 x3 nu ho lv D eb #[.int .i64 ga, .int .i64 bg, .int .i64 en, v3, v4, v5, v6, v7, v8, v9, v10, v11, v12]) (hm : m ≤ 1000)
    (hEnd : ∀ a' x a c, a'.tmps.size = a0.tmps.size → a'.defers = a0.defers → (∀ s, s ∉ [108, 109, 110, 111, 112, 113, 114, 115, 116, 117, 118, 119] → a'.eval (.tmp s) = a0.eval (.tmp s)) → ME tb sb ub nb uc nc m Ms W1 x nu ho lv D eb #[.int .i64 ga, .int .i64 bg, .int .i64 en, .int .i64 4, .int .i64 0, .int .i64 0, .int .i64 0, .bool false, .int .i64 0, .bool false, .int .i64 0, .slice a m c, .slice none 0 0] → OW 3 1 (fun q : Int => [Value.int .i64 q]) W1.heap.size x (.slice a m c) ((List.range m).map nu) → K a' x) : (Code.region 13 (opsR 13 Tryd.f27.body) true).wp Tryd.prog (Exit.then K Q) a0 x3 := by
  have hV := hE.my.nuv
  have hlen : ((List.range m).map nu).length = m := by rw [List.length_map, List.length_range]
  have hlow : W1.heap.size ≤ x3.heap.size := hE.my.tu.size
  have hel : eb < x3.heap.size := lt_of_heap hE.ev
  have hce : ∀ x, Turned [] x3 x → x.cell? ⟨eb, 0, none⟩ = some (.int .i64 ga) ∧ x.cell? ⟨eb, 1, none⟩ = some (.int .i64 bg) ∧ x.cell? ⟨eb, 2, none⟩ = some (.int .i64 en) := fun x hx => by
    obtain ⟨-, e0, e1, e2, -⟩ := (hE.still hx).zcells
    exact ⟨e0, e1, e2⟩
  have hph : ∀ g u x, g ≤ 1 → PhS tb sb ub nb uc nc m Ms W1 nu ho lv D eb x3 ga bg en ((List.range m).map nu) g u x → Turned [] x3 x := fun g u x hg h => by
    rcases (by omega : g = 0 ∨ g = 1) with rfl | rfl
    · exact h
    · exact h.1
  refine tl_r13 (Ph := PhS tb sb ub nb uc nc m Ms W1 nu ho lv D eb x3 ga bg en ((List.range m).map nu)) hs x0 x10 (fun g u x hg h => (hce x (hph g u x hg h)).1) (fun g u x hg h => (hce x (hph g u x hg h)).2.1) (fun g u x hg h => (hce x (hph g u x hg h)).2.2) (fun g u x hg h => ((hE.still (hph g u x (by omega) h)).my.cells).2.2.1) ?_ (Turned.refl _ _).drew ?_ ?_ ?_
  · intro g u x hg h
    obtain ⟨k, rfl⟩ : ∃ k, g = k + 1 := ⟨g - 1, by omega⟩
    cases k with
    | zero => obtain ⟨-, a, c, h1, -⟩ := h; exact ⟨a, _, c, h1⟩
    | succ k => obtain ⟨a, c, h1, -⟩ := h; exact ⟨a, _, c, h1⟩
  · intro u x hx
    have hx : Turned [] x3 x := hx
    obtain ⟨v', w', hrun, q2, q3, q4⟩ := run_apO elI enI (ty := 22) (B := x3.heap.size) (R := []) (M := (List.range m).map nu) (OW.nil _ _ _ _ _) (hV.still hx) (by rw [hlen]; simp only [List.length_nil]; omega) hx.size
    obtain ⟨a, c, rfl⟩ := q2.slice
    exact ⟨_, w', hrun, Turned.trans (l := []) hx q3, a, c, by simp [upd], q2⟩
  · intro u x hx
    obtain ⟨h1, a, c, h2, h3⟩ := hx
    obtain ⟨w', hr, hm2, ht⟩ := run_storeS (ga := ga) (bg := bg) (en := en) (a := a) (n := ((List.range m).map nu).length) (c := c) (hE.still h1)
    rw [h2]
    exact ⟨w', hr, a, c, h2, hm2, (h3.keep ht fun g hg hm3 => by have := (h3.fresh hg).1; rw [List.mem_singleton.1 hm3] at this; omega).lower hlow⟩
  · intro a' x u hsz hdf hoff h
    obtain ⟨a, c, -, h2, h3⟩ := h
    rw [hlen] at h2 h3
    exact hEnd a' x a c hsz hdf (fun s hs2 => hoff s (fun hq => hs2 (by simpa using hq))) h2 h3
end
end Go.Proofs.YtbielnehggcaoaaDoor
/-
  An event is told; by contract. (By the verifier; no statement.)
-/
namespace Go.Proofs.YtbielnehggcaoaaDoor
open Go.RowKit
theorem wr64 {a : Int} (h0 : -1000000 ≤ a) (h1 : a ≤ 1000000) : IntKind.i64.wrap a = a := by
  simp [IntKind.wrap, IntKind.bits, IntKind.signed]
  omega
set_option maxRecDepth 100000 in
set_option maxHeartbeats 12800000 in
theorem cTells {tb sb ub nb uc nc m : Nat} {Ms : List Nat} {W1 x : World} {S : List (List (Int × Int))} {lv : Value} {D : List Ev} (h : MY tb sb ub nb uc nc m Ms W1 x (fun p => (nuL D p : Int)) (fun p => hoL (firstH S p) D p) lv D) (hS : SM S D) (hmS : m = S.length) (hm : 0 < m) (hm4 : m ≤ 4) (hD : D.length < 1000) :
    Calls Tryd.prog 27 #[.pointer (some ⟨sb, 0, none⟩), .pointer (some ⟨tb, 0, none⟩), .int .i64 (1 + 3 * (D.length : Int))] x fun r x' => r = .returned (.tuple #[]) ∧ ∃ lv' e, MY tb sb ub nb uc nc m Ms W1 x' (fun p => (nuL (D ++ [e]) p : Int)) (fun p => hoL (firstH S p) (D ++ [e]) p) lv' (D ++ [e]) ∧ SM S (D ++ [e]) := by
  have H0 : Hid _ := h
  have HSm : Hid (SM S D) := hS
  have HmS : Hid (m = S.length) := hmS
  obtain ⟨t, ht⟩ : ∃ t : Int, t = 1 + 3 * (D.length : Int) := ⟨_, rfl⟩
  have HT : Hid (t = 1 + 3 * (D.length : Int)) := ht
  have ht1 : 1 ≤ t := by omega
  have ht2 : t ≤ 4000 := by omega
  rw [← ht]
  clear h hS ht hmS
  obtain ⟨z1, z2, z3, z4, z5⟩ := H0.out.cells
  go_enter Tryd.func27, Tryd.ntmps27
  go_wp2_with (fail)
  refine (H0.out.next (by omega) (by omega)).mono ?_
  rintro r x1 ⟨q, rfl, q0, q1, h1, -⟩
  obtain ⟨p, rfl⟩ : ∃ p : Nat, q = p := ⟨q.toNat, by omega⟩
  have hp : p < m := by omega
  have H1 : Hid _ := h1
  clear h1 H0 z1 z2 z3 z4 z5 q0 q1
  go_wp2_with (fail)
  refine (H1.out.next (by omega) (by omega)).mono ?_
  rintro r x2 ⟨key, rfl, k0, k1, h2, -⟩
  have H2 : Hid _ := h2
  clear h2 H1 k0 k1
  obtain ⟨z1, z2, z3, z4, z5⟩ := H2.out.cells
  obtain ⟨y1, y2⟩ := H2.out.celln hp
  have hlook := HM.lookS (H2.out.maps p hp) key
  obtain ⟨g1, g2, g3⟩ := in_i64 hp (by omega)
  generalize hmp : Ms.getD p 0 = mp at y2 hlook
  have HMp : Hid (Ms.getD p 0 = mp) := hmp
  clear hmp
  have HHb : Hid (∀ v, hoL (firstH S p) D p key = some v → 0 ≤ v ∧ v < 1000) := fun v hv => HSm.out.hb _ _ _ hv
  generalize hfh : hoL (firstH S p) D p key = fh at hlook HHb
  have HFh : Hid (hoL (firstH S p) D p key = fh) := hfh
  clear hfh
  generalize hfv : fh.getD 0 = fv at hlook
  have HFv : Hid (fh.getD 0 = fv) := hfv
  generalize hfb : fh.isSome = fb at hlook
  have HFb : Hid (fh.isSome = fb) := hfb
  clear hfv hfb
  go_upto_region 2 with fail
  clear z1 z2 z3 z4 z5 y1 y2 hlook
  refine tl_r2 rfl rfl rfl rfl rfl rfl rfl rfl H2.out hp g1 g2 g3 ?_
  intro a' x3 g eb hsz hdf hoff hv hE ha hb hc hd
  obtain ⟨gn, ga, gb, gc, gd, geb, gst⟩ := g
  simp only at ha hb hc hd
  obtain ⟨bg, hbg⟩ : ∃ bg, max (t - gb) 1 = bg := ⟨_, rfl⟩
  obtain ⟨en, hen⟩ : ∃ en, t + gc = en := ⟨_, rfl⟩
  obtain ⟨kk, hkk⟩ : ∃ kk, 1 + gd = kk := ⟨_, rfl⟩
  obtain ⟨np, hnp⟩ : ∃ np : Nat, nuL D p = np := ⟨_, rfl⟩
  have HE : Hid (ME tb sb ub nb uc nc m Ms W1 x3 (fun p => (nuL D p : Int)) (fun p => hoL (firstH S p) D p) lv D eb #[.int .i64 ga, .int .i64 bg, .int .i64 en, .int .i64 kk, .int .i64 (p : Int), .int .i64 key, .int .i64 (np : Int), .bool fb, .int .i64 fv, .bool false, .int .i64 0, .slice none 0 0, .slice none 0 0]) := by
    unfold finC at hE
    simp only at hE
    rw [wr64 (show -1000000 ≤ t - gb by omega) (by omega), wr64 (show -1000000 ≤ t + gc by omega) (by omega), wr64 (show -1000000 ≤ 1 + gd by omega) (by omega), hbg, hen, hkk, hnp] at hE
    exact hE
  have HTm : Hid (1 ≤ bg ∧ bg ≤ t ∧ t ≤ en) := by
    rw [Hid]
    omega
  have HKk : Hid (1 ≤ kk ∧ kk < 5) := by
    rw [Hid]
    omega
  have HNp : Hid (nuL D p = np) := hnp
  have hnp2 : np ≤ 1001 := by
    have := (nu_len D p).2
    omega
  have E := act_many a' [32, 33, 34, 35, 36, 37, 38, 39, 40, 41, 42, 43, 44, 45, 46, 47, 48, 49, 50, 51, 52, 53, 54, 55, 56, 57, 10] _ hsz.symm hdf.symm (fun s hs => hoff s (fun h => hs (by simpa using h)))
  rw [E]
  clear E hoff hsz hdf hE ha hb hc hd hbg hen hkk hnp H2
  simp only [List.foldl, Act.put, List.setIfInBounds_toArray, List.set_cons_zero, List.set_cons_succ, hv]
  clear hv
  unfold pa
  obtain ⟨el, e0, e1, e2, e3, e4, e5, e6, e7, e8, e9, e10, e11, e12, f0, f1, f2, f3, f4, f5, f6, f7, f8, f9, f10, f11, f12⟩ := HE.out.zcells
  clear e0 e1 e2 e4 e5 e6 e7 e8 e9 e10 e11 e12 f0 f1 f2 f3 f4 f5 f6 f7 f8 f9 f10 f11 f12
  by_cases hk2 : kk = 2
  · subst hk2
    obtain ⟨z1, z2, z3, z4, z5⟩ := HE.out.my.cells
    obtain ⟨y1, y2, y3⟩ := HE.out.my.cellu hp
    rw [HNp.out] at y2
    have hw1 : IntKind.i64.wrap ((np : Int) + 1) = (np : Int) + 1 := wr64 (by omega) (by omega)
    go_upto_region 6 with fail
    have HE2 : Hid _ := HE.out.setnu hp ((np : Int) + 1)
    generalize x3.setCell ⟨ub, p, none⟩ (.int .i64 ((np : Int) + 1)) = x4 at HE2 ⊢
    clear z1 z2 z3 z4 z5 y1 y2 y3 el e3 HE
    obtain ⟨z1, z2, z3, z4, z5⟩ := HE2.out.my.cells
    obtain ⟨y1, y2, y3⟩ := HE2.out.my.cellu hp
    rw [if_pos rfl] at y2
    obtain ⟨el, -, -, -, -, -, -, e6, -, -, -, -, -, -, -, -, -, -, -, -, f6, -, -, -, -, -, -⟩ := HE2.out.zcells
    go_upto_region 7 with fail
    have HE3 : Hid _ := HE2.out.set 6 (.int .i64 ((np : Int) + 1))
    generalize x4.setCell ⟨eb, 6, none⟩ (.int .i64 ((np : Int) + 1)) = x5 at HE3 ⊢
    clear z1 z2 z3 z4 z5 y1 y2 y3 el e6 f6 HE2
    obtain ⟨z1, z2, z3, z4, z5⟩ := HE3.out.my.cells
    obtain ⟨y1, y2⟩ := HE3.out.my.celln hp
    rw [HMp.out] at y2
    obtain ⟨x6, hdel, hT2, hM2⟩ := HM.delS (ty := 0) (HE3.out.my.maps p hp) key
    rw [HMp.out] at hdel
    have HE4 : Hid _ := HE3.out.setmap hp hT2 hM2
    clear hT2 hM2 HE3
    go_wp2_with (fail)
    refine (HE4.out.next (by decide) (by decide)).mono ?_
    rintro r x7 ⟨q3, rfl, a0, a1, h7⟩
    have HE5 : Hid _ := h7
    clear h7 HE4 z1 z2 z3 z4 z5 y1 y2 hdel hw1
    obtain ⟨el, -, -, -, -, -, -, -, -, -, e9, -, -, -, -, -, -, -, -, -, -, -, -, f9, -, -, -⟩ := HE5.out.zcells
    by_cases hq3 : 0 < q3
    · have dq : decide (0 < q3) = true := decide_eq_true hq3
      go_upto_region 9 with fail
      have HE6 : Hid _ := HE5.out.set 9 (.bool true)
      generalize x7.setCell ⟨eb, 9, none⟩ (.bool true) = x8 at HE6 ⊢
      clear el e9 f9 HE5
      obtain ⟨el, -, -, -, -, -, -, -, -, -, e9, -, -, -, -, -, -, -, -, -, -, -, -, -, -, -, -⟩ := HE6.out.zcells
      go_wp2_with (fail)
      refine (HE6.out.next (by decide) (by decide)).mono ?_
      rintro r x9 ⟨nv, rfl, b0, b1, h9⟩
      have HE7 : Hid _ := h9
      clear h9 HE6 el e9
      obtain ⟨el, -, -, -, -, -, -, -, -, -, -, e10, -, -, -, -, -, -, -, -, -, -, -, -, f10, -, -⟩ := HE7.out.zcells
      go_upto_region 11 with fail
      have HE8 : Hid _ := HE7.out.set 10 (.int .i64 nv)
      generalize x9.setCell ⟨eb, 10, none⟩ (.int .i64 nv) = x10 at HE8 ⊢
      clear el e10 f10 HE7
      obtain ⟨z1, z2, z3, z4, z5⟩ := HE8.out.my.cells
      obtain ⟨y1, y2⟩ := HE8.out.my.celln hp
      rw [HMp.out] at y2
      obtain ⟨el, -, -, -, -, -, -, -, -, -, -, e10, -, -, -, -, -, -, -, -, -, -, -, -, -, -, -⟩ := HE8.out.zcells
      obtain ⟨x12, hput, hT2, hM2⟩ := HM.putS (HE8.out.drewE.my.maps p hp) key nv
      rw [HMp.out] at hput
      have HE9 : Hid _ := HE8.out.drewE.setmap hp hT2 hM2
      clear hT2 hM2 HE8
      go_region
      clear z1 z2 z3 z4 z5 y1 y2 el e10 hput
      go_upto_region 14 with fail
      show Code.wp Tryd.prog (atc Tryd.f27.body [1, 1, 1, 1]) _ _ _
      refine tl_r14 (e := ⟨ga, bg, en, 2, p, key, (np : Int) + 1, fb, fv, true, nv, [], []⟩) (sa := (none, 0, 0)) (sq := (none, 0, 0)) rfl rfl rfl rfl (by have h := HE9.out; simpa [evA, slV] using h) (OW.nil _ _ _ _ _) (OW.nil _ _ _ _ _) (by omega) ?_
      intro a' x' lv' hd hM
      have HF : Hid _ := hM
      clear hM HE9
      have hsm : SM S (D ++ [⟨ga, bg, en, 2, p, key, (np : Int) + 1, fb, fv, true, nv, [], []⟩]) := sm_next (p := p) HSm.out hD (by rw [← HmS.out]; exact hp) (by rw [← HT.out]; exact HTm.out) (.inr ⟨rfl, by rw [HNp.out]⟩) (by rw [HFh.out]; exact HFb.out) (by rw [HFh.out]; exact HFv.out) (fun _ => by omega)
      refine bodyPost_end (results_none rfl _ _ _) hd ⟨rfl, lv', ⟨ga, bg, en, 2, p, key, (np : Int) + 1, fb, fv, true, nv, [], []⟩, ?_, hsm⟩
      rw [← nu_write (e := ⟨ga, bg, en, 2, p, key, (np : Int) + 1, fb, fv, true, nv, [], []⟩) rfl rfl HNp.out, ← ho_write (f := (hoL (firstH S p) D p).put key nv) (e := ⟨ga, bg, en, 2, p, key, (np : Int) + 1, fb, fv, true, nv, [], []⟩) rfl rfl rfl]
      refine HF.out.re (fun q => ?_)
      by_cases hq : q = p
      · subst hq
        rw [if_pos rfl, if_pos rfl, put_del]
      · simp only [if_neg hq]
    · have dq : decide (0 < q3) = false := decide_eq_false hq3
      go_upto_region 9 with fail
      have HE6 : Hid _ := HE5.out.set 9 (.bool false)
      generalize x7.setCell ⟨eb, 9, none⟩ (.bool false) = x8 at HE6 ⊢
      clear el e9 f9 HE5
      obtain ⟨el, -, -, -, -, -, -, -, -, -, e9, -, -, -, -, -, -, -, -, -, -, -, -, -, -, -, -⟩ := HE6.out.zcells
      go_upto_region 14 with fail
      show Code.wp Tryd.prog (atc Tryd.f27.body [1, 1, 1, 1]) _ _ _
      refine tl_r14 (e := ⟨ga, bg, en, 2, p, key, (np : Int) + 1, fb, fv, false, 0, [], []⟩) (sa := (none, 0, 0)) (sq := (none, 0, 0)) rfl rfl rfl rfl (by have h := HE6.out; simpa [evA, slV] using h) (OW.nil _ _ _ _ _) (OW.nil _ _ _ _ _) (by omega) ?_
      intro a' x' lv' hd hM
      have HF : Hid _ := hM
      clear hM HE6 el e9
      have hsm : SM S (D ++ [⟨ga, bg, en, 2, p, key, (np : Int) + 1, fb, fv, false, 0, [], []⟩]) := sm_next (p := p) HSm.out hD (by rw [← HmS.out]; exact hp) (by rw [← HT.out]; exact HTm.out) (.inr ⟨rfl, by rw [HNp.out]⟩) (by rw [HFh.out]; exact HFb.out) (by rw [HFh.out]; exact HFv.out) (fun h => by cases h)
      refine bodyPost_end (results_none rfl _ _ _) hd ⟨rfl, lv', ⟨ga, bg, en, 2, p, key, (np : Int) + 1, fb, fv, false, 0, [], []⟩, ?_, hsm⟩
      rw [← nu_write (e := ⟨ga, bg, en, 2, p, key, (np : Int) + 1, fb, fv, false, 0, [], []⟩) rfl rfl HNp.out, ← ho_write (f := (hoL (firstH S p) D p).del key) (e := ⟨ga, bg, en, 2, p, key, (np : Int) + 1, fb, fv, false, 0, [], []⟩) rfl rfl rfl]
      refine HF.out.re (fun q => ?_)
      by_cases hq : q = p
      · subst hq
        rw [if_pos rfl]
      · simp only [if_neg hq]
  · have d2 : (kk == 2) = false := by simpa using hk2
    by_cases hk4 : kk = 4
    · subst hk4
      go_upto_region 13 with fail
      refine wp_thenN ?_
      refine tl_snap rfl rfl rfl HE.out (by omega) ?_
      intro a2 x5 sa sc hsz hdf hoff hE5 hO5
      have E := act_many a2 [108, 109, 110, 111, 112, 113, 114, 115, 116, 117, 118, 119] _ hsz.symm hdf.symm hoff
      rw [E]
      have HE5 : Hid _ := hE5
      have HO5 : Hid _ := hO5
      clear E hoff hsz hdf hE5 hO5 HE el e3
      simp only [List.foldl, Act.put, List.setIfInBounds_toArray, List.set_cons_zero, List.set_cons_succ]
      go_upto_region 14 with fail
      show Code.wp Tryd.prog (atc Tryd.f27.body [1, 1, 1, 1]) _ _ _
      refine tl_r14 (e := ⟨ga, bg, en, 4, 0, 0, 0, false, 0, false, 0, (List.range m).map fun p : Nat => (nuL D p : Int), []⟩) (sa := (sa, m, sc)) (sq := (none, 0, 0)) rfl rfl rfl rfl (by have h := HE5.out; simpa [evA, slV] using h) HO5.out (OW.nil _ _ _ _ _) (by omega) ?_
      intro a' x' lv' hd hM
      have HF : Hid _ := hM
      clear hM HE5 HO5
      have hsm : SM S (D ++ [⟨ga, bg, en, 4, 0, 0, 0, false, 0, false, 0, (List.range m).map fun p : Nat => (nuL D p : Int), []⟩]) := by
        rw [HmS.out]
        exact sm_snap HSm.out hD (by rw [← HT.out]; exact HTm.out)
      refine bodyPost_end (results_none rfl _ _ _) hd ⟨rfl, lv', ⟨ga, bg, en, 4, 0, 0, 0, false, 0, false, 0, (List.range m).map fun p : Nat => (nuL D p : Int), []⟩, ?_, hsm⟩
      rw [← nu_read (e := ⟨ga, bg, en, 4, 0, 0, 0, false, 0, false, 0, (List.range m).map fun p : Nat => (nuL D p : Int), []⟩) (by show (4 : Int) ≠ 2; decide) (by show (4 : Int) ≠ 5; decide), ← ho_read (S := S) (e := ⟨ga, bg, en, 4, 0, 0, 0, false, 0, false, 0, (List.range m).map fun p : Nat => (nuL D p : Int), []⟩) (by show (4 : Int) ≠ 2; decide) (by show (4 : Int) ≠ 5; decide)]
      exact HF.out
    · have d4 : (kk == 4) = false := by simpa using hk4
      go_upto_region 14 with fail
      show Code.wp Tryd.prog (atc Tryd.f27.body [1, 1, 1, 1]) _ _ _
      refine tl_r14 (e := ⟨ga, bg, en, kk, p, key, (np : Int), fb, fv, false, 0, [], []⟩) (sa := (none, 0, 0)) (sq := (none, 0, 0)) rfl rfl rfl rfl (by have h := HE.out; simpa [evA, slV] using h) (OW.nil _ _ _ _ _) (OW.nil _ _ _ _ _) (by omega) ?_
      intro a' x' lv' hd hM
      have HF : Hid _ := hM
      clear hM HE el e3
      have hk5 := HKk.out
      have hsm : SM S (D ++ [⟨ga, bg, en, kk, p, key, (np : Int), fb, fv, false, 0, [], []⟩]) := sm_next (p := p) HSm.out hD (by rw [← HmS.out]; exact hp) (by rw [← HT.out]; exact HTm.out) (.inl ⟨by omega, by rw [HNp.out]⟩) (by rw [HFh.out]; exact HFb.out) (by rw [HFh.out]; exact HFv.out) (fun h => by cases h)
      refine bodyPost_end (results_none rfl _ _ _) hd ⟨rfl, lv', ⟨ga, bg, en, kk, p, key, (np : Int), fb, fv, false, 0, [], []⟩, ?_, hsm⟩
      rw [← nu_read (e := ⟨ga, bg, en, kk, p, key, (np : Int), fb, fv, false, 0, [], []⟩) hk2 (by show kk ≠ 5; omega), ← ho_read (S := S) (e := ⟨ga, bg, en, kk, p, key, (np : Int), fb, fv, false, 0, [], []⟩) hk2 (by show kk ≠ 5; omega)]
      exact HF.out
end Go.Proofs.YtbielnehggcaoaaDoor
