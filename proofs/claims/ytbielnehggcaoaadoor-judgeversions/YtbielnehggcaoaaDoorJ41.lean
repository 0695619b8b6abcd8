/- Drawn regions within a round of a range over a function: by the same invariants. -/
import Derived.Test.YtbielnehggcaoaaDoorJ08
import Derived.Test.YtbielnehggcaoaaDoorJ02
import Derived.OrdersIn
import Derived.RangeFuncCalls
import Derived.Test.YtbielnehggcaoaaDoorJ10
import Derived.Test.YtbielnehggcaoaaDoorJ30
import Derived.Test.YtbielnehggcaoaaDoorJ33
import Derived.Test.YtbielnehggcaoaaDoorJ38
import Derived.Test.YtbielnehggcaoaaDoorJ39
import Derived.Test.YtbielnehggcaoaaDoorJ40
namespace Go.Proofs.YtbielnehggcaoaaDoor
open Go.RowKit
section
variable {P : Program} {ops : Array Oper} {Q : Exit → Act → World → Prop}
theorem any_inv (hac : ∀ i o, ops[i]? = some o → ∀ e ∈ o.after, Region.binds .any e = true → e.on < i) (I : Array Bool → Act → World → Prop) (hsz : ∀ l a w, I l a w → l.size = ops.size) {a : Act} {w : World}
    (h0 : I (Array.replicate ops.size false) a w.drew) (hstep : ∀ l a w, I l a w → ∀ i ∈ Region.ready .any ops l, wpOp P ops Q i (fun a' w' => I (l.setIfInBounds i true) a' w') a w) (hend : ∀ l a w, I l a w → (∀ i, i < ops.size → l.getD i true = true) → Q .normal a w) :
    wpAny P .any ops Q ops.size (Array.replicate ops.size false) a w.drew := by
  refine wpAny_inv hac I hsz hstep hend ops.size _ _ _ h0 ?_
  have : ∀ n, cnt (List.replicate n false) ≤ n := fun n => by
    have := List.countP_le_length (p := fun b => !b) (l := List.replicate n false)
    simpa [cnt] using this
  simpa using this ops.size
def noDefer (o : Oper) : Bool := match o.op with | .defer _ => false | _ => true
theorem noDefer_ne {o : Oper} (h : noDefer o = true) : ∀ c, o.op ≠ .defer c := fun c e => by unfold noDefer at h; rw [e] at h; cases h
theorem oper_in {o : Oper} {a : Act} {w : World} {K : Act → World → Prop} {Q' : Exit → Act → World → Prop} {l : Nat} (hd : noDefer o = true) (h : o.wp P a w K (fun _ _ _ => False)) : o.wpIn (Fence.wide.inRound l) 0 P a w K Q' := by
  refine ⟨fun f _ => trivial, ?_⟩
  rw [show (Fence.wide.inRound l).round = some l from rfl, Oper.semAt_some l a.eval o (noDefer_ne hd)]
  unfold Oper.wp at h
  cases hr : (execOp a.eval o).run P w with
  | ok x w' =>
    rw [hr] at h
    cases x with
    | value v => exact h
    | skip => exact h
    | defer d => exact h
    | enter f args =>
      refine ⟨fun hh => (by cases hh), ?_⟩
      have h2 : Calls P f args w' _ := h
      refine ((callsIn_wide.2 h2).inRound l).mono ?_
      intro e w'' he
      cases e with
      | returned v => exact he
      | panicked ch => exact he.elim
      | outgrown => obtain ⟨_, _, hh⟩ := he; exact hh.elim
    | row r args =>
      refine ⟨fun hh => (by cases hh), fun c cs _ => ?_⟩
      obtain ⟨v, w'', hv, hs⟩ := h c cs
      exact ⟨v, w'', hv, stepsIn_wide.2 hs⟩
    | _ => exact h.elim
  | halt x w' =>
    rw [hr] at h
    cases x with
    | panic v => exact h.elim
    | _ => exact h.elim
theorem oper_post {o : Oper} {a : Act} {w : World} {K K' : Act → World → Prop} (h : o.wp P a w K (Exit.then K' (fun _ _ _ => False))) : o.wp P a w K (fun _ _ _ => False) := by
  unfold Oper.wp at *
  cases hr : (execOp a.eval o).run P w with
  | ok x w' =>
    rw [hr] at h
    cases x with
    | enter f args =>
      refine Calls.mono (show Calls P f args w' _ from h) ?_
      intro e w'' he
      cases e with
      | returned v => exact he
      | panicked ch => exact he
      | outgrown => obtain ⟨x, y, hh⟩ := he; exact ⟨x, y, hh⟩
    | _ => exact h
  | halt x w' => rw [hr] at h; cases x <;> exact h
theorem lets_false {K : Act → World → Prop} : ¬ LetsOut (Exit.then K (fun _ _ _ => False)) := by
  rintro ⟨a, w, h⟩; exact h
theorem any_in {K : Act → World → Prop} {Q' : Exit → Act → World → Prop} {l : Nat} (hd : ops.all noDefer = true) : ∀ (fuel : Nat) (li : Array Bool) (a : Act) (w : World), wpAny P .any ops (Exit.then K (fun _ _ _ => False)) fuel li a w → wpAnyIn (Fence.wide.inRound l) 0 P .any ops (Exit.then K Q') fuel li a w := by
  intro fuel
  induction fuel with
  | zero => intro li a w h; exact h
  | succ fuel ih =>
    intro li a w h
    refine ⟨h.1, fun i hi => ?_⟩
    have hs := h.2 i hi
    unfold wpOp at hs
    unfold wpOpIn
    cases ho : ops[i]? with
    | none => simp only [ho] at hs ⊢; exact ih _ _ _ hs
    | some o =>
      simp only [ho] at hs ⊢
      have hno : noDefer o = true := Array.all_eq_true_iff_forall_mem.1 hd o (Array.mem_of_getElem? ho)
      split at hs
      · rename_i hw
        rw [if_pos hw]
        rcases hs with hs | ⟨_, hs⟩
        · refine oper_in hno ?_
          refine Oper.wp_mono (fun a w => ih _ a w) ?_
          exact oper_post hs
        · exact (lets_false hs).elim
      · rename_i hw
        rw [if_neg hw]
        exact ⟨fun f _ => trivial, ih _ _ _ hs⟩
theorem region_in {K : Act → World → Prop} {Q' : Exit → Act → World → Prop} {l id : Nat} {a : Act} {w : World} (hm : P.follows .mixedOrders = true) (hd : ops.all noDefer = true) (h : wpAny P .any ops (Exit.then K (fun _ _ _ => False)) ops.size (Array.replicate ops.size false) a w.drew) : (Code.region id ops true).wpIn (Fence.wide.inRound l) 0 P (Exit.then K Q') a w :=
  wpIn_region_any hm (any_in hd _ _ _ _ h)
end
section
variable {P : Program} {ops : Array Oper} {Q : Exit → Act → World → Prop} {G : Type}
theorem ghost3_any {a0 : Act} {w : World} (D : List (Option Nat)) (hok : regOk ops D a0.tmps.size = true) (V : G → Nat → Value) (As : List Nat) (hgu : ∀ (i g : Nat) (b : Bool), (ops[i]?).bind (fun o : Oper => o.guard) = some (g, b) → ∀ γ, (∃ b', V γ g = .bool b' ∧ (b' ≠ b → V γ i = undef ∧ i ∉ As)) ∨ (V γ g = undef ∧ V γ i = undef ∧ i ∉ As)) (done : G → Nat → Bool) (St : G → World → Prop) (g0 : G) (h0 : St g0 w.drew) (hd0 : ∀ x ∈ As, done g0 x = false) (hlt : As.all (fun x => decide (x < D.length)) = true)
    (hstep : ∀ i, i < D.length → (∀ (g : Nat) (b : Bool), (ops[i]?).bind (fun o : Oper => o.guard) = some (g, b) → ∃ γ, V γ g = .bool b) → YieldsG P ops D V a0 As done St Q i)
    (hend : ∀ a' w' g, a'.tmps.size = a0.tmps.size → a'.defers = a0.defers → (∀ s, some s ∉ D → a'.tmps[s]? = a0.tmps[s]?) → St g w' → (∀ x ∈ As, done g x = true) → (∀ i d, D.getD i none = some d → a'.eval (.tmp d) = V g i) → Q .normal a' w') :
    wpAny P .any ops Q ops.size (Array.replicate ops.size false) a0 w.drew := by
  have hn : ops.size = D.length := by
    unfold regOk at hok
    simp only [Bool.and_eq_true, beq_iff_eq] at hok
    exact hok.1
  have mem : ∀ s i, D.getD i none = some s → some s ∈ D := fun s i e => by
    have hi : i < D.length := by
      apply Classical.byContradiction
      intro h
      rw [List.getD_eq_getElem?_getD, List.getElem?_eq_none (by omega)] at e
      cases e
    rw [List.getD_eq_getElem?_getD, List.getElem?_eq_getElem hi] at e
    have := List.getElem_mem hi
    rw [show D[i] = some s from e] at this
    exact this
  have lt : ∀ i d, D.getD i none = some d → i < D.length := fun i d e => by
    apply Classical.byContradiction
    intro h
    rw [List.getD_eq_getElem?_getD, List.getElem?_eq_none (by omega)] at e
    cases e
  have hoff : ∀ i, on (Array.replicate ops.size false) i = false := fun i => by
    simp only [on, Array.getD_eq_getD_getElem?, Array.getElem?_replicate]
    split <;> rfl
  refine any_inv (fun i o ho => (reg_at hok ho).2.2.1) (IGhost ops D V a0 As done St) (fun l a w h => by rw [hn]; exact h.size) ?_ ?_ ?_
  · exact ⟨by simp [hn], rfl, rfl, fun _ _ => rfl, fun i j hh => (by rw [hoff] at hh; cases hh), g0, h0, fun x hx => by rw [hoff, hd0 x hx], fun i d _ hh => (by rw [hoff] at hh; cases hh)⟩
  · intro l a w' h i hi
    obtain ⟨hu, o, ho, hall⟩ := mem_ready.1 hi
    obtain ⟨r1, r2, r3, r4, r5, r6⟩ := reg_at hok ho
    have hoi : on l i = false := by simp only [on]; simp [Array.getD, h.size, r1] at hu ⊢; exact hu
    have hset : ∀ j, on (l.setIfInBounds i true) j = if i = j then true else on l j := fun j => on_set i j (by rw [h.size]; exact r1)
    obtain ⟨g, hg1, hg2, hg3⟩ := h.g
    have hyield : ∀ (q : Nat) (bq b' : Bool), o.guard = some (q, bq) → V g q = .bool b' → yielded ops a.tmps q = some b' := fun q bq b' hgd h2 => by
      obtain ⟨h1, h3, h4⟩ := r6 q bq hgd
      obtain ⟨d, hgD⟩ := Option.isSome_iff_exists.1 h4
      have hv := hg3 q d hgD (dep_of hi (waits_map h3))
      rw [h2] at hv
      have hgo : ∃ og, ops[q]? = some og := ⟨ops[q]'(by omega), Array.getElem?_eq_getElem (by omega)⟩
      obtain ⟨og, hog⟩ := hgo
      unfold yielded
      rw [hog]
      simp only [Option.bind_some, (reg_at hok hog).2.1, hgD]
      have hlt : d < a.tmps.size := by rw [h.tsize]; exact (reg_at hok hog).2.2.2.1 d hgD
      simp only [Act.eval, Array.getD, hlt, dite_true] at hv
      rw [Array.getElem?_eq_getElem hlt]
      have : a.tmps[d] = .bool b' := hv
      rw [this]
    have hyieldU : ∀ (q : Nat) (bq : Bool), o.guard = some (q, bq) → V g q = undef → yielded ops a.tmps q = none := fun q bq hgd h2 => by
      obtain ⟨h1, h3, h4⟩ := r6 q bq hgd
      obtain ⟨d, hgD⟩ := Option.isSome_iff_exists.1 h4
      have hv := hg3 q d hgD (dep_of hi (waits_map h3))
      rw [h2] at hv
      have hgo : ∃ og, ops[q]? = some og := ⟨ops[q]'(by omega), Array.getElem?_eq_getElem (by omega)⟩
      obtain ⟨og, hog⟩ := hgo
      unfold yielded
      rw [hog]
      simp only [Option.bind_some, (reg_at hok hog).2.1, hgD]
      have hlt : d < a.tmps.size := by rw [h.tsize]; exact (reg_at hok hog).2.2.2.1 d hgD
      simp only [Act.eval, Array.getD, hlt, dite_true] at hv
      rw [Array.getElem?_eq_getElem hlt]
      have : a.tmps[d] = undef := hv
      rw [this]
      rfl
    have keeps : ∀ g' w2, St g' w2 → (∀ x ∈ As, done g' x = (done g x || x == i)) → (∀ j, j ≠ i → reachB ops ops.size j i = false → V g' j = V g j) → IGhost ops D V a0 As done St (l.setIfInBounds i true) (a.put (D.getD i none) (V g' i)) w2 := by
      intro g' w2 hS hdn hV
      have hputs : (a.put (D.getD i none) (V g' i)).tmps.size = a0.tmps.size := by
        cases hD : D.getD i none <;> simp [Act.put, h.tsize]
      have hputd : (a.put (D.getD i none) (V g' i)).defers = a0.defers := by
        cases hD : D.getD i none <;> simp [Act.put, h.defers]
      refine ⟨by simp [h.size], hputs, hputd, fun s hs => ?_, fun x y hx hy => ?_, g', hS, fun x hx => ?_, fun j d hjd hh => ?_⟩
      · cases hD : D.getD i none with
        | none => exact h.off s hs
        | some d =>
          have : d ≠ s := fun e => hs (mem s i (by rw [hD, e]))
          simp only [Act.put, Array.getElem?_setIfInBounds, this, if_false]
          exact h.off s hs
      · rw [hset] at hx ⊢
        by_cases e2 : i = y
        · rw [if_pos e2]
        · rw [if_neg e2]
          by_cases e1 : i = x
          · subst e1
            exact dep_of hi (waits_map hy)
          · rw [if_neg e1] at hx
            exact h.closed x y hx hy
      · rw [hdn x hx, hg2 x hx, hset]
        by_cases e : i = x
        · subst e
          simp
        · have e' : ¬ x = i := fun z => e z.symm
          simp [e, e']
      · rw [hset] at hh
        by_cases e : i = j
        · subst e
          rw [hjd, ev_put _ _ _ (by rw [h.tsize]; exact r4 d hjd), if_pos rfl]
        · rw [if_neg e] at hh
          have hVj : V g' j = V g j := hV j (fun z => e z.symm) (by
            cases hr : reachB ops ops.size j i with
            | false => rfl
            | true =>
              have := reach_on h.closed ops.size j i hh hr
              rw [hoi] at this
              cases this)
          rw [hVj]
          cases hD : D.getD i none with
          | none => exact hg3 j d hjd hh
          | some d' =>
            rw [ev_put _ _ _ (by rw [h.tsize]; exact r4 d' hD), if_neg (fun e2 => e (r5 j d (lt j d hjd) (by rw [hD, e2]) hjd))]
            exact hg3 j d hjd hh
    unfold wpOp
    simp only [ho]
    by_cases hwant : Region.wanted o (yielded ops a.tmps) = true
    · rw [if_pos hwant]
      left
      refine hstep i r1 (fun q bq hgb => ?_) o a w' g _ ho r2 h.tsize (fun s hs => ?_) (fun j d hjd hh => hg3 j d hjd (dep_of hi (waits_map hh))) hg1 (fun x hx hr => ?_) (fun hm => ?_) (fun x hx hr => ?_) keeps
      · rcases hgu i q bq hgb g with ⟨b', h1, h2⟩ | ⟨h1, -, -⟩
        · rw [ho] at hgb
          have hgd : o.guard = some (q, bq) := hgb
          have hy := hyield q bq b' hgd h1
          simp [Region.wanted, hgd, hy] at hwant
          exact ⟨g, by rw [h1, hwant]⟩
        · rw [ho] at hgb
          have hgd : o.guard = some (q, bq) := hgb
          have hy := hyieldU q bq hgd h1
          simp [Region.wanted, hgd, hy] at hwant
      · simp only [Act.eval, Array.getD_eq_getD_getElem?, h.off s hs]
      · rw [hg2 x hx]
        exact reach_on_ready hi hr h.closed
      · rw [hg2 i hm, hoi]
      · rw [hg2 x hx]
        cases hx2 : on l x with
        | false => rfl
        | true =>
          have := reach_on h.closed ops.size x i hx2 hr
          rw [hoi] at this
          cases this
    · rw [if_neg hwant, r2]
      cases hgd : o.guard with
      | none => exact absurd (by simp [Region.wanted, hgd]) hwant
      | some gb =>
        obtain ⟨q, bq⟩ := gb
        obtain ⟨h3, h4⟩ : V g i = undef ∧ i ∉ As := by
          rcases hgu i q bq (by rw [ho]; exact hgd) g with ⟨b', h1, h2⟩ | ⟨-, h2, h3⟩
          · have hy := hyield q bq b' hgd h1
            have hne : b' ≠ bq := fun e => hwant (by simp [Region.wanted, hgd, hy, e])
            exact h2 hne
          · exact ⟨h2, h3⟩
        have := keeps g w' hg1 (fun x hx => by have : ¬ x = i := fun e => h4 (e ▸ hx); simp [this]) (fun j _ _ => rfl)
        rw [h3] at this
        exact this
  · intro l a w' h hall
    have hal : ∀ i, i < D.length → on l i = true := fun i hi => by
      have := hall i (by rw [hn]; exact hi)
      simp only [on, Array.getD, h.size, hi, dite_true] at this ⊢
      exact this
    obtain ⟨g, hg1, hg2, hg3⟩ := h.g
    exact hend a w' g h.tsize h.defers h.off hg1 (fun x hx => by
      rw [hg2 x hx]
      exact hal x (by simpa using List.all_eq_true.1 hlt x hx)) fun i d hD => hg3 i d hD (hal i (lt i d hD))

theorem wpIn_region_ghost3 {K : Act → World → Prop} {Q' : Exit → Act → World → Prop} {l id : Nat} {a0 : Act} {w : World} (hm : P.follows .mixedOrders = true) (hdf : ops.all noDefer = true) (D : List (Option Nat)) (hok : regOk ops D a0.tmps.size = true) (V : G → Nat → Value) (As : List Nat) (hgu : ∀ (i g : Nat) (b : Bool), (ops[i]?).bind (fun o : Oper => o.guard) = some (g, b) → ∀ γ, (∃ b', V γ g = .bool b' ∧ (b' ≠ b → V γ i = undef ∧ i ∉ As)) ∨ (V γ g = undef ∧ V γ i = undef ∧ i ∉ As)) (done : G → Nat → Bool) (St : G → World → Prop) (g0 : G) (h0 : St g0 w.drew) (hd0 : ∀ x ∈ As, done g0 x = false) (hlt : As.all (fun x => decide (x < D.length)) = true)
    (hstep : ∀ i, i < D.length → (∀ (g : Nat) (b : Bool), (ops[i]?).bind (fun o : Oper => o.guard) = some (g, b) → ∃ γ, V γ g = .bool b) → YieldsG P ops D V a0 As done St (Exit.then K (fun _ _ _ => False)) i)
    (hend : ∀ a' w' g, a'.tmps.size = a0.tmps.size → a'.defers = a0.defers → (∀ s, some s ∉ D → a'.tmps[s]? = a0.tmps[s]?) → St g w' → (∀ x ∈ As, done g x = true) → (∀ i d, D.getD i none = some d → a'.eval (.tmp d) = V g i) → K a' w') :
    (Code.region id ops true).wpIn (Fence.wide.inRound l) 0 P (Exit.then K Q') a0 w :=
  region_in hm hdf (ghost3_any D hok V As hgu done St g0 h0 hd0 hlt hstep hend)
end
/-- The operations of a region, also of one in the body of a range over a function. -/
def regOpsR (id : Nat) : Code → Option (Array Oper)
  | .region i ops _ => if i = id then some ops else none
  | .seq a b => match regOpsR id a with
    | some o => some o
    | none => regOpsR id b
  | .cond _ a b => match regOpsR id a with
    | some o => some o
    | none => regOpsR id b
  | .block _ c => regOpsR id c
  | .scope c => regOpsR id c
  | .loop c => regOpsR id c
  | .rangeFunc _ _ a b => match regOpsR id a with
    | some o => some o
    | none => regOpsR id b
  | _ => none
def opsR (id : Nat) (b : Option Code) : Array Oper := (b.bind (regOpsR id)).getD #[]
/-- Ahead of and behind a chain of calls: g: how many were done. -/
structure StC (F : List Nat) (w : World) (k : Nat) (A Post : World → Prop) (g : Nat) (x : World) : Prop where
  turned : Turned F w x
  le : g ≤ k
  pre : g < k → A x
  post : g = k → Post x
def doneC (l : List Nat) (g i : Nat) : Bool := decide (l.idxOf i < g)
end Go.Proofs.YtbielnehggcaoaaDoor
/- Drawn regions in which a chain of operations turn the world: what holds behind each. (Nothing of a program.) -/
namespace Go.Proofs.YtbielnehggcaoaaDoor
open Go.RowKit
structure StP (k : Nat) (Ph : Nat → (Nat → Value) → World → Prop) (g : Nat × (Nat → Value)) (x : World) : Prop where
  le : g.1 ≤ k
  ph : Ph g.1 g.2 x
def doneP (l : List Nat) (g : Nat × (Nat → Value)) (i : Nat) : Bool := decide (l.idxOf i < g.1)
section
variable {P : Program} {ops : Array Oper} {Q : Exit → Act → World → Prop} {G : Type}
theorem softL {D : List (Option Nat)} {V : G → Nat → Value} {a0 : Act} {As : List Nat} {done : G → Nat → Bool} {St : G → World → Prop} {i : Nat} (hi : i ∉ As)
    (h : ∀ (o : Oper) (a : Act) (w : World) (g : G), ops[i]? = some o → (∀ s, some s ∉ D → a.eval (.tmp s) = a0.eval (.tmp s)) → (∀ j d, D.getD j none = some d → waitsB ops i j = true → a.eval (.tmp d) = V g j) → St g w → (∀ x ∈ As, reachB ops ops.size i x = true → done g x = true) → (∀ x ∈ As, reachB ops ops.size x i = true → done g x = false) → (execOp a.eval o).run P w = .ok (.value (V g i)) w) : YieldsG P ops D V a0 As done St Q i := by
  intro o a w g K ho hd hs hoff hv hS hdn _ hlt hK
  exact l_val hd (h o a w g ho hoff hv hS hdn hlt) (hK g w hS (fun x hx => by have : ¬ x = i := fun e => hi (e ▸ hx); simp [this]) fun _ _ _ => rfl)
end
section
variable {ρ : Operand → Value} {o : Oper} {w w' : World} {P : Program}
theorem x_bsliceC {t : TypeId} {n : Nat} {ps : Array (Nat × Operand)} {qs : Array (Nat × Value)} {v : Value} (h : o.op = .buildSlice t n ps) (hq : ps.map (fun (i, x) => (i, ρ x)) = qs) (hr : (Instr.buildSlice t n qs).run P w = .ok v w') : (execOp ρ o).run P w = .ok (.value v) w' := by
  subst hq
  simp [execOp, h, hr, Result.andThen]
theorem x_appendC {s y : Operand} {t ty : TypeId} {a b v : Value} (h : o.op = .call { callee := .builtin .append, args := #[s, y], argTypes := #[t, t] }) (hty : o.type = ty) (hs : ρ s = a) (hy : ρ y = b) (hr : (Builtin.append_ #[t, t] ty #[a, b]).run P w = .ok v w') : (execOp ρ o).run P w = .ok (.value v) w' := by
  subst hty hs hy
  simp only [execOp, h, resolve, invoke, builtin, Sem.run_bind, Sem.run_pure, Result.andThen_ok, List.map_toArray, List.map_cons, List.map_nil, hr]
theorem ty_isC {ops : Array Oper} {i : Nat} {t : TypeId} (h : (ops[i]?).map (fun o : Oper => o.type) = some t) (ho : ops[i]? = some o) : o.type = t := by rw [ho] at h; simpa using h
end
/-- A frame that differs from another one in some slots alone is that one with these slots put. -/
theorem act_many (a' : Act) : ∀ (l : List Nat) (a : Act), a.tmps.size = a'.tmps.size → a.defers = a'.defers → (∀ s, s ∉ l → a'.eval (.tmp s) = a.eval (.tmp s)) → a' = l.foldl (fun a s => a.put (some s) (a'.eval (.tmp s))) a
  | [], a, hs, hd, h => by
    obtain ⟨t, d⟩ := a
    obtain ⟨t', d'⟩ := a'
    simp only at hs hd
    subst hd
    show (⟨t', d⟩ : Act) = ⟨t, d⟩
    congr 1
    refine Array.ext hs.symm fun i h1 h2 => ?_
    have := h i (by simp)
    simpa [Act.eval, h1, h2] using this
  | t :: l, a, hs, hd, h => by
    refine act_many a' l (a.put (some t) (a'.eval (.tmp t))) (by simpa [Act.put] using hs) (by simpa [Act.put] using hd) fun s hn => ?_
    by_cases e : s = t
    · subst e
      by_cases hlt : s < a.tmps.size
      · simp [Act.eval, Act.put, hlt, hs ▸ hlt]
      · have hlt' : ¬ s < a'.tmps.size := hs ▸ hlt
        simp [Act.eval, Act.put, hlt, hlt']
    · rw [h s (by simp [e, hn])]
      simp [Act.eval, Act.put, Ne.symm e]
end Go.Proofs.YtbielnehggcaoaaDoor
/- Versions' drawn region 7. (Written by tools/gen/genjxve.py.) -/
set_option linter.unusedVariables false
namespace Go.Proofs.YtbielnehggcaoaaDoor
open Go.RowKit
def vers_r7V (hb rb ro p sn sc : Nat) (tv rv : Value) : Nat × (Nat → Value) → Nat → Value := fun g j => match j with | 0 => (pa hb 0) | 1 => (pa hb 0) | 2 => (pa hb 0) | 3 => (pa hb 2) | 4 => tv | 5 => (pa hb 0) | 6 => (Value.slice (some ⟨rb, ro, none⟩) sn sc) | 7 => (Value.int IntKind.i64 (p : Int)) | 8 => (pa rb (ro + p)) | 9 => rv | 10 => (Value.int IntKind.i64 (p : Int)) | 11 => (g.2 11) | 12 => (g.2 12) | 13 => (g.2 13) | 14 => (pa hb 0) | 15 => (pa hb 2) | 16 => undef | _ => undef
set_option maxRecDepth 100000 in
set_option maxHeartbeats 1600000 in
theorem vers_r7 {hb rb ro p sn sc : Nat} {tv rv : Value} {Ph : Nat → (Nat → Value) → World → Prop} {K : Act → World → Prop} {Q : Exit → Act → World → Prop} {a0 : Act} {w : World} (hs : a0.tmps.size = 101) (x0 : a0.eval (.tmp 0) = .slice (some ⟨rb, ro, none⟩) sn sc) (x6 : a0.eval (.tmp 6) = pa hb 0) (x7 : a0.eval (.tmp 7) = .int .i64 (p : Int)) (hp : (p : Int) < (sn : Int)) (hp1 : p < sn) (hp2 : 0 ≤ (p : Int)) (hp3 : IntKind.i64.wrap (p : Int) = (p : Int)) (hc : ∀ g u x, g ≤ 3 → Ph g u x → x.cell? ⟨hb, 2, none⟩ = some tv) (hr : ∀ g u x, Ph g u x → x.cell? ⟨rb, ro + p, none⟩ = some rv) (hA : Ph 0 (fun _ => undef) w.drew)
    (hL0 : ∀ u x, Ph 0 u x → Calls Tryd.prog 36 #[pa hb 0, rv, .int .i64 (p : Int)] x fun e w' => ∃ v, e = .returned v ∧ Ph 1 (upd u 11 v) w')
    (hL1 : ∀ u x, Ph 1 u x → ∃ v w', (Instr.buildSlice 88 1 #[(0, (u 11))]).run Tryd.prog x = .ok v w' ∧ Ph 2 (upd u 12 v) w')
    (hL2 : ∀ u x, Ph 2 u x → ∃ v w', (Builtin.append_ #[88, 88] 88 #[tv, (u 12)]).run Tryd.prog x = .ok v w' ∧ Ph 3 (upd u 13 v) w')
    (hL3 : ∀ u x, Ph 3 u x → ∃ w', (Instr.storeAt 88 (pa hb 2) (u 13)).run Tryd.prog x = .ok () w' ∧ Ph 4 u w')
    (hEnd : ∀ a' x u, a'.tmps.size = a0.tmps.size → a'.defers = a0.defers → (∀ s, some s ∉ ([some 35, some 36, some 37, some 38, some 39, some 40, some 41, some 42, some 43, some 44, some 45, some 46, some 47, some 48, some 49, some 50, none] : List (Option Nat)) → a'.eval (.tmp s) = a0.eval (.tmp s)) →  Ph 4 u x → K a' x) : (Code.region 7 (opsR 7 Tryd.f21.body) true).wp Tryd.prog (Exit.then K Q) a0 w := by
  refine wp_region_ghost3 (G := Nat × (Nat → Value)) (by kernel_rfl) [some 35, some 36, some 37, some 38, some 39, some 40, some 41, some 42, some 43, some 44, some 45, some 46, some 47, some 48, some 49, some 50, none] (by rw [hs]; kernel_rfl) (vers_r7V hb rb ro p sn sc tv rv) [11, 12, 13, 16] ?_ (doneP [11, 12, 13, 16]) (StP 4 Ph) ((0, fun _ => undef)) (⟨Nat.zero_le _, hA⟩) (by intro x hx; simp at hx; rcases hx with rfl | rfl | rfl | rfl <;> rfl) (by decide) ?_ ?_
  · intro i g b h γ
    have hi : i < 17 := by
      apply Classical.byContradiction
      intro hn
      rw [show (opsR 7 Tryd.f21.body)[i]? = none from Array.getElem?_eq_none (by have : (opsR 7 Tryd.f21.body).size = 17 := (by kernel_rfl); omega)] at h
      cases h
    rcases (by omega : i = 0 ∨ i = 1 ∨ i = 2 ∨ i = 3 ∨ i = 4 ∨ i = 5 ∨ i = 6 ∨ i = 7 ∨ i = 8 ∨ i = 9 ∨ i = 10 ∨ i = 11 ∨ i = 12 ∨ i = 13 ∨ i = 14 ∨ i = 15 ∨ i = 16) with rfl | rfl | rfl | rfl | rfl | rfl | rfl | rfl | rfl | rfl | rfl | rfl | rfl | rfl | rfl | rfl | rfl
    · rw [show ((opsR 7 Tryd.f21.body)[0]?).bind (fun o : Oper => o.guard) = none from by kernel_rfl] at h
      cases h
    · rw [show ((opsR 7 Tryd.f21.body)[1]?).bind (fun o : Oper => o.guard) = none from by kernel_rfl] at h
      cases h
    · rw [show ((opsR 7 Tryd.f21.body)[2]?).bind (fun o : Oper => o.guard) = none from by kernel_rfl] at h
      cases h
    · rw [show ((opsR 7 Tryd.f21.body)[3]?).bind (fun o : Oper => o.guard) = none from by kernel_rfl] at h
      cases h
    · rw [show ((opsR 7 Tryd.f21.body)[4]?).bind (fun o : Oper => o.guard) = none from by kernel_rfl] at h
      cases h
    · rw [show ((opsR 7 Tryd.f21.body)[5]?).bind (fun o : Oper => o.guard) = none from by kernel_rfl] at h
      cases h
    · rw [show ((opsR 7 Tryd.f21.body)[6]?).bind (fun o : Oper => o.guard) = none from by kernel_rfl] at h
      cases h
    · rw [show ((opsR 7 Tryd.f21.body)[7]?).bind (fun o : Oper => o.guard) = none from by kernel_rfl] at h
      cases h
    · rw [show ((opsR 7 Tryd.f21.body)[8]?).bind (fun o : Oper => o.guard) = none from by kernel_rfl] at h
      cases h
    · rw [show ((opsR 7 Tryd.f21.body)[9]?).bind (fun o : Oper => o.guard) = none from by kernel_rfl] at h
      cases h
    · rw [show ((opsR 7 Tryd.f21.body)[10]?).bind (fun o : Oper => o.guard) = none from by kernel_rfl] at h
      cases h
    · rw [show ((opsR 7 Tryd.f21.body)[11]?).bind (fun o : Oper => o.guard) = none from by kernel_rfl] at h
      cases h
    · rw [show ((opsR 7 Tryd.f21.body)[12]?).bind (fun o : Oper => o.guard) = none from by kernel_rfl] at h
      cases h
    · rw [show ((opsR 7 Tryd.f21.body)[13]?).bind (fun o : Oper => o.guard) = none from by kernel_rfl] at h
      cases h
    · rw [show ((opsR 7 Tryd.f21.body)[14]?).bind (fun o : Oper => o.guard) = none from by kernel_rfl] at h
      cases h
    · rw [show ((opsR 7 Tryd.f21.body)[15]?).bind (fun o : Oper => o.guard) = none from by kernel_rfl] at h
      cases h
    · rw [show ((opsR 7 Tryd.f21.body)[16]?).bind (fun o : Oper => o.guard) = none from by kernel_rfl] at h
      cases h
  · intro i hi hgd
    rcases (by simp at hi; omega : i = 0 ∨ i = 1 ∨ i = 2 ∨ i = 3 ∨ i = 4 ∨ i = 5 ∨ i = 6 ∨ i = 7 ∨ i = 8 ∨ i = 9 ∨ i = 10 ∨ i = 11 ∨ i = 12 ∨ i = 13 ∨ i = 14 ∨ i = 15 ∨ i = 16) with rfl | rfl | rfl | rfl | rfl | rfl | rfl | rfl | rfl | rfl | rfl | rfl | rfl | rfl | rfl | rfl | rfl
    · refine soft (by decide) ?_
      intro o ac wa g ho hoff hv hS hdn
      exact (x_move (op_is rfl ho)).trans (by rw [((hoff 6 (by decide)).trans x6)]; rfl)
    · refine soft (by decide) ?_
      intro o ac wa g ho hoff hv hS hdn
      exact (x_move (op_is rfl ho)).trans (by rw [((hoff 6 (by decide)).trans x6)]; rfl)
    · refine soft (by decide) ?_
      intro o ac wa g ho hoff hv hS hdn
      exact x_nil (op_is rfl ho) ((hv 1 36 rfl (by kernel_rfl)))
    · refine soft (by decide) ?_
      intro o ac wa g ho hoff hv hS hdn
      exact x_field (op_is rfl ho) (by rw [(hv 2 37 rfl (by kernel_rfl))]; show (Instr.fieldAt _ (pa _ _) _).run _ _ = .ok (pa _ _) _; unfold pa; go_simp)
    · refine softL (by decide) ?_
      intro o ac wa g ho hoff hv hS hdn hlt
      have hg : g.1 ≤ 3 := by have := hlt 16 (by simp) (by kernel_rfl); simpa [doneP, List.idxOf, List.findIdx, List.findIdx.go] using this
      have hc := (hc _ _ _ hg hS.ph)
      exact x_load (op_is rfl ho) (by rw [(hv 3 38 rfl (by kernel_rfl))]; show (Instr.loadAt _ (pa _ _)).run _ _ = _; unfold pa; go_simp; first | rfl | skip)
    · refine soft (by decide) ?_
      intro o ac wa g ho hoff hv hS hdn
      exact (x_move (op_is rfl ho)).trans (by rw [((hoff 6 (by decide)).trans x6)]; rfl)
    · refine soft (by decide) ?_
      intro o ac wa g ho hoff hv hS hdn
      exact (x_move (op_is rfl ho)).trans (by rw [((hoff 0 (by decide)).trans x0)]; rfl)
    · refine soft (by decide) ?_
      intro o ac wa g ho hoff hv hS hdn
      exact (x_move (op_is rfl ho)).trans (by rw [((hoff 7 (by decide)).trans x7)]; rfl)
    · refine soft (by decide) ?_
      intro o ac wa g ho hoff hv hS hdn
      exact x_index (op_is rfl ho) (by rw [(hv 6 41 rfl (by kernel_rfl)), (hv 7 42 rfl (by kernel_rfl))]; show (Instr.indexAt _ (Value.slice (some ⟨rb, ro, none⟩) sn sc) (Value.int IntKind.i64 (p : Int))).run _ _ = .ok (pa _ _) _; unfold pa; go_simp)
    · refine soft (by decide) ?_
      intro o ac wa g ho hoff hv hS hdn
      have hc := (hr _ _ _ hS.ph)
      exact x_load (op_is rfl ho) (by rw [(hv 8 43 rfl (by kernel_rfl))]; show (Instr.loadAt _ (pa _ _)).run _ _ = _; unfold pa; go_simp; first | rfl | skip)
    · refine soft (by decide) ?_
      intro o ac wa g ho hoff hv hS hdn
      exact (x_move (op_is rfl ho)).trans (by rw [((hoff 7 (by decide)).trans x7)]; rfl)
    · intro o ac wa g K ho hd _ hoff hv hS hpre hnd hlater hK
      have h1 : g.1 ≤ 0 := by have := hnd (by simp); simpa [doneP, List.idxOf, List.findIdx, List.findIdx.go] using this
      have hg : g.1 = 0 := by omega
      obtain ⟨g1, u⟩ := g
      simp only at hg
      subst hg
      refine l_callE (op_is rfl ho) (xs := #[pa hb 0, rv, .int .i64 (p : Int)]) (by simp only [List.map_toArray, List.map_cons, List.map_nil]; rw [(hv 5 40 rfl (by kernel_rfl)), (hv 9 44 rfl (by kernel_rfl)), (hv 10 45 rfl (by kernel_rfl))]; rfl) Tryd.func36 (by kernel_rfl) rfl (hL0 u wa hS.ph) ?_
      rintro e w' ⟨v, rfl, hp⟩
      refine ⟨_, rfl, ?_⟩
      rw [hd]
      refine hK (1, upd u 11 v) w' ⟨by simp, hp⟩ (by intro x hx; simp at hx; rcases hx with rfl | rfl | rfl | rfl <;> simp [doneP, List.idxOf, List.findIdx, List.findIdx.go]) fun j hj hr => ?_
      match j, hr with
      | 0, _ => rfl
      | 1, _ => rfl
      | 2, _ => rfl
      | 3, _ => rfl
      | 4, _ => rfl
      | 5, _ => rfl
      | 6, _ => rfl
      | 7, _ => rfl
      | 8, _ => rfl
      | 9, _ => rfl
      | 10, _ => rfl
      | 11, _ => exact absurd rfl hj
      | 12, _ => rfl
      | 13, _ => rfl
      | 14, _ => rfl
      | 15, _ => rfl
      | 16, _ => rfl
      | q + 17, _ => rfl
    · intro o ac wa g K ho hd _ hoff hv hS hpre hnd hlater hK
      have h1 : g.1 ≤ 1 := by have := hnd (by simp); simpa [doneP, List.idxOf, List.findIdx, List.findIdx.go] using this
      have h2 : 1 ≤ g.1 := by have := hpre 11 (by simp) (by kernel_rfl); simp [doneP, List.idxOf, List.findIdx, List.findIdx.go] at this; omega
      have hg : g.1 = 1 := by omega
      obtain ⟨g1, u⟩ := g
      simp only at hg
      subst hg
      obtain ⟨v, w', hr', hp⟩ := hL1 u wa hS.ph
      refine l_val hd (x_bsliceC (op_is rfl ho) (by simp only [List.map_toArray, List.map_cons, List.map_nil]; rw [(hv 11 46 rfl (by kernel_rfl))]; rfl) hr') ?_
      refine hK (2, upd u 12 v) w' ⟨by simp, hp⟩ (by intro x hx; simp at hx; rcases hx with rfl | rfl | rfl | rfl <;> simp [doneP, List.idxOf, List.findIdx, List.findIdx.go]) fun j hj hr => ?_
      match j, hr with
      | 0, _ => rfl
      | 1, _ => rfl
      | 2, _ => rfl
      | 3, _ => rfl
      | 4, _ => rfl
      | 5, _ => rfl
      | 6, _ => rfl
      | 7, _ => rfl
      | 8, _ => rfl
      | 9, _ => rfl
      | 10, _ => rfl
      | 11, _ => rfl
      | 12, _ => exact absurd rfl hj
      | 13, _ => rfl
      | 14, _ => rfl
      | 15, _ => rfl
      | 16, _ => rfl
      | q + 17, _ => rfl
    · intro o ac wa g K ho hd _ hoff hv hS hpre hnd hlater hK
      have h1 : g.1 ≤ 2 := by have := hnd (by simp); simpa [doneP, List.idxOf, List.findIdx, List.findIdx.go] using this
      have h2 : 2 ≤ g.1 := by have := hpre 12 (by simp) (by kernel_rfl); simp [doneP, List.idxOf, List.findIdx, List.findIdx.go] at this; omega
      have hg : g.1 = 2 := by omega
      obtain ⟨g1, u⟩ := g
      simp only at hg
      subst hg
      obtain ⟨v, w', hr', hp⟩ := hL2 u wa hS.ph
      refine l_val hd (x_appendC (op_is rfl ho) (ty_isC rfl ho) ((hv 4 39 rfl (by kernel_rfl))) ((hv 12 47 rfl (by kernel_rfl))) hr') ?_
      refine hK (3, upd u 13 v) w' ⟨by simp, hp⟩ (by intro x hx; simp at hx; rcases hx with rfl | rfl | rfl | rfl <;> simp [doneP, List.idxOf, List.findIdx, List.findIdx.go]) fun j hj hr => ?_
      match j, hr with
      | 0, _ => rfl
      | 1, _ => rfl
      | 2, _ => rfl
      | 3, _ => rfl
      | 4, _ => rfl
      | 5, _ => rfl
      | 6, _ => rfl
      | 7, _ => rfl
      | 8, _ => rfl
      | 9, _ => rfl
      | 10, _ => rfl
      | 11, _ => rfl
      | 12, _ => rfl
      | 13, _ => exact absurd rfl hj
      | 14, _ => rfl
      | 15, _ => rfl
      | 16, _ => rfl
      | q + 17, _ => rfl
    · refine soft (by decide) ?_
      intro o ac wa g ho hoff hv hS hdn
      exact x_nil (op_is rfl ho) ((hv 0 35 rfl (by kernel_rfl)))
    · refine soft (by decide) ?_
      intro o ac wa g ho hoff hv hS hdn
      exact x_field (op_is rfl ho) (by rw [(hv 14 49 rfl (by kernel_rfl))]; show (Instr.fieldAt _ (pa _ _) _).run _ _ = .ok (pa _ _) _; unfold pa; go_simp)
    · intro o ac wa g K ho hd _ hoff hv hS hpre hnd hlater hK
      have h1 : g.1 ≤ 3 := by have := hnd (by simp); simpa [doneP, List.idxOf, List.findIdx, List.findIdx.go] using this
      have h2 : 3 ≤ g.1 := by have := hpre 13 (by simp) (by kernel_rfl); simp [doneP, List.idxOf, List.findIdx, List.findIdx.go] at this; omega
      have hg : g.1 = 3 := by omega
      obtain ⟨g1, u⟩ := g
      simp only at hg
      subst hg
      obtain ⟨w', hr', hp⟩ := hL3 u wa hS.ph
      refine l_skip hd (x_store (op_is rfl ho) (by rw [(hv 15 50 rfl (by kernel_rfl)), (hv 13 48 rfl (by kernel_rfl))]; exact hr')) ?_
      refine hK (4, u) w' ⟨by simp, hp⟩ (by intro x hx; simp at hx; rcases hx with rfl | rfl | rfl | rfl <;> simp [doneP, List.idxOf, List.findIdx, List.findIdx.go]) fun j hj hr => ?_
      match j, hr with
      | 0, _ => rfl
      | 1, _ => rfl
      | 2, _ => rfl
      | 3, _ => rfl
      | 4, _ => rfl
      | 5, _ => rfl
      | 6, _ => rfl
      | 7, _ => rfl
      | 8, _ => rfl
      | 9, _ => rfl
      | 10, _ => rfl
      | 11, _ => rfl
      | 12, _ => rfl
      | 13, _ => rfl
      | 14, _ => rfl
      | 15, _ => rfl
      | 16, _ => exact absurd rfl hj
      | q + 17, _ => rfl
  · intro a' w' g hsz hdf hoff hS hdn hval
    obtain ⟨g1, u⟩ := g
    have hg : g1 = 4 := by have h := hdn 16 (by simp); simp [doneP, List.idxOf, List.findIdx, List.findIdx.go] at h; have := hS.le; simp only at this; omega
    subst hg
    exact hEnd a' w' u hsz hdf (fun s hs => ev_same (hoff s hs))  hS.ph
end Go.Proofs.YtbielnehggcaoaaDoor
/-
  The document's Versions by contract. (By the verifier; no statement.)
-/
namespace Go.Proofs.YtbielnehggcaoaaDoor
open Go.RowKit
/-- What parts hold at first, in memory, as lists that can be appended. -/
structure SwAt (w : World) (sv : Value) (S : List (List (Int × Int))) : Prop where
  ex : ∃ a c, sv = .slice a S.length c ∧ ∀ i, i < S.length → ∃ (b o : Nat) (ra : Option Addr) (rc : Nat), a = some ⟨b, o, none⟩ ∧ w.cell? ⟨b, o + i, none⟩ = some (.slice ra (S.getD i []).length rc) ∧ VW encP w (.slice ra (S.getD i []).length rc) (S.getD i []) ∧ (S.getD i []).length ≤ 1000000
theorem xL_len (S : List (List (Int × Int))) (D : List Ev) (i : Nat) : (xL S D i).length ≤ 4 * D.length + 2 := by
  unfold xL
  have h1 := selfL_len S D i
  have h2 := pairL_len S.length D i D.length
  rw [List.length_append]
  split
  · omega
  · simp; omega
theorem refs_len (S : List (List (Int × Int))) (D : List Ev) : ∀ i, ((List.range i).flatMap (refL S D)).length ≤ i * (4 * D.length + 2)
  | 0 => by simp
  | i + 1 => by
    have h1 := refs_len S D i
    have h2 := xL_len S D i
    have h3 := (xL_perm S D i).length_eq
    rw [List.range_succ, List.flatMap_append, List.length_append, List.flatMap_cons, List.flatMap_nil, List.append_nil, Nat.add_mul]
    omega
theorem VO.small {S : List (List (Int × Int))} {D : List Ev} {i : Nat} {O : List Bm} (h : VO S D i O) (hi : i ≤ D.length) (hD : D.length ≤ 1024) : O.length ≤ 5000000 := by
  have h1 := h.pm.length_eq
  have h2 := refs_len S D i
  have h3 : i * (4 * D.length + 2) ≤ 1024 * (4 * 1024 + 2) := Nat.mul_le_mul (by omega) (by omega)
  omega
theorem BR.lower {A B : Nat} {w : World} {v : Value} {R : List Bm} (h : BR B w v R) (hA : A ≤ B) : BR A w v R := by
  refine ⟨h.own.1, ?_⟩
  rcases h.own.2 with h0 | ⟨g, c, cs, e, hb, h3⟩
  · exact .inl h0
  · exact .inr ⟨g, c, cs, e, Nat.le_trans hA hb, h3⟩
/-- What the document's Versions answers. -/
structure VeR (S : List (List (Int × Int))) (D : List Ev) (w : World) (r : Ending) (w' : World) : Prop where
  tu : Turned [] w w'
  ans : (manyB S.length D.length = true ∧ r = .returned (.tuple #[.slice none 0 0, .int .i64 201])) ∨ (manyB S.length D.length = false ∧ ∃ v R, r = .returned (.tuple #[v, .int .i64 0]) ∧ VO S D D.length R ∧ BR w.heap.size w' v R)
set_option maxRecDepth 100000 in
set_option maxHeartbeats 1600000 in
/-- A history that is too great, or without parts. -/
theorem cVersRMany {w : World} {sa ea : Option Addr} {sl sc el ec : Nat} (h : manyB sl el = true) : Calls Tryd.prog 21 #[.slice sa sl sc, .slice ea el ec] w fun r w' => r = .returned (.tuple #[.slice none 0 0, .int .i64 201]) ∧ w' = w := by
  unfold manyB at h
  simp only [Bool.or_eq_true, decide_eq_true_eq] at h
  by_cases g1 : 1024 < el
  · have d1 : decide ((1024 : Int) < (el : Int)) = true := decide_eq_true (by omega)
    have d1' : decide (1024 < el) = true := decide_eq_true g1
    clear h g1
    go_enter Tryd.func21, Tryd.ntmps21
    go_wp2
    go_ret2
    exact ⟨rfl, rfl⟩
  have d1 : decide ((1024 : Int) < (el : Int)) = false := decide_eq_false (by omega)
  have d1' : decide (1024 < el) = false := decide_eq_false g1
  by_cases g2 : sl = 0
  · subst g2
    clear h g1
    go_enter Tryd.func21, Tryd.ntmps21
    go_wp2
    go_ret2
    exact ⟨rfl, rfl⟩
  · have g3 : 64 < sl := by omega
    have d2 : ((sl : Int) == 0) = false := by simpa using g2
    have d3 : decide ((64 : Int) < (sl : Int)) = true := decide_eq_true (by omega)
    have d3' : decide (64 < sl) = true := decide_eq_true g3
    clear h g1
    go_enter Tryd.func21, Tryd.ntmps21
    go_wp2
    go_ret2
    exact ⟨rfl, rfl⟩
/-- A part's versions are told and laid: what holds behind the region's steps. -/
def PhV (w wr : World) (hb m p : Nat) (ev tv : Value) (V : Nat → List Hold) : Nat → (Nat → Value) → World → Prop
  | 0, _, x => Turned [] wr x
  | 1, u, x => Turned [] wr x ∧ ∃ a c, u 11 = .slice a (V p).length c ∧ RowT (hb + 1) x (.slice a (V p).length c) (V p)
  | 2, u, x => Turned [] wr x ∧ ∃ a c g, u 11 = .slice a (V p).length c ∧ RowT (hb + 1) x (.slice a (V p).length c) (V p) ∧ u 12 = .slice (some ⟨g, 0, none⟩) 1 1 ∧ x.heap[g]? = some (.cells #[.slice a (V p).length c] 91 (0, 0))
  | 3, u, x => Turned [] w x ∧ (hb < x.heap.size ∧ x.cell? ⟨hb, 2, none⟩ = some tv ∧ x.frozen? ⟨hb, 2, none⟩ = false) ∧ ∃ g n c, u 13 = .slice (some ⟨g, 0, none⟩) n c ∧ (x.setCell ⟨hb, 2, none⟩ (.slice (some ⟨g, 0, none⟩) n c)).heap[hb]? = some (.cells #[.int .i64 m, ev, .slice (some ⟨g, 0, none⟩) n c, .slice none 0 0] 90 (0, 0)) ∧ TdAt (hb + 1) (x.setCell ⟨hb, 2, none⟩ (.slice (some ⟨g, 0, none⟩) n c)) (.slice (some ⟨g, 0, none⟩) n c) (p + 1) V ∧ Turned [] w (x.setCell ⟨hb, 2, none⟩ (.slice (some ⟨g, 0, none⟩) n c))
  | _, _, x => ∃ v2, x.heap[hb]? = some (.cells #[.int .i64 m, ev, v2, .slice none 0 0] 90 (0, 0)) ∧ TdAt (hb + 1) x v2 (p + 1) V ∧ Turned [] w x
section
variable {w : World} {ev sv : Value} {S : List (List (Int × Int))} {D : List Ev}
set_option maxRecDepth 100000 in
set_option maxHeartbeats 12800000 in
theorem cVersionsR (hE : EsAt w ev D) (hS : SwAt w sv S) (hns : ∀ i, (eAt D i).ns.length ≤ 1000000) (hnm : ∀ i, (eAt D i).num < 9223372036854775808) (hps : ∀ i, (eAt D i).ps.length ≤ 3000) (hm : manyB S.length D.length = false) : Calls Tryd.prog 21 #[sv, ev] w fun r w' => ∃ v R, r = .returned (.tuple #[v, .int .i64 0]) ∧ VO S D D.length R ∧ BR w.heap.size w' v R ∧ Turned [] w w' := by
  obtain ⟨ea, ec, rfl, -⟩ := id hE.ex
  obtain ⟨sa, sc, rfl, hrow⟩ := hS.ex
  unfold manyB at hm
  simp only [Bool.or_eq_false_iff, decide_eq_false_iff_not] at hm
  obtain ⟨hm1, hm2, hm3⟩ := hm
  have HEs : Hid (EsAt w (.slice ea D.length ec) D) := hE
  have HRow : Hid _ := hrow
  have HNs : Hid _ := hns
  have HNm : Hid _ := hnm
  have HPs : Hid _ := hps
  have d1 : decide ((1024 : Int) < (D.length : Int)) = false := decide_eq_false (by omega)
  have d1' : decide (1024 < D.length) = false := decide_eq_false hm1
  have d2 : ((S.length : Int) == 0) = false := by simpa using hm2
  have d2' : (S.length == 0) = false := by simpa using hm2
  have d3 : decide ((64 : Int) < (S.length : Int)) = false := decide_eq_false (by omega)
  have d3' : decide (64 < S.length) = false := decide_eq_false hm3
  clear hE hS hrow hns hnm hps
  go_enter Tryd.func21, Tryd.ntmps21
  go_upto_region 4 with fail
  clear d1 d1' d2 d2' d3 d3'
  have HB0 : Hid ((w.alloc (.cells #[.int .i64 S.length, .slice ea D.length ec, .slice none 0 0, .slice none 0 0] 90 (0, 0))).heap[w.heap.size]? = some (.cells #[.int .i64 S.length, .slice ea D.length ec, .slice none 0 0, .slice none 0 0] 90 (0, 0))) := blk_new _ _
  have HT0 : Hid (Turned [] w (w.alloc (.cells #[.int .i64 S.length, .slice ea D.length ec, .slice none 0 0, .slice none 0 0] 90 (0, 0)))) := (Turned.refl [] w).alloc _
  generalize w.alloc (.cells #[.int .i64 S.length, .slice ea D.length ec, .slice none 0 0, .slice none 0 0] 90 (0, 0)) = x0 at HB0 HT0 ⊢
  generalize hbq : w.heap.size = hb at HB0 ⊢
  have HBq : Hid (w.heap.size = hb) := hbq
  clear hbq
  go_wp2
  go_loopw [7] (fun i wx => Bx (∃ (p : Nat) (tv : Value), p ≤ S.length ∧ i = .int .i64 p ∧ Hid (wx.heap[hb]? = some (.cells #[.int .i64 S.length, .slice ea D.length ec, tv, .slice none 0 0] 90 (0, 0))) ∧ Hid (TdAt (hb + 1) wx tv p (vsOf S D)) ∧ Hid (Turned [] w wx))) (fun i _ => S.length - (intOf i).toNat)
  case atStart => exact ⟨0, _, Nat.zero_le _, rfl, HB0, TdAt.nil _ _ _, HT0⟩
  case round =>
    obtain ⟨p, tv, hp, rfl, HBp, HTd, HTu⟩ := hrel.ex
    clear hrel HB0 HT0
    by_cases hlt : p < S.length
    · obtain ⟨b, o, ra, rc, rfl, hcell, hvw, hrl⟩ := HRow.out p hlt
      have c1 := HTu.out.cell hcell (by simp)
      have c2 := World.block_lt_of_cell? _ _ c1
      dsimp only at c2
      obtain ⟨L, hO, hL, hT⟩ := HTd.out.ex
      obtain ⟨ta, tc, rfl⟩ := HTd.out.slice
      have s1 := lt_of_heap HBp.out
      have s2 : wr.cell? ⟨hb, 2, none⟩ = some (.slice ta p tc) := by rw [cell_at HBp.out]; rfl
      have PT : ∀ y, Turned [] wr y → Calls Tryd.prog 36 #[.pointer (some ⟨hb, 0, none⟩), .slice ra (S.getD p []).length rc, .int .i64 p] y fun r w' => (∃ v, r = .returned v ∧ RowT y.heap.size w' v (vsOf S D p)) ∧ Turned [] y w' := fun y hy => cTells (hy.heap HBp.out (by simp)) (by omega) (HEs.out.still (HTu.out.trans hy)) (fun i => by have := HNs.out i; omega) HPs.out (by omega) (hvw.still (HTu.out.trans hy)) hrl
      have HO : Hid (OW 91 1 encT (hb + 1) wr (.slice ta p tc) L) := hO
      have hbyL : (L.length + [((none : Option Addr), 0, 0)].length) * 24 ≤ 140737488355328 := by simp only [List.length_cons, List.length_nil]; omega
      have hPu : ∀ y (q : SV) z v2, Turned [] wr y → RowT (hb + 1) y (slV q) (vsOf S D p) → Turned (Value.slice ta p tc).ownBlock.toList y z → OW 91 1 encT (hb + 1) z v2 (L ++ [q]) → Turned [] w z ∧ (hb < z.heap.size ∧ z.cell? ⟨hb, 2, none⟩ = some (.slice ta p tc) ∧ z.frozen? ⟨hb, 2, none⟩ = false) ∧ (z.setCell ⟨hb, 2, none⟩ v2).heap[hb]? = some (.cells #[.int .i64 S.length, .slice ea D.length ec, v2, .slice none 0 0] 90 (0, 0)) ∧ TdAt (hb + 1) (z.setCell ⟨hb, 2, none⟩ v2) v2 (p + 1) (vsOf S D) ∧ Turned [] w (z.setCell ⟨hb, 2, none⟩ v2) := fun y q z v2 h1 h2 h3 h4 => by
        have k1 := h1.heap HBp.out (by simp)
        have hno : hb ∉ (Value.slice ta p tc).ownBlock.toList := fun hm => by
          simp only [Option.mem_toList] at hm
          have := (hO.fresh hm).1
          omega
        have k2 := h3.heap k1 hno
        have hs : Turned [hb] z (z.setCell ⟨hb, 2, none⟩ v2) := (Turned.refl [hb] z).set (by simp) _ _
        have htd := TdAt.push hO hL hT h1 h2 h3 h4
        have htw : Turned [] w z := (HTu.out.trans h1).inner h3 fun g hg => .inr (by
          have := (hO.fresh (by simpa using hg)).1
          have := HBq.out
          omega)
        refine ⟨htw, ⟨lt_of_heap k2, by rw [cell_at k2]; rfl, froz_at k2 2⟩, ?_, htd.far hs fun g hg => by rw [List.mem_singleton.1 hg]; omega, htw.set (.inr (by rw [HBq.out]; exact Nat.le_refl _)) _ _⟩
        have := blk_set k2 2 v2
        simpa using this
      have dq1 : (p : Int) < (S.length : Int) := by omega
      have dq2 : 0 ≤ (p : Int) := by omega
      have dq3 : IntKind.i64.wrap (p : Int) = (p : Int) := by
        simp [IntKind.wrap, IntKind.bits, IntKind.signed]
        omega
      go_upto_region 7 with fail
      refine wp_thenN ?_
      refine vers_r7 (tv := .slice ta p tc) (rv := .slice ra (S.getD p []).length rc) (Ph := PhV w wr hb S.length p (.slice ea D.length ec) (.slice ta p tc) (vsOf S D)) rfl rfl rfl rfl dq1 hlt dq2 dq3 ?_ ?_ (Turned.refl _ _).drew ?_ ?_ ?_ ?_ ?_
      · intro g u x hg hx
        match g, hg, hx with
        | 0, _, hx => exact hx.cell s2 (by simp)
        | 1, _, hx => exact hx.1.cell s2 (by simp)
        | 2, _, hx => exact hx.1.cell s2 (by simp)
        | 3, _, hx => exact hx.2.1.2.1
      · intro g u x hx
        match g, hx with
        | 0, hx => exact hx.cell c1 (by simp)
        | 1, hx => exact hx.1.cell c1 (by simp)
        | 2, hx => exact hx.1.cell c1 (by simp)
        | 3, hx => exact hx.1.cell hcell (by simp)
        | g + 4, hx => obtain ⟨_, _, _, h3⟩ := hx; exact h3.cell hcell (by simp)
      · intro u x hx
        refine (PT x hx).mono ?_
        rintro r z ⟨⟨v, rfl, hr⟩, tz⟩
        obtain ⟨a2, k2, rfl⟩ := hr.slice
        refine ⟨_, rfl, Turned.trans (l := []) hx tz, a2, k2, by simp [upd], hr.lower (Nat.le_trans s1 (Turned.size (l := []) hx))⟩
      · intro u x hx
        obtain ⟨h1, a2, k2, h2, h3⟩ := hx
        rw [h2]
        refine ⟨.slice (some ⟨x.heap.size, 0, none⟩) 1 1, x.alloc (.cells #[.slice a2 (vsOf S D p).length k2] 91 (0, 0)), by go_simp, h1.alloc _, a2, k2, x.heap.size, by simp [upd, h2], h3.still ((Turned.refl [] x).alloc _), by simp [upd], blk_new _ _⟩
      · intro u x hx
        obtain ⟨h1, a2, k2, g2, h2, h3, h4, h5⟩ := hx
        rw [h4]
        obtain ⟨v', w', hrun, q2, q3, q4⟩ := run_apO elTr enT (ty := 88) (M := [(a2, (vsOf S D p).length, k2)]) (HO.out.still h1) (VW.block (R := [(a2, (vsOf S D p).length, k2)]) (c := 1) h5 (fun i u hu => by simpa using hu)) hbyL (Nat.le_trans s1 h1.size)
        obtain ⟨z1, z2, z3, z4, z5⟩ := hPu x (a2, (vsOf S D p).length, k2) w' v' h1 h3 q3 q2
        obtain ⟨g3, c3, rfl⟩ := q2.somes
        exact ⟨_, w', hrun, z1, z2, g3, _, c3, by simp [upd], z3, z4, z5⟩
      · intro u x hx
        obtain ⟨h1, ⟨k1, k2, k3⟩, g3, n3, c3, h4, h5, h6, h7⟩ := hx
        rw [h4]
        exact ⟨x.setCell ⟨hb, 2, none⟩ (.slice (some ⟨g3, 0, none⟩) n3 c3), by unfold pa; go_simp, _, h5, h6, h7⟩
      · intro a' x' u hsz hdf hoff hPh
        obtain ⟨v2, hB3, hD3, hT3⟩ := hPh
        have E := act_many a' [35, 36, 37, 38, 39, 40, 41, 42, 43, 44, 45, 46, 47, 48, 49, 50] _ hsz.symm hdf.symm (fun s hs => hoff s (fun h => hs (by simpa using h)))
        rw [E]
        clear E hoff hsz hdf
        simp only [List.foldl, Act.put, List.setIfInBounds_toArray, List.set_cons_zero, List.set_cons_succ]
        have HB3 : Hid _ := hB3
        have HD3 : Hid _ := hD3
        have HT3 : Hid _ := hT3
        clear hB3 hD3 hT3 s1 s2 c1 c2 PT hPu hO hT hcell hvw HBp HTd HO
        go_wp2
        go_roundw
        case rel => exact ⟨p + 1, _, by omega, by go_num, HB3, HD3, HT3⟩
        case measure => simp [intOf]; omega
    · obtain rfl : p = S.length := by omega
      obtain ⟨x1, rfl⟩ : ∃ x1, x1 = wr := ⟨_, rfl⟩
      have HVS : Hid (VS w x1 hb (.slice ea D.length ec) tv S D) := ⟨HTu.out, ⟨by rw [HBq.out]; exact Nat.le_refl _, lt_of_heap HBp.out⟩, HEs.out, HTd.out, by omega, HNs.out, HNm.out⟩
      have HVX : Hid (VX x1 hb S.length (.slice ea D.length ec) tv [] x1) := ⟨Turned.refl _ _, lt_of_heap HBp.out, _, HBp.out, BR.nil _ _⟩
      have HLen : Hid (∀ (O' : List Bm) x', VX x1 hb S.length (.slice ea D.length ec) tv O' x' → hb < x'.heap.size ∧ ∃ a c, x'.cell? ⟨hb, 3, none⟩ = some (.slice a O'.length c) ∧ BR x1.heap.size x' (.slice a O'.length c) O') := fun O' x' h => by
        obtain ⟨ov, h1, h2⟩ := h.ex
        rcases h2.form with ⟨rfl, rfl⟩ | ⟨g, c, rfl⟩
        · exact ⟨lt_of_heap h1, none, 0, by rw [cell_at h1]; rfl, h2⟩
        · exact ⟨lt_of_heap h1, _, c, by rw [cell_at h1]; rfl, h2⟩
      clear HBp HTd HRow hp hlt
      go_wp2
      go_loopw [8, 9, 10] (fun i _ _ wx => Bx (∃ (q : Nat) (O : List Bm), q ≤ D.length ∧ i = .int .i64 q ∧ Hid (VO S D q O) ∧ Hid (VX x1 hb S.length (.slice ea D.length ec) tv O wx))) (fun i _ _ _ => D.length - (intOf i).toNat)
      case atStart => exact ⟨0, [], Nat.zero_le _, rfl, VO.start S D, HVX⟩
      case round =>
        obtain ⟨q, O, hq, rfl, HVO, HV⟩ := hrel.ex
        clear hrel HVX
        obtain ⟨s1, a3, c3, s3, hbr⟩ := HLen.out O wr HV.out
        have HBr : Hid (BR x1.heap.size wr (.slice a3 O.length c3) O) := hbr
        clear hbr
        by_cases hql : q < D.length
        · have HOl : Hid (O.length ≤ 5000000) := HVO.out.small hq (by omega)
          have HEnd : Hid (∀ (O' : List Bm), (O'.take O.length = (O ++ xL S D q).take O.length) → (O'.drop O.length).Perm ((O ++ xL S D q).drop O.length) → (O'.drop O.length).Pairwise leWy → VO S D (q + 1) O') := fun O' o1 o2 o3 => HVO.out.next (by rw [o1, List.take_left]) (by rw [List.drop_left] at o2; exact o2) o3
          have HXl : Hid ((xL S D q).length ≤ 5000) := by
            have h := xL_len S D q
            exact Nat.le_trans h (by omega)
          go_wp2_with (fail)
          refine (cSelf HVS.out HV.out hql (by have := HOl.out; omega)).mono ?_
          rintro r x2 ⟨rfl, hv2⟩
          have HV2 : Hid _ := hv2
          clear hv2 s1 s3
          cases hend : endB S.length (eAt D q) with
          | false =>
            have hxl : selfL S D q = xL S D q := by unfold xL; rw [hend]; simp
            rw [hxl] at HV2
            go_wp2_with (fail)
            refine (cSortR (f := O.length) HV2.out (by rw [List.length_append]; omega) (by have := HOl.out; have := HXl.out; rw [List.length_append]; omega)).mono ?_
            rintro r x3 ⟨rfl, O', o1, o2, o3, hv3⟩
            have HN : Hid _ := HEnd.out O' o1 o2 o3
            have HV3 : Hid _ := hv3
            clear o1 o2 o3 hv3 HV2
            go_wp2
            go_roundw
            case rel => exact ⟨q + 1, O', by omega, by go_num, HN, HV3⟩
            case measure => simp [intOf]; omega
          | true =>
            have hxl : selfL S D q ++ pairL S.length D q D.length = xL S D q := by unfold xL; rw [hend]; simp
            have HXe : Hid _ := hxl
            have HGa : Hid (Gd S.length (eAt D q)) := endB_gd hend
            have HV20 : Hid (VX x1 hb S.length (.slice ea D.length ec) tv ((O ++ selfL S D q) ++ pairL S.length D q 0) x2) := by
              have h0 : pairL S.length D q 0 = [] := rfl
              rw [h0, List.append_nil]
              exact HV2
            clear HV2 hend hxl
            go_wp2
            go_loopw [10] (fun k wx => Bx (∃ n : Nat, n ≤ D.length ∧ k = .int .i64 n ∧ Hid (VX x1 hb S.length (.slice ea D.length ec) tv ((O ++ selfL S D q) ++ pairL S.length D q n) wx))) (fun k _ => D.length - (intOf k).toNat)
            case atStart => exact ⟨0, Nat.zero_le _, rfl, HV20⟩
            case round =>
              obtain ⟨n, hn, rfl, HVn⟩ := hrel.ex
              clear hrel HV20
              by_cases hnl : n < D.length
              · have hps := pairL_succ S.length D q n
                obtain ⟨b, o, lc, elv, he⟩ := (HVS.out.evs HVn.out).get hnl
                obtain ⟨na, nc, pa, pc, hec, hiv, -⟩ := he.ec
                simp only [Value.slice.injEq] at elv
                obtain ⟨rfl, -, rfl⟩ := elv
                have PI : Hid (∀ y, Turned [] wr y → Calls Tryd.prog 38 #[.pointer (some ⟨hb, 0, none⟩), .agg (evA (eAt D n) (.slice na (eAt D n).ns.length nc) (.slice pa (eAt D n).ps.length pc))] y fun r w' => r = .returned (.bool ((eAt D n).good S.length)) ∧ Turned [] y w') := fun y hy => by
                  obtain ⟨ov, hh⟩ := HVn.out.hist
                  exact cIs (hh y hy) (by omega) (hiv.still hy) (by have := HNs.out n; omega)
                by_cases hnq : n = q
                · have dnq : ((n : Int) != (q : Int)) = false := by simp [hnq]
                  have HP : Hid (pairL S.length D q (n + 1) = pairL S.length D q n) := by rw [Hid, hps, if_neg (fun h => h.1 hnq), List.append_nil]
                  clear hps hec hiv he hnq PI
                  go_wp2
                  go_roundw
                  case rel => exact ⟨n + 1, by omega, by go_num, by rw [HP.out]; exact HVn.out.still (Turned.refl _ _)⟩
                  case measure => simp [intOf]; omega
                have dnq : ((n : Int) != (q : Int)) = true := by
                  have h : ¬ ((n : Int) = (q : Int)) := by omega
                  simpa using h
                have HEC : Hid (EC wr b (o + n * 13) (eAt D n) (.slice na (eAt D n).ns.length nc) (.slice pa (eAt D n).ps.length pc)) := hec
                obtain ⟨z0, z1, z2, z3, z4, z5, z6, z7, z8, z9, z10, z11, z12, z13⟩ := hec.all wr (Turned.refl _ _)
                have HPs2 : Hid (pairL S.length D q (n + 1) = pairL S.length D q n ++ (if endB S.length (eAt D n) = true then cmpL D q n else [])) := by
                  rw [Hid, hps]
                  congr 1
                  simp [hnq]
                have HGb : Hid (endB S.length (eAt D n) = true → Gd S.length (eAt D n)) := endB_gd
                have HEb : Hid (endB S.length (eAt D n) = ((eAt D n).good S.length && !decide ((eAt D n).e = 0))) := rfl
                clear hps hec hiv he
                generalize hgd : (eAt D n).good S.length = gd at *
                generalize hee : eAt D n = e at *
                obtain ⟨wk, eb, en, k, p, key, num, had, val, has, new, ns, ps⟩ := e
                dsimp only at z1 z2 z3 z4 z5 z6 z7 z8 z9 z10 z11 z12 z13
                have HEe : Hid (eAt D n = ⟨wk, eb, en, k, p, key, num, had, val, has, new, ns, ps⟩) := hee
                clear hee hgd hnq
                go_wp2_with (fail)
                refine (PI.out _ (Turned.refl _ _)).mono ?_
                rintro r z ⟨rfl, tz⟩
                have HVz : Hid _ := HVn.out.still tz
                clear z0 z1 z2 z3 z4 z5 z6 z7 z8 z9 z10 z11 z12 z13
                obtain ⟨y0, -, -, y3, -⟩ := HEC.out.all z tz
                dsimp only at y3
                clear tz PI HEC
                cases gd with
                | false =>
                  have HP : Hid (pairL S.length D q (n + 1) = pairL S.length D q n) := by
                    rw [Hid, HPs2.out, HEb.out]
                    simp
                  clear HPs2 HGb HEb HVn
                  go_wp2
                  go_roundw
                  case rel => exact ⟨n + 1, by omega, by go_num, by rw [HP.out]; exact HVz.out.still (Turned.refl _ _)⟩
                  case measure => simp [intOf]; omega
                | true =>
                  by_cases e0 : en = 0
                  · have x9 : (en != 0) = false := by simp [e0]
                    have HP : Hid (pairL S.length D q (n + 1) = pairL S.length D q n) := by
                      rw [Hid, HPs2.out, HEb.out]
                      simp [e0]
                    clear HPs2 HGb HEb HVn e0
                    go_wp2
                    go_roundw
                    case rel => exact ⟨n + 1, by omega, by go_num, by rw [HP.out]; exact HVz.out.still (Turned.refl _ _)⟩
                    case measure => simp [intOf]; omega
                  · have x9 : (en != 0) = true := by simpa using e0
                    have he1 := HEb.out
                    simp only [e0, decide_false, Bool.not_false, Bool.and_self] at he1
                    have HP : Hid (pairL S.length D q (n + 1) = pairL S.length D q n ++ cmpL D q n) := by
                      rw [Hid, HPs2.out, if_pos he1]
                    have HGn : Hid (Gd S.length (eAt D n)) := by
                      rw [Hid, HEe.out]
                      exact HGb.out he1
                    clear HPs2 HGb HEb HVn e0 he1
                    go_wp2_with (fail)
                    clear y0 y3
                    refine (cPair HVS.out HVz.out hql hnl HGa.out HGn.out (by
                      have h1 := pairL_len S.length D q n
                      have h2 := selfL_len S D q
                      have h3 := HOl.out
                      simp only [List.length_append]
                      omega)).mono ?_
                    rintro r x4 ⟨rfl, hv4⟩
                    rw [List.append_assoc, ← HP.out] at hv4
                    have HV4 : Hid _ := hv4
                    clear hv4
                    go_wp2
                    go_roundw
                    case rel => exact ⟨n + 1, by omega, by go_num, HV4⟩
                    case measure => simp [intOf]; omega
              · obtain rfl : n = D.length := by omega
                have HV21 := HVn.out
                rw [List.append_assoc, HXe.out] at HV21
                have HV2 : Hid _ := HV21
                clear HV21 HVn
                go_wp2_with (fail)
                refine (cSortR (f := O.length) HV2.out (by rw [List.length_append]; omega) (by have := HOl.out; have := HXl.out; rw [List.length_append]; omega)).mono ?_
                rintro r x3 ⟨rfl, O', o1, o2, o3, hv3⟩
                have HN : Hid _ := HEnd.out O' o1 o2 o3
                have HV3 : Hid _ := hv3
                clear o1 o2 o3 hv3 HV2
                go_wp2
                go_roundw
                case rel => exact ⟨q + 1, O', by omega, by go_num, HN, HV3⟩
                case measure => simp [intOf]; omega
        · obtain rfl : q = D.length := by omega
          go_wp2
          go_ret2
          exact ⟨_, O, rfl, HVO.out, HBr.out.lower HTu.out.size, HVS.out.turn HV.out⟩
end
end Go.Proofs.YtbielnehggcaoaaDoor
