/- A region that draws its order, by one invariant over what has come up. -/
import Derived.Test.YtbielnehggcaoaaDoorProg
import Derived.WalkKit
import Derived.Orders
namespace Go.Proofs.YtbielnehggcaoaaDoor
open Go.RowKit
def cnt (l : List Bool) : Nat := l.countP (fun b => !b)
theorem cnt_set : ∀ (l : List Bool) (i : Nat), l[i]? = some false → cnt (l.set i true) + 1 = cnt l
  | [], i, h => by simp at h
  | b :: l, 0, h => by simp at h; subst h; simp [cnt]
  | b :: l, i + 1, h => by
    have := cnt_set l i (by simpa using h)
    simp only [cnt, List.set_cons_succ, List.countP_cons] at this ⊢
    omega
theorem cnt_zero {l : List Bool} (h : cnt l = 0) (i : Nat) (b : Bool) (hb : l[i]? = some b) : b = true := by
  have h0 := List.countP_eq_zero.1 h b (List.mem_of_getElem? hb)
  simpa using h0
section
variable {P : Program} {ops : Array Oper} {Q : Exit → Act → World → Prop}
theorem all_listed (hac : ∀ i o, ops[i]? = some o → ∀ e ∈ o.after, Region.binds .any e = true → e.on < i) {l : Array Bool} (hs : l.size = ops.size) (hr : Region.ready .any ops l = []) : ∀ i, i < ops.size → l.getD i true = true := by
  intro i
  induction i using Nat.strongRecOn with
  | _ i ih =>
    intro hi
    cases hl : l.getD i true with
    | true => rfl
    | false =>
      exfalso
      have hm : i ∈ Region.ready .any ops l := by
        refine mem_ready.2 ⟨hl, ops[i], Array.getElem?_eq_getElem hi, fun e he hb => ?_⟩
        have hlt := hac i _ (Array.getElem?_eq_getElem hi) e he hb
        have := ih e.on hlt (by omega)
        simp [Array.getD, (by omega : e.on < l.size)] at this ⊢
        exact this
      rw [hr] at hm
      cases hm
theorem wpAny_inv (hac : ∀ i o, ops[i]? = some o → ∀ e ∈ o.after, Region.binds .any e = true → e.on < i) (I : Array Bool → Act → World → Prop) (hsz : ∀ l a w, I l a w → l.size = ops.size)
    (hstep : ∀ l a w, I l a w → ∀ i ∈ Region.ready .any ops l, wpOp P ops Q i (fun a' w' => I (l.setIfInBounds i true) a' w') a w) (hend : ∀ l a w, I l a w → (∀ i, i < ops.size → l.getD i true = true) → Q .normal a w) :
    ∀ fuel l a w, I l a w → cnt l.toList ≤ fuel → wpAny P .any ops Q fuel l a w := by
  intro fuel
  induction fuel with
  | zero =>
    intro l a w hI hc
    have hall : ∀ i, i < ops.size → l.getD i true = true := fun i hi => by
      have hlt : i < l.size := by rw [hsz l a w hI]; exact hi
      have := cnt_zero (l := l.toList) (by omega) i l[i] (by simp [hlt])
      simp [Array.getD, hlt, this]
    refine ⟨?_, hend l a w hI hall⟩
    rw [List.eq_nil_iff_forall_not_mem]
    intro i hi
    obtain ⟨h1, o, ho, -⟩ := mem_ready.1 hi
    rw [hall i (Array.getElem?_eq_some_iff.1 ho).1] at h1
    cases h1
  | succ fuel ih =>
    intro l a w hI hc
    refine ⟨fun hr => hend l a w hI (all_listed hac (hsz l a w hI) hr), fun i hi => ?_⟩
    refine wpOp_mono (fun a' w' h' => ih _ a' w' h' ?_) (hstep l a w hI i hi)
    obtain ⟨h1, o, ho, -⟩ := mem_ready.1 hi
    have hlt : i < l.size := by rw [hsz l a w hI]; exact (Array.getElem?_eq_some_iff.1 ho).1
    have := cnt_set l.toList i (by simp [Array.getD, hlt] at h1; simp [hlt, h1])
    rw [Array.toList_setIfInBounds]
    omega
theorem wp_region_inv {id : Nat} {a : Act} {w : World} (hm : P.follows .mixedOrders = true) (hac : ∀ i o, ops[i]? = some o → ∀ e ∈ o.after, Region.binds .any e = true → e.on < i) (I : Array Bool → Act → World → Prop) (hsz : ∀ l a w, I l a w → l.size = ops.size)
    (h0 : I (Array.replicate ops.size false) a w.drew) (hstep : ∀ l a w, I l a w → ∀ i ∈ Region.ready .any ops l, wpOp P ops Q i (fun a' w' => I (l.setIfInBounds i true) a' w') a w) (hend : ∀ l a w, I l a w → (∀ i, i < ops.size → l.getD i true = true) → Q .normal a w) :
    (Code.region id ops true).wp P Q a w := by
  refine wp_region_any hm (wpAny_inv hac I hsz hstep hend ops.size _ _ _ h0 ?_)
  have : ∀ n, cnt (List.replicate n false) ≤ n := fun n => by
    have := List.countP_le_length (p := fun b => !b) (l := List.replicate n false)
    simpa [cnt] using this
  simpa using this ops.size
/-- What an operation needs of those that must have come up. -/
theorem dep_of {l : Array Bool} {i j : Nat} (hi : i ∈ Region.ready .any ops l) (hd : (ops[i]?).map (fun o => o.after.any fun e => Region.binds .any e && e.on == j) = some true) : l.getD j false = true := by
  obtain ⟨h1, o, ho, hall⟩ := mem_ready.1 hi
  rw [ho] at hd
  simp only [Option.map_some, Option.some.injEq, Array.any_eq_true, Bool.and_eq_true, beq_iff_eq] at hd
  obtain ⟨n, hn, hb, he⟩ := hd
  rw [← he]
  exact hall _ (Array.getElem_mem hn) hb
/-- The operation itself. -/
theorem op_of {i : Nat} {p : Op} {d : Option Tmp} (h : (ops[i]?).map (fun o => (o.op, o.dst, o.guard)) = some (p, d, none)) : ∃ o, ops[i]? = some o ∧ o.op = p ∧ o.dst = d ∧ o.guard = none := by
  cases ho : ops[i]? with
  | none => rw [ho] at h; simp at h
  | some o => rw [ho] at h; simp at h; exact ⟨o, rfl, h⟩
theorem wpOp_of {i : Nat} {o : Oper} {K : Act → World → Prop} {a : Act} {w : World} (ho : ops[i]? = some o) (hg : o.guard = none) (h : o.wp P a w K Q) : wpOp P ops Q i K a w := by
  unfold wpOp
  simp only [ho]
  rw [if_pos (by simp [Region.wanted, hg])]
  exact .inl h
end
/-- The operations of a region, out of the program's text. -/
def regOps (id : Nat) : Code → Option (Array Oper)
  | .region i ops _ => if i = id then some ops else none
  | .seq a b => match regOps id a with
    | some o => some o
    | none => regOps id b
  | .cond _ a b => match regOps id a with
    | some o => some o
    | none => regOps id b
  | .block _ c => regOps id c
  | .scope c => regOps id c
  | .loop c => regOps id c
  | _ => none
def opsOf (id : Nat) (b : Option Code) : Array Oper := (b.bind (regOps id)).getD #[]
end Go.Proofs.YtbielnehggcaoaaDoor
