import Derived.Conc.LoneSelect
import Derived.Conc.LoneSelectN
import Derived.WalkKit
namespace Go.Proofs.Ytheofdkjjhbkiaa
open Go Go.Conc

section
variable {P : Program} {b : Frame} {a : Act} {k : List Item} {cs : List Frame} {w : World}

theorem stepG_comm_any {ops : Array Oper} {i : Nat} {rest : List Nat} {o : Oper} {cases : Array CommCase} {blocking : Bool} {shape : CommShape} {w' : World} (ho : ops[i]? = some o) (hw : Region.wanted o (yielded ops a.tmps) = true)
    (hr : (execOp a.eval o).run P w = .ok (.comm cases blocking shape) w') :
    ∃ es, stepG P true (G (b.at a (.inRegion ops (i :: rest) :: k)) cs) w = .comm (G (b.at a (.inRegion ops (i :: rest) :: k)) cs) cases blocking shape w' es := by
  rw [stepG_oper ho hw]
  by_cases h : b.kind == CallKind.early
  · simp [stepG.apply, hr, G, Frame.at, h, GStep.after]
  · simp [stepG.apply, hr, G, Frame.at, h, GStep.after]

/-- A region whose first operation communicates, by the machine's step on it. -/
theorem wp_region_comm {id : Nat} {o : Oper} {l : List Oper} {cases : Array CommCase} {blocking : Bool} {shape : CommShape} {v : Value} {w' w'' : World} {Q : Exit → Act → World → Prop}
    (hw : Region.wanted o (yielded (o :: l).toArray a.tmps) = true)
    (hr : (execOp a.eval o).run P w = .ok (.comm cases blocking shape) w')
    (hs : ∀ fr cs es, stepG P true (G fr cs) w = .comm (G fr cs) cases blocking shape w' es → step P (solo (G fr cs) w) = .next (solo (G (fr.finish v) cs) w''))
    (h : wpList P (o :: l).toArray Q l (a.put o.dst v) w'') : (Code.region id (o :: l).toArray false).wp P Q a w := by
  intro b k cs
  have hl : wpOps P (o :: l).toArray Q (List.range' 1 l.length) (a.put o.dst v) w'' := by
    rw [wpOps_eq_wpList l 1 (by intro j; rw [Nat.add_comm]; simp)]
    exact h
  obtain ⟨e, a', w₁, hq, harr⟩ := wp_ops _ _ _ hl b k cs
  refine ⟨e, a', w₁, hq, .of_steps (.head step_region (.one ?_)) harr⟩
  have hrange : List.range (o :: l).toArray.size = 0 :: List.range' 1 l.length := by
    simp [List.range_eq_range', List.range'_succ]
  rw [hrange]
  obtain ⟨es, he⟩ := stepG_comm_any (P := P) (b := b) (a := a) (k := k) (cs := cs) (w := w) (ops := (o :: l).toArray) (i := 0) (rest := List.range' 1 l.length) (o := o) (by simp) hw hr
  have := hs _ _ _ he
  rw [Frame.finish_at] at this
  simpa [lone_eq_solo] using this

/-- The same where the first operation is a select that nothing guards. -/
theorem wp_region_select {id : Nat} {dst : Option Tmp} {sc : Array SelectCase} {bl : Bool} {ty : TypeId} {pos : String} {aft : Array Edge} {l : List Oper} {cases : Array CommCase} {v : Value} {w'' : World} {Q : Exit → Act → World → Prop}
    (hr : (execOp a.eval { dst := dst, op := .select sc bl, type := ty, pos := pos, after := aft, guard := none }).run P w = .ok (.comm cases bl .select) w)
    (hs : ∀ fr cs es, stepG P true (G fr cs) w = .comm (G fr cs) cases bl .select w es → step P (solo (G fr cs) w) = .next (solo (G (fr.finish v) cs) w''))
    (h : wpList P (({ dst := dst, op := .select sc bl, type := ty, pos := pos, after := aft, guard := none } : Oper) :: l).toArray Q l (a.put dst v) w'') :
    (Code.region id (({ dst := dst, op := .select sc bl, type := ty, pos := pos, after := aft, guard := none } : Oper) :: l).toArray false).wp P Q a w :=
  wp_region_comm (by simp [Region.wanted]) hr hs h
end
end Go.Proofs.Ytheofdkjjhbkiaa
