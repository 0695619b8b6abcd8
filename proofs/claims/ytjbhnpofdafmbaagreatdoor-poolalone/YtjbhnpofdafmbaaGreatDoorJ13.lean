/- Single operations, run; a call as one operation of a region. -/
import Derived.Test.YtjbhnpofdafmbaaGreatDoorJ07
import Derived.Conc.MuLone
import Derived.Test.YtjbhnpofdafmbaaGreatDoorRows
import Derived.Test.YtjbhnpofdafmbaaGreatDoorJ12
import Derived.Test.YtjbhnpofdafmbaaGreatDoorJ11
namespace Go.Proofs.YtjbhnpofdafmbaaGreatDoor
open Go.RowKit
def pv (b k : Nat) : Value := .pointer (some ⟨b, k, none⟩)
section
variable {P : Program} {o : Oper} {a : Act} {w w' : World} {K : Act → World → Prop} {Q : Exit → Act → World → Prop} {d : Option Nat}
theorem l_call {f : FuncId} {fn : Func} {c : Code} {args : Array Operand} {tys : Array TypeId} {xs : Array Value} {v : Value} (hd : o.dst = d) (h : o.op = .call { callee := .value (.func f), args := args, argTypes := tys }) (hx : args.map a.eval = xs)
    (hf : P.funcs[f]? = some fn) (hname : (fn.name == "runtime.NumGoroutine") = false) (hb : fn.body = some c) (hc : Calls P f xs w fun e w'' => e = .returned v ∧ w'' = w') (hK : K (a.put d v) w') : o.wp P a w K Q := by
  have hr : (execOp a.eval o).run P w = .ok (.enter f xs) w := by
    simp [execOp, h, resolve, invoke, hx, Deferred.ofValue, Go.MuLone.run_callFunc_enter hf hname hb, Act.eval]
  unfold Oper.wp
  rw [hr, Oper.upon_enter]
  refine hc.mono ?_
  rintro e w'' ⟨rfl, rfl⟩
  rw [hd]
  exact hK
end
section
variable {P : Program} {ρ : Operand → Value} {o : Oper} {w w' : World} {v : Value}
theorem x_field {t : TypeId} {x : Operand} {k : Nat} (h : o.op = .fieldAddr t x k) (hr : (Instr.fieldAt t (ρ x) k).run P w = .ok v w') : (execOp ρ o).run P w = .ok (.value v) w' := by simp [execOp, h, hr, Result.andThen]
theorem x_index {t : TypeId} {x y : Operand} (h : o.op = .indexAddr t x y) (hr : (Instr.indexAt t (ρ x) (ρ y)).run P w = .ok v w') : (execOp ρ o).run P w = .ok (.value v) w' := by simp [execOp, h, hr, Result.andThen]
theorem x_build {t : TypeId} {ps : Array (Nat × Operand)} {qs : Array (Nat × Value)} (h : o.op = .build t ps) (hq : ps.map (fun (i, x) => (i, ρ x)) = qs) (hr : (Instr.build t qs).run P w = .ok v w') : (execOp ρ o).run P w = .ok (.value v) w' := by
  subst hq
  simp [execOp, h, hr, Result.andThen]
theorem x_bin {op : BinOp} {t u : TypeId} {x y : Operand} {a b : Value} (h : o.op = .binOp op t x y u) (hx : ρ x = a) (hy : ρ y = b) (hg : (eqGuard op t x y a b).run P w = .ok () w) (hr : (binOp op t a b).run P w = .ok v w') : (execOp ρ o).run P w = .ok (.value v) w' := by
  simp [execOp, h, hx, hy, hg, hr, Result.andThen]
end
theorem ty_is {ops : Array Oper} {i : Nat} {o : Oper} {t : TypeId} (h : (ops[i]?).map (fun o : Oper => o.type) = some t) (ho : ops[i]? = some o) : o.type = t := by rw [ho] at h; simpa using h
section
variable {P : Program} {ρ : Operand → Value} {o : Oper} {w w' : World} {v : Value}
theorem x_bslice {t : TypeId} {len : Nat} {ps : Array (Nat × Operand)} {qs : Array (Nat × Value)} (h : o.op = .buildSlice t len ps) (hq : ps.map (fun (i, x) => (i, ρ x)) = qs) (hr : (Instr.buildSlice t len qs).run P w = .ok v w') : (execOp ρ o).run P w = .ok (.value v) w' := by
  subst hq
  simp [execOp, h, hr, Result.andThen]
theorem x_append {s x : Operand} {t ty : TypeId} {a b : Value} (h : o.op = .call { callee := .builtin .append, args := #[s, x], argTypes := #[t, t] }) (hty : o.type = ty) (hs : ρ s = a) (hx : ρ x = b) (hr : (Builtin.append_ #[t, t] ty #[a, b]).run P w = .ok v w') : (execOp ρ o).run P w = .ok (.value v) w' := by
  subst hty
  simp only [execOp, h, resolve, invoke, builtin, Sem.run_bind, Sem.run_pure, Result.andThen_ok, List.map_toArray, List.map_cons, List.map_nil, hs, hx, hr]
end
theorem ev_same {a a' : Act} {s : Nat} (h : a'.tmps[s]? = a.tmps[s]?) : a'.eval (.tmp s) = a.eval (.tmp s) := by
  simp only [Act.eval, Array.getD_eq_getD_getElem?, h]
theorem not_low {D : List (Option Nat)} {s n : Nat} (hs : s < n) (h : D.all (fun d => match d with | none => true | some x => decide (n ≤ x)) = true) : some s ∉ D := fun hm => by
  have := List.all_eq_true.1 h _ hm
  simp at this
  omega
end Go.Proofs.YtjbhnpofdafmbaaGreatDoor
/- The book's memory; lists held against each other; when a list is due. -/
namespace Go.Proofs.YtjbhnpofdafmbaaGreatDoor
open Go.RowKit
abbrev vi (z : Int) : Value := .int .i64 z
/-- A list of numbers (of sz cells a piece), in memory. -/
abbrev IRow (w : World) (e : TypeId) (sz : Nat) (v : Value) (n : Nat) (zs : List Int) : Prop := w.ownsRow 0 e sz v n (zs.map vi)
theorem IRow.len {w : World} {e : TypeId} {sz n : Nat} {v : Value} {zs : List Int} (h : IRow w e sz v n zs) : zs.length = n * sz := by simpa using h.1
theorem IRow.one {zs : List Int} : ∀ u ∈ zs.map vi, u.oneCell' = true := fun u hu => by
  obtain ⟨z, -, rfl⟩ := List.mem_map.1 hu
  rfl
theorem IRow.cell {w : World} {e : TypeId} {sz n g cap : Nat} {zs : List Int} (h : IRow w e sz (.slice (some ⟨g, 0, none⟩) n cap) n zs) {j : Nat} (hj : j < n * sz) : w.cell? ⟨g, j, none⟩ = some (vi (zs.getD j 0)) := by
  rw [World.ownsRow.cellAt h j hj]
  have hl := h.len
  rw [List.getElem?_map, List.getD_eq_getElem?_getD, List.getElem?_eq_getElem (by omega)]
  rfl
/-- The book. -/
def BK (w : World) (bb : Nat) (f : Nat → Value) : Prop := ∃ cs : Array Value, w.heap[bb]? = some (.cells cs 41 (0, 0)) ∧ cs.size = 103 ∧ ∀ i, i < 103 → cs[i]? = some (f i)
section
variable {w w' : World} {bb : Nat} {f : Nat → Value}
theorem BK.cell (h : BK w bb f) {i : Nat} (hi : i < 103) : w.cell? ⟨bb, i, none⟩ = some (f i) := by
  obtain ⟨cs, h1, -, h3⟩ := h
  rw [cell_at h1]
  exact h3 i hi
theorem BK.froz (h : BK w bb f) (i : Nat) : w.frozen? ⟨bb, i, none⟩ = false := by
  obtain ⟨cs, h1, -, -⟩ := h
  exact froz_at h1 i
theorem BK.lt (h : BK w bb f) : bb < w.heap.size := by
  obtain ⟨cs, h1, -, -⟩ := h
  exact lt_of_heap h1
theorem BK.keep (h : BK w bb f) {l : List Nat} (ht : Turned l w w') (hn : bb ∉ l) : BK w' bb f := by
  obtain ⟨cs, h1, h2, h3⟩ := h
  exact ⟨cs, ht.heap h1 hn, h2, h3⟩
theorem BK.put (h : BK w bb f) {i : Nat} (_hi : i < 103) (v : Value) : BK (w.setCell ⟨bb, i, none⟩ v) bb (upd f i v) := by
  obtain ⟨cs, h1, h2, h3⟩ := h
  refine ⟨_, blk_set h1 i v, by simp [h2], fun j hj => ?_⟩
  rw [Array.getElem?_setIfInBounds]
  by_cases e : i = j
  · subst e
    rw [if_pos rfl, if_pos (by omega), upd_same]
  · rw [if_neg e, upd_other _ _ (fun x => e x.symm)]
    exact h3 j hj
end
/-- Both lists hold the same. -/
theorem cSameInts {w : World} {va vb : Value} {n : Nat} {zs : List Int} (ha : IRow w 3 1 va n zs) (hb : IRow w 3 1 vb n zs) (hn : n ≤ 1000000) : Calls Tryz.prog 95 #[va, vb] w fun e w' => e = .returned (.bool true) ∧ w' = w := by
  obtain ⟨aa, ca, rfl⟩ := Row.shape ha
  obtain ⟨ab, cb, rfl⟩ := Row.shape hb
  have HA : Hid _ := ha
  have HB : Hid _ := hb
  clear ha hb
  go_enter Tryz.func95, Tryz.ntmps95
  go_wp2
  go_loopw [5] (fun i wx => ∃ k : Nat, k ≤ n ∧ i = .int .i64 k ∧ Hid (wx = w)) (fun i _ => n - (intOf i).toNat)
  case atStart => exact ⟨0, Nat.zero_le _, rfl, rfl⟩
  case round =>
    obtain ⟨k, hk, rfl, HW⟩ := hrel
    obtain rfl := HW.out
    by_cases hkn : k < n
    · obtain ⟨ga, ca', cua, ea, -, -⟩ := Row.form HA.out (by omega)
      obtain ⟨gb, cb', cub, eb, -, -⟩ := Row.form HB.out (by omega)
      simp only [Value.slice.injEq, true_and] at ea eb
      obtain ⟨rfl, rfl⟩ := ea
      obtain ⟨rfl, rfl⟩ := eb
      have c1 := IRow.cell HA.out (j := k) (by omega)
      have c2 := IRow.cell HB.out (j := k) (by omega)
      have hlt : (k : Int) < (n : Int) := by omega
      go_wp2
      exact ⟨⟨k + 1, by omega, by go_num, trivial⟩, by simp [intOf]; omega⟩
    · have : k = n := by omega
      subst this
      go_wp2
      go_ret
      exact ⟨rfl, rfl⟩
theorem cSameSlots {w : World} {va vb : Value} {n : Nat} {zs : List Int} (ha : IRow w 64 7 va n zs) (hb : IRow w 64 7 vb n zs) (hn : n ≤ 1000000) : Calls Tryz.prog 98 #[va, vb] w fun e w' => e = .returned (.bool true) ∧ Turned [] w w' := by
  obtain ⟨aa, ca, rfl⟩ := Row.shape ha
  obtain ⟨ab, cb, rfl⟩ := Row.shape hb
  have HA : Hid _ := ha
  have HB : Hid _ := hb
  clear ha hb
  go_enter Tryz.func98, Tryz.ntmps98
  go_wp2
  go_loopw [5] (fun i wx => ∃ k : Nat, k ≤ n ∧ i = .int .i64 k ∧ Hid (Turned [] w wx)) (fun i _ => n - (intOf i).toNat)
  case atStart => exact ⟨0, Nat.zero_le _, rfl, Turned.refl _ _⟩
  case round =>
    obtain ⟨k, hk, rfl, HT⟩ := hrel
    by_cases hkn : k < n
    · obtain ⟨ga, ca', cua, ea, hga, -⟩ := Row.form HA.out (by omega)
      obtain ⟨gb, cb', cub, eb, hgb, -⟩ := Row.form HB.out (by omega)
      simp only [Value.slice.injEq, true_and] at ea eb
      obtain ⟨rfl, rfl⟩ := ea
      obtain ⟨rfl, rfl⟩ := eb
      have ra := Row.keep HA.out HT.out (by simp)
      have rb := Row.keep HB.out HT.out (by simp)
      have hla := lt_of_heap (HT.out.heap hga (by simp))
      have hlb := lt_of_heap (HT.out.heap hgb (by simp))
      have na : ¬ ga = wr.heap.size := by omega
      have nb : ¬ gb = wr.heap.size := by omega
      have na2 : ¬ ga = wr.heap.size + 1 := by omega
      have nb2 : ¬ gb = wr.heap.size + 1 := by omega
      have a0 : wr.cell? ⟨ga, k * 7, none⟩ = some (.int .i64 (zs.getD (k * 7) 0)) := IRow.cell ra (j := k * 7) (by omega)
      have a1 : wr.cell? ⟨ga, k * 7 + 1, none⟩ = some (.int .i64 (zs.getD (k * 7 + 1) 0)) := IRow.cell ra (j := k * 7 + 1) (by omega)
      have a2 : wr.cell? ⟨ga, k * 7 + 2, none⟩ = some (.int .i64 (zs.getD (k * 7 + 2) 0)) := IRow.cell ra (j := k * 7 + 2) (by omega)
      have a3 : wr.cell? ⟨ga, k * 7 + 3, none⟩ = some (.int .i64 (zs.getD (k * 7 + 3) 0)) := IRow.cell ra (j := k * 7 + 3) (by omega)
      have a4 : wr.cell? ⟨ga, k * 7 + 4, none⟩ = some (.int .i64 (zs.getD (k * 7 + 4) 0)) := IRow.cell ra (j := k * 7 + 4) (by omega)
      have a5 : wr.cell? ⟨ga, k * 7 + 5, none⟩ = some (.int .i64 (zs.getD (k * 7 + 5) 0)) := IRow.cell ra (j := k * 7 + 5) (by omega)
      have a6 : wr.cell? ⟨ga, k * 7 + 6, none⟩ = some (.int .i64 (zs.getD (k * 7 + 6) 0)) := IRow.cell ra (j := k * 7 + 6) (by omega)
      have b0 : wr.cell? ⟨gb, k * 7, none⟩ = some (.int .i64 (zs.getD (k * 7) 0)) := IRow.cell rb (j := k * 7) (by omega)
      have b1 : wr.cell? ⟨gb, k * 7 + 1, none⟩ = some (.int .i64 (zs.getD (k * 7 + 1) 0)) := IRow.cell rb (j := k * 7 + 1) (by omega)
      have b2 : wr.cell? ⟨gb, k * 7 + 2, none⟩ = some (.int .i64 (zs.getD (k * 7 + 2) 0)) := IRow.cell rb (j := k * 7 + 2) (by omega)
      have b3 : wr.cell? ⟨gb, k * 7 + 3, none⟩ = some (.int .i64 (zs.getD (k * 7 + 3) 0)) := IRow.cell rb (j := k * 7 + 3) (by omega)
      have b4 : wr.cell? ⟨gb, k * 7 + 4, none⟩ = some (.int .i64 (zs.getD (k * 7 + 4) 0)) := IRow.cell rb (j := k * 7 + 4) (by omega)
      have b5 : wr.cell? ⟨gb, k * 7 + 5, none⟩ = some (.int .i64 (zs.getD (k * 7 + 5) 0)) := IRow.cell rb (j := k * 7 + 5) (by omega)
      have b6 : wr.cell? ⟨gb, k * 7 + 6, none⟩ = some (.int .i64 (zs.getD (k * 7 + 6) 0)) := IRow.cell rb (j := k * 7 + 6) (by omega)
      generalize zs.getD (k * 7) 0 = z0 at a0 b0
      generalize zs.getD (k * 7 + 1) 0 = z1 at a1 b1
      generalize zs.getD (k * 7 + 2) 0 = z2 at a2 b2
      generalize zs.getD (k * 7 + 3) 0 = z3 at a3 b3
      generalize zs.getD (k * 7 + 4) 0 = z4 at a4 b4
      generalize zs.getD (k * 7 + 5) 0 = z5 at a5 b5
      generalize zs.getD (k * 7 + 6) 0 = z6 at a6 b6
      have hlt : (k : Int) < (n : Int) := by omega
      clear ra rb hga hgb
      go_wp2
      exact ⟨⟨k + 1, by omega, by go_num, (HT.out.alloc _).alloc _⟩, by simp [intOf]; omega⟩
    · have : k = n := by omega
      subst this
      go_wp2
      go_ret
      exact ⟨rfl, HT.out⟩
/-- When a list is due. -/
def dueV (turn k : Int) : Int := if k % 3 = 0 then turn else if k % 3 = 1 then turn + 1 + k / 3 % 8 else turn + 1
theorem dueV_le {turn k : Int} : turn ≤ dueV turn k ∧ dueV turn k ≤ turn + 9 := by
  unfold dueV
  split
  · omega
  · split <;> omega
theorem cDue {w : World} {bb : Nat} {f : Nat → Value} {turn k : Int} (h : BK w bb f) (h0 : f 0 = .bool false) (h2 : f 2 = .int .i64 turn) (ht0 : 0 ≤ turn) (ht1 : turn ≤ 1000000) (hk0 : 0 ≤ k) (hk1 : k ≤ 1000000) :
    Calls Tryz.prog 93 #[.pointer (some ⟨bb, 0, none⟩), .int .i64 k] w fun e w' => e = .returned (.int .i64 (dueV turn k)) ∧ w' = w := by
  have c0 := h.cell (i := 0) (by omega)
  have c2 := h.cell (i := 2) (by omega)
  rw [h0] at c0
  rw [h2] at c2
  clear h h0 h2
  unfold dueV
  rcases (by omega : k % 3 = 0 ∨ k % 3 = 1 ∨ k % 3 = 2) with e | e | e
  · have d3 : (k % 3 == 0) = true := by simp [e]
    rw [if_pos e]
    go_enter Tryz.func93, Tryz.ntmps93
    go_wp2
    go_ret
    exact ⟨rfl, rfl⟩
  · have d3 : (k % 3 == 0) = false := by simp; omega
    have d4 : (k % 3 == 1) = true := by simp [e]
    rw [if_neg (by omega), if_pos e]
    go_enter Tryz.func93, Tryz.ntmps93
    go_wp2
    go_ret
    exact ⟨rfl, rfl⟩
  · have d3 : (k % 3 == 0) = false := by simp; omega
    have d4 : (k % 3 == 1) = false := by simp; omega
    rw [if_neg (by omega), if_neg (by omega)]
    go_enter Tryz.func93, Tryz.ntmps93
    go_wp2
    go_ret
    exact ⟨rfl, rfl⟩
end Go.Proofs.YtjbhnpofdafmbaaGreatDoor
/- Who owns what in the book: a tag for each block. -/
namespace Go.Proofs.YtjbhnpofdafmbaaGreatDoor
open Go.RowKit
inductive Tg where
  | tO | tT | tW | tN | tF | tM | tD | tR | kept | old | bk
  | lst (id : Nat)
abbrev Own := Nat → Option (Nat × Tg)
/-- The slice's block, if there is one, bears that tag. -/
def Has (C : Own) (κ : Nat) (t : Tg) (v : Value) : Prop := ∀ g, v.ownBlock = some g → C g = some (κ, t)
theorem Has.nil (C : Own) (κ : Nat) (t : Tg) : Has C κ t (.slice none 0 0) := fun g h => by simp [Value.ownBlock] at h
/-- All that is owned is there, and the book's block is the book's. -/
structure Fit (C : Own) (w : World) (bb : Nat) : Prop where
  dom : ∀ g, C g ≠ none → g < w.heap.size
  bk : C bb = some (0, .bk)
/-- Of what was there blocks with one of these tags, and the book, alone may have turned; what is new may be owned now. -/
structure Stp (S : Nat × Tg → Prop) (bb : Nat) (C : Own) (w : World) (C' : Own) (w' : World) : Prop where
  os : w'.os = w.os
  tape : w'.tape = w.tape
  output : w'.output = w.output
  size : w.heap.size ≤ w'.heap.size
  blk : ∀ g, g < w.heap.size → g ≠ bb → (∀ x, C g = some x → ¬ S x) → w'.heap[g]? = w.heap[g]?
  own : ∀ g, g < w.heap.size → C' g = C g
section
variable {S S' : Nat × Tg → Prop} {bb : Nat} {C C' C2 : Own} {w w' w2 : World} {κ : Nat} {t : Tg} {v : Value}
theorem Stp.refl (S : Nat × Tg → Prop) (bb : Nat) (C : Own) (w : World) : Stp S bb C w C w := ⟨rfl, rfl, rfl, Nat.le_refl _, fun _ _ _ _ => rfl, fun _ _ => rfl⟩
theorem Stp.trans (h : Stp S bb C w C' w') (k : Stp S bb C' w' C2 w2) : Stp S bb C w C2 w2 :=
  ⟨k.os.trans h.os, k.tape.trans h.tape, k.output.trans h.output, Nat.le_trans h.size k.size,
   fun g hg hb hS => (k.blk g (Nat.lt_of_lt_of_le hg h.size) hb (fun x hx => hS x (by rw [← h.own g hg]; exact hx))).trans (h.blk g hg hb hS),
   fun g hg => (k.own g (Nat.lt_of_lt_of_le hg h.size)).trans (h.own g hg)⟩
theorem Stp.mono (h : Stp S bb C w C' w') (hs : ∀ x, S x → S' x) : Stp S' bb C w C' w' :=
  ⟨h.os, h.tape, h.output, h.size, fun g hg hb hS => h.blk g hg hb (fun x hx hx2 => hS x hx (hs x hx2)), h.own⟩
theorem Stp.heap (h : Stp S bb C w C' w') {g : Nat} {o : Obj} (ho : w.heap[g]? = some o) (hb : g ≠ bb) (hS : ∀ x, C g = some x → ¬ S x) : w'.heap[g]? = some o := (h.blk g (lt_of_heap ho) hb hS).trans ho
/-- A row that bears another tag is there still. -/
theorem Stp.row (h : Stp S bb C w C' w') (hF : Fit C w bb) {B e sz n : Nat} {xs : List Value} (hr : w.ownsRow B e sz v n xs) (hh : Has C κ t v) (hk : t ≠ .bk) (hS : ¬ S (κ, t)) : w'.ownsRow B e sz v n xs := by
  refine ⟨hr.1, ?_⟩
  rcases hr.2 with hx | ⟨g, cap, cur, rfl, h1, h2, h3⟩
  · exact .inl hx
  · have hg := hh g rfl
    refine .inr ⟨g, cap, cur, rfl, h1, h.heap h2 (fun e => ?_) (fun x hx => ?_), h3⟩
    · rw [e, hF.bk] at hg
      injection hg with hg
      injection hg with _ hg
      exact hk hg.symm
    · rw [hg] at hx
      injection hx with hx
      rw [← hx]
      exact hS
theorem Stp.has (h : Stp S bb C w C' w') (hF : Fit C w bb) (hh : Has C κ t v) : Has C' κ t v := fun g hg => (h.own g (hF.dom g (by rw [hh g hg]; simp))).trans (hh g hg)
theorem Stp.fit (h : Stp S bb C w C' w') (hF : Fit C w bb) (hd : ∀ g, C' g ≠ none → g < w'.heap.size) : Fit C' w' bb := ⟨hd, (h.own bb (hF.dom bb (by rw [hF.bk]; simp))).trans hF.bk⟩
/-- Nothing of the owner's turned. -/
theorem Stp.of {l : List Nat} (ht : Turned l w w') (hl : ∀ x, x ∈ l → x = bb ∨ w.heap.size ≤ x ∨ ∃ y, C x = some y ∧ S y) : Stp S bb C w C w' :=
  ⟨ht.os, ht.tape, ht.output, ht.size, fun g hg hb hS => ht.block g hg (fun hgl => by
    rcases hl g hgl with h1 | h1 | ⟨y, h1, h2⟩
    · exact hb h1
    · omega
    · exact hS y h1 h2), fun _ _ => rfl⟩
theorem Fit.of (hF : Fit C w bb) {l : List Nat} (ht : Turned l w w') : Fit C w' bb := ⟨fun g hg => Nat.lt_of_lt_of_le (hF.dom g hg) ht.size, hF.bk⟩
/-- A block that is new is owned. -/
def take1 (C : Own) (κ : Nat) (t : Tg) (v : Value) (B : Nat) : Own := fun g => if v.ownBlock = some g ∧ B ≤ g then some (κ, t) else C g
theorem take1_low {B g : Nat} (hg : g < B) : take1 C κ t v B g = C g := by
  unfold take1
  rw [if_neg]
  omega
theorem take1_has {B : Nat} (h : ∀ g, v.ownBlock = some g → B ≤ g ∨ C g = some (κ, t)) : Has (take1 C κ t v B) κ t v := fun g hg => by
  unfold take1
  by_cases hb : B ≤ g
  · rw [if_pos ⟨hg, hb⟩]
  · rw [if_neg (by omega)]
    exact (h g hg).resolve_left hb
/-- 'b.X = append(b.X, y)': what it leaves. -/
theorem app_field {f : Nat → Value} {i e n : Nat} {xs : List Value} {y v' : Value} {w1 w2 : World} (hF : Fit C w bb) (hB : BK w bb f) (hi : i < 103) (hh : Has C κ t (f i)) (hk : t ≠ .bk)
    (h1 : Turned [] w w1) (ho : Onto w1 w2 (f i) v' n 1) (hr : w2.ownsRow 0 e 1 v' (n + 1) (xs ++ [y])) :
    ∃ C', Fit C' (w2.setCell ⟨bb, i, none⟩ v') bb ∧ Stp (fun x => x = (κ, t)) bb C w C' (w2.setCell ⟨bb, i, none⟩ v') ∧ BK (w2.setCell ⟨bb, i, none⟩ v') bb (upd f i v') ∧ (w2.setCell ⟨bb, i, none⟩ v').ownsRow 0 e 1 v' (n + 1) (xs ++ [y]) ∧ Has C' κ t v' := by
  have hbne : ∀ g, (f i).ownBlock = some g → g ≠ bb := fun g hg e => by
    have := hh g hg
    rw [e, hF.bk] at this
    injection this with this
    injection this with _ this
    exact hk this.symm
  have hbl := hB.lt
  have hs1 := h1.size
  have hs2 := ho.turned.size
  have hb1 : BK w1 bb f := hB.keep h1 (by simp)
  have hb2 : BK w2 bb f := hb1.keep ho.turned (by
    intro hx
    exact hbne bb (by simpa using hx) rfl)
  have hvb : ∀ g, v'.ownBlock = some g → g ≠ bb := fun g hg => by
    rcases ho.block with h | ⟨g', h, h2⟩
    · exact hbne g (by rw [← h]; exact hg)
    · rw [hg] at h
      injection h with h
      omega
  have hT : Turned (bb :: (f i).ownBlock.toList) w (w2.setCell ⟨bb, i, none⟩ v') :=
    ((h1.mono (m := bb :: (f i).ownBlock.toList) (by simp)).trans (ho.turned.mono (by intro x hx; exact List.mem_cons_of_mem _ hx))).set (.inl (by simp)) _ _
  have hS : Stp (fun x => x = (κ, t)) bb C w C (w2.setCell ⟨bb, i, none⟩ v') := Stp.of hT (fun x hx => by
    rcases List.mem_cons.1 hx with h | h
    · exact .inl h
    · exact .inr (.inr ⟨(κ, t), hh x (by simpa using h), rfl⟩))
  have hrow : (w2.setCell ⟨bb, i, none⟩ v').ownsRow 0 e 1 v' (n + 1) (xs ++ [y]) := Row.keep hr ((Turned.refl [bb] w2).set (.inl (by simp)) _ _) (fun g hg => by simp; exact hvb g hg)
  refine ⟨take1 C κ t v' w.heap.size, ?_, ?_, hb2.put hi v', hrow, ?_⟩
  · refine ⟨fun g hg => ?_, ?_⟩
    · by_cases hlt : g < w.heap.size
      · have := hS.size
        omega
      · unfold take1 at hg
        by_cases hc : v'.ownBlock = some g ∧ w.heap.size ≤ g
        · exact (hrow.lt g hc.1).2
        · rw [if_neg hc] at hg
          exact absurd (hF.dom g hg) hlt
    · rw [take1_low hbl]
      exact hF.bk
  · exact ⟨hS.os, hS.tape, hS.output, hS.size, hS.blk, fun g hg => take1_low hg⟩
  · refine take1_has fun g hg => ?_
    rcases ho.block with h | ⟨g', h, h2⟩
    · exact .inr (hh g (by rw [← h]; exact hg))
    · rw [hg] at h
      injection h with h
      exact .inl (by omega)
theorem onto_bk {f : Nat → Value} {v' : Value} {w1 w2 : World} {n m : Nat} (hF : Fit C w bb) (hB : BK w1 bb f) (hh : Has C κ t v) (hk : t ≠ .bk) (ho : Onto w1 w2 v v' n m) : BK w2 bb f := hB.keep ho.turned (by
  intro hx
  have := hh bb (by simpa using hx)
  rw [hF.bk] at this
  injection this with this
  injection this with _ this
  exact hk this.symm)
/-- What was made is owned. -/
theorem own_new {e sz n : Nat} {xs : List Value} {w2 : World} (hF : Fit C w bb) (ht : Turned [] w w2) (hr : w2.ownsRow w.heap.size e sz v n xs) :
    Fit (take1 C κ t v w.heap.size) w2 bb ∧ Stp (fun _ => False) bb C w (take1 C κ t v w.heap.size) w2 ∧ Has (take1 C κ t v w.heap.size) κ t v := by
  have hS : Stp (fun _ => False) bb C w C w2 := Stp.of ht (by simp)
  have hbl := hF.dom bb (by rw [hF.bk]; simp)
  refine ⟨⟨fun g hg => ?_, (take1_low hbl).trans hF.bk⟩, ⟨hS.os, hS.tape, hS.output, hS.size, hS.blk, fun g hg => take1_low hg⟩, take1_has fun g hg => .inl (hr.lt g hg).1⟩
  unfold take1 at hg
  by_cases hc : v.ownBlock = some g ∧ w.heap.size ≤ g
  · exact (hr.lt g hc.1).2
  · rw [if_neg hc] at hg
    exact Nat.lt_of_lt_of_le (hF.dom g hg) ht.size
end
end Go.Proofs.YtjbhnpofdafmbaaGreatDoor
/- One kind of lists in the book. -/
namespace Go.Proofs.YtjbhnpofdafmbaaGreatDoor
open Go.RowKit
/-- A list that was handed out and marked, and what it must hold. -/
structure Ot where
  o : Value
  c : Value
  n : Nat
  zs : List Int
  id : Nat
/-- A list that waits. -/
structure Wt where
  l : Value
  c : Value
  n : Nat
  zs : List Int
  mark : Int
  due : Int
  id : Nat
/-- A list that is marked and not laid on yet. -/
structure Fh where
  l : Value
  n : Nat
  zs : List Int
  mark : Int
  id : Nat
/-- A kind: its number, its elements' type and size, the type of its lists, its first cell in the book. -/
structure KC where
  κ : Nat
  e : TypeId
  sz : Nat
  ls : TypeId
  b : Nat
def small (z : Int) : Prop := -2000000 ≤ z ∧ z ≤ 2000000
structure KRows (C : Own) (w : World) (kc : KC) (ot : List Ot) (wn : List Wt) (fr : List Fh) : Prop where
  pO : ∀ q ∈ ot, IRow w kc.e kc.sz q.o q.n q.zs ∧ IRow w kc.e kc.sz q.c q.n q.zs ∧ q.n ≤ 5000 ∧ Has C kc.κ (.lst q.id) q.o ∧ Has C kc.κ .kept q.c ∧ ∀ x ∈ wn, x.id ≠ q.id
  pW : ∀ q ∈ wn, IRow w kc.e kc.sz q.l q.n q.zs ∧ IRow w kc.e kc.sz q.c q.n q.zs ∧ q.n ≤ 4500 ∧ Has C kc.κ (.lst q.id) q.l ∧ Has C kc.κ .kept q.c ∧ small q.mark ∧ small q.due
  pF : ∀ q ∈ fr, IRow w kc.e kc.sz q.l q.n q.zs ∧ q.n ≤ 4500 ∧ Has C kc.κ (.lst q.id) q.l ∧ small q.mark
  ids : (wn.map (·.id) ++ fr.map (·.id)).Nodup
  link : ∀ q ∈ ot, ∀ x ∈ fr, x.id = q.id → q.o = x.l ∧ q.n = x.n ∧ q.zs = x.zs
/-- One of the book's own slices. -/
def RowAt (C : Own) (w : World) (κ : Nat) (tg : Tg) (ty : TypeId) (v : Value) (xs : List Value) : Prop := w.ownsRow 0 ty 1 v xs.length xs ∧ Has C κ tg v
structure KOut (C : Own) (w : World) (kc : KC) (f : Nat → Value) (xo xt xw xn xf xm xd xr : List Value) : Prop where
  rO : RowAt C w kc.κ .tO kc.ls (f kc.b) xo
  rT : RowAt C w kc.κ .tT kc.ls (f (kc.b + 1)) xt
  rW : RowAt C w kc.κ .tW kc.ls (f (kc.b + 2)) xw
  rN : RowAt C w kc.κ .tN kc.ls (f (kc.b + 3)) xn
  rF : RowAt C w kc.κ .tF kc.ls (f (kc.b + 4)) xf
  rM : RowAt C w kc.κ .tM 3 (f (kc.b + 5)) xm
  rD : RowAt C w kc.κ .tD 3 (f (kc.b + 6)) xd
  rR : RowAt C w kc.κ .tR 3 (f (kc.b + 7)) xr
section
variable {S : Nat × Tg → Prop} {bb : Nat} {C C' : Own} {w w' : World} {kc : KC} {f f' : Nat → Value} {ot : List Ot} {wn : List Wt} {fr : List Fh} {xo xt xw xn xf xm xd xr : List Value}
theorem RowAt.nil (C : Own) (w : World) (κ : Nat) (tg : Tg) (ty : TypeId) : RowAt C w κ tg ty (.slice none 0 0) [] := ⟨World.ownsRow_nil _ _ _ _, Has.nil _ _ _⟩
theorem RowAt.step {κ : Nat} {tg : Tg} {ty : TypeId} {v : Value} {xs : List Value} (h : RowAt C w κ tg ty v xs) (hF : Fit C w bb) (k : Stp S bb C w C' w') (hk : tg ≠ .bk) (hS : ¬ S (κ, tg)) : RowAt C' w' κ tg ty v xs := ⟨k.row hF h.1 h.2 hk hS, k.has hF h.2⟩
/-- The lists are there still where their tags are not among those that turned. -/
theorem KRows.step (h : KRows C w kc ot wn fr) (hF : Fit C w bb) (k : Stp S bb C w C' w') (hS : ¬ S (kc.κ, .kept)) (hI : ∀ id, ¬ S (kc.κ, .lst id)) : KRows C' w' kc ot wn fr := by
  refine ⟨fun q hq => ?_, fun q hq => ?_, fun q hq => ?_, h.ids, h.link⟩
  · obtain ⟨h1, h2, h3, h4, h5, h6⟩ := h.pO q hq
    exact ⟨k.row hF h1 h4 (by simp) (hI _), k.row hF h2 h5 (by simp) hS, h3, k.has hF h4, k.has hF h5, h6⟩
  · obtain ⟨h1, h2, h3, h4, h5, h6⟩ := h.pW q hq
    exact ⟨k.row hF h1 h4 (by simp) (hI _), k.row hF h2 h5 (by simp) hS, h3, k.has hF h4, k.has hF h5, h6⟩
  · obtain ⟨h1, h2, h3, h4⟩ := h.pF q hq
    exact ⟨k.row hF h1 h3 (by simp) (hI _), h2, k.has hF h3, h4⟩
theorem KOut.step (h : KOut C w kc f xo xt xw xn xf xm xd xr) (hF : Fit C w bb) (k : Stp S bb C w C' w') (hS : ∀ tg : Tg, ¬ S (kc.κ, tg) ∨ tg = .bk ∨ tg = .kept ∨ tg = .old ∨ ∃ id, tg = .lst id) (hf : ∀ i, i < 8 → f' (kc.b + i) = f (kc.b + i)) : KOut C' w' kc f' xo xt xw xn xf xm xd xr := by
  have e0 := hf 0 (by omega)
  rw [Nat.add_zero] at e0
  refine ⟨?_, ?_, ?_, ?_, ?_, ?_, ?_, ?_⟩
  · rw [e0]; exact h.rO.step hF k (by simp) (by rcases hS .tO with h | h | h | h | ⟨id, h⟩ <;> first | exact h | cases h)
  · rw [hf 1 (by omega)]; exact h.rT.step hF k (by simp) (by rcases hS .tT with h | h | h | h | ⟨id, h⟩ <;> first | exact h | cases h)
  · rw [hf 2 (by omega)]; exact h.rW.step hF k (by simp) (by rcases hS .tW with h | h | h | h | ⟨id, h⟩ <;> first | exact h | cases h)
  · rw [hf 3 (by omega)]; exact h.rN.step hF k (by simp) (by rcases hS .tN with h | h | h | h | ⟨id, h⟩ <;> first | exact h | cases h)
  · rw [hf 4 (by omega)]; exact h.rF.step hF k (by simp) (by rcases hS .tF with h | h | h | h | ⟨id, h⟩ <;> first | exact h | cases h)
  · rw [hf 5 (by omega)]; exact h.rM.step hF k (by simp) (by rcases hS .tM with h | h | h | h | ⟨id, h⟩ <;> first | exact h | cases h)
  · rw [hf 6 (by omega)]; exact h.rD.step hF k (by simp) (by rcases hS .tD with h | h | h | h | ⟨id, h⟩ <;> first | exact h | cases h)
  · rw [hf 7 (by omega)]; exact h.rR.step hF k (by simp) (by rcases hS .tR with h | h | h | h | ⟨id, h⟩ <;> first | exact h | cases h)
/-- 'b.X = append(b.X, y)' of the kind's slice number 0. -/
theorem KOut.push0 {y v' : Value} {w1 w2 : World} (h : KOut C w kc f xo xt xw xn xf xm xd xr) (hF : Fit C w bb) (hB : BK w bb f) (hb : kc.b + 9 ≤ 103) (h1 : Turned [] w w1) (ho : Onto w1 w2 (f kc.b) v' xo.length 1) (hr : w2.ownsRow 0 kc.ls 1 v' (xo.length + 1) (xo ++ [y])) :
    ∃ C', Fit C' (w2.setCell ⟨bb, kc.b, none⟩ v') bb ∧ Stp (fun x => x = (kc.κ, .tO)) bb C w C' (w2.setCell ⟨bb, kc.b, none⟩ v') ∧ BK (w2.setCell ⟨bb, kc.b, none⟩ v') bb (upd f kc.b v') ∧ KOut C' (w2.setCell ⟨bb, kc.b, none⟩ v') kc (upd f kc.b v') (xo ++ [y]) xt xw xn xf xm xd xr := by
  obtain ⟨C', c1, c2, c3, c4, c5⟩ := app_field hF hB (i := kc.b) (by omega) h.rO.2 (by simp) h1 ho hr
  refine ⟨C', c1, c2, c3, ?_, ?_, ?_, ?_, ?_, ?_, ?_, ?_⟩
  · rw [upd_same]; exact ⟨by simpa using c4, c5⟩
  · rw [upd_other _ _ (by omega)]; exact h.rT.step hF c2 (by simp) (by simp)
  · rw [upd_other _ _ (by omega)]; exact h.rW.step hF c2 (by simp) (by simp)
  · rw [upd_other _ _ (by omega)]; exact h.rN.step hF c2 (by simp) (by simp)
  · rw [upd_other _ _ (by omega)]; exact h.rF.step hF c2 (by simp) (by simp)
  · rw [upd_other _ _ (by omega)]; exact h.rM.step hF c2 (by simp) (by simp)
  · rw [upd_other _ _ (by omega)]; exact h.rD.step hF c2 (by simp) (by simp)
  · rw [upd_other _ _ (by omega)]; exact h.rR.step hF c2 (by simp) (by simp)
/-- 'b.X = append(b.X, y)' of the kind's slice number 1. -/
theorem KOut.push1 {y v' : Value} {w1 w2 : World} (h : KOut C w kc f xo xt xw xn xf xm xd xr) (hF : Fit C w bb) (hB : BK w bb f) (hb : kc.b + 9 ≤ 103) (h1 : Turned [] w w1) (ho : Onto w1 w2 (f (kc.b + 1)) v' xt.length 1) (hr : w2.ownsRow 0 kc.ls 1 v' (xt.length + 1) (xt ++ [y])) :
    ∃ C', Fit C' (w2.setCell ⟨bb, (kc.b + 1), none⟩ v') bb ∧ Stp (fun x => x = (kc.κ, .tT)) bb C w C' (w2.setCell ⟨bb, (kc.b + 1), none⟩ v') ∧ BK (w2.setCell ⟨bb, (kc.b + 1), none⟩ v') bb (upd f (kc.b + 1) v') ∧ KOut C' (w2.setCell ⟨bb, (kc.b + 1), none⟩ v') kc (upd f (kc.b + 1) v') xo (xt ++ [y]) xw xn xf xm xd xr := by
  obtain ⟨C', c1, c2, c3, c4, c5⟩ := app_field hF hB (i := (kc.b + 1)) (by omega) h.rT.2 (by simp) h1 ho hr
  refine ⟨C', c1, c2, c3, ?_, ?_, ?_, ?_, ?_, ?_, ?_, ?_⟩
  · rw [upd_other _ _ (by omega)]; exact h.rO.step hF c2 (by simp) (by simp)
  · rw [upd_same]; exact ⟨by simpa using c4, c5⟩
  · rw [upd_other _ _ (by omega)]; exact h.rW.step hF c2 (by simp) (by simp)
  · rw [upd_other _ _ (by omega)]; exact h.rN.step hF c2 (by simp) (by simp)
  · rw [upd_other _ _ (by omega)]; exact h.rF.step hF c2 (by simp) (by simp)
  · rw [upd_other _ _ (by omega)]; exact h.rM.step hF c2 (by simp) (by simp)
  · rw [upd_other _ _ (by omega)]; exact h.rD.step hF c2 (by simp) (by simp)
  · rw [upd_other _ _ (by omega)]; exact h.rR.step hF c2 (by simp) (by simp)
/-- 'b.X = append(b.X, y)' of the kind's slice number 2. -/
theorem KOut.push2 {y v' : Value} {w1 w2 : World} (h : KOut C w kc f xo xt xw xn xf xm xd xr) (hF : Fit C w bb) (hB : BK w bb f) (hb : kc.b + 9 ≤ 103) (h1 : Turned [] w w1) (ho : Onto w1 w2 (f (kc.b + 2)) v' xw.length 1) (hr : w2.ownsRow 0 kc.ls 1 v' (xw.length + 1) (xw ++ [y])) :
    ∃ C', Fit C' (w2.setCell ⟨bb, (kc.b + 2), none⟩ v') bb ∧ Stp (fun x => x = (kc.κ, .tW)) bb C w C' (w2.setCell ⟨bb, (kc.b + 2), none⟩ v') ∧ BK (w2.setCell ⟨bb, (kc.b + 2), none⟩ v') bb (upd f (kc.b + 2) v') ∧ KOut C' (w2.setCell ⟨bb, (kc.b + 2), none⟩ v') kc (upd f (kc.b + 2) v') xo xt (xw ++ [y]) xn xf xm xd xr := by
  obtain ⟨C', c1, c2, c3, c4, c5⟩ := app_field hF hB (i := (kc.b + 2)) (by omega) h.rW.2 (by simp) h1 ho hr
  refine ⟨C', c1, c2, c3, ?_, ?_, ?_, ?_, ?_, ?_, ?_, ?_⟩
  · rw [upd_other _ _ (by omega)]; exact h.rO.step hF c2 (by simp) (by simp)
  · rw [upd_other _ _ (by omega)]; exact h.rT.step hF c2 (by simp) (by simp)
  · rw [upd_same]; exact ⟨by simpa using c4, c5⟩
  · rw [upd_other _ _ (by omega)]; exact h.rN.step hF c2 (by simp) (by simp)
  · rw [upd_other _ _ (by omega)]; exact h.rF.step hF c2 (by simp) (by simp)
  · rw [upd_other _ _ (by omega)]; exact h.rM.step hF c2 (by simp) (by simp)
  · rw [upd_other _ _ (by omega)]; exact h.rD.step hF c2 (by simp) (by simp)
  · rw [upd_other _ _ (by omega)]; exact h.rR.step hF c2 (by simp) (by simp)
/-- 'b.X = append(b.X, y)' of the kind's slice number 3. -/
theorem KOut.push3 {y v' : Value} {w1 w2 : World} (h : KOut C w kc f xo xt xw xn xf xm xd xr) (hF : Fit C w bb) (hB : BK w bb f) (hb : kc.b + 9 ≤ 103) (h1 : Turned [] w w1) (ho : Onto w1 w2 (f (kc.b + 3)) v' xn.length 1) (hr : w2.ownsRow 0 kc.ls 1 v' (xn.length + 1) (xn ++ [y])) :
    ∃ C', Fit C' (w2.setCell ⟨bb, (kc.b + 3), none⟩ v') bb ∧ Stp (fun x => x = (kc.κ, .tN)) bb C w C' (w2.setCell ⟨bb, (kc.b + 3), none⟩ v') ∧ BK (w2.setCell ⟨bb, (kc.b + 3), none⟩ v') bb (upd f (kc.b + 3) v') ∧ KOut C' (w2.setCell ⟨bb, (kc.b + 3), none⟩ v') kc (upd f (kc.b + 3) v') xo xt xw (xn ++ [y]) xf xm xd xr := by
  obtain ⟨C', c1, c2, c3, c4, c5⟩ := app_field hF hB (i := (kc.b + 3)) (by omega) h.rN.2 (by simp) h1 ho hr
  refine ⟨C', c1, c2, c3, ?_, ?_, ?_, ?_, ?_, ?_, ?_, ?_⟩
  · rw [upd_other _ _ (by omega)]; exact h.rO.step hF c2 (by simp) (by simp)
  · rw [upd_other _ _ (by omega)]; exact h.rT.step hF c2 (by simp) (by simp)
  · rw [upd_other _ _ (by omega)]; exact h.rW.step hF c2 (by simp) (by simp)
  · rw [upd_same]; exact ⟨by simpa using c4, c5⟩
  · rw [upd_other _ _ (by omega)]; exact h.rF.step hF c2 (by simp) (by simp)
  · rw [upd_other _ _ (by omega)]; exact h.rM.step hF c2 (by simp) (by simp)
  · rw [upd_other _ _ (by omega)]; exact h.rD.step hF c2 (by simp) (by simp)
  · rw [upd_other _ _ (by omega)]; exact h.rR.step hF c2 (by simp) (by simp)
/-- 'b.X = append(b.X, y)' of the kind's slice number 4. -/
theorem KOut.push4 {y v' : Value} {w1 w2 : World} (h : KOut C w kc f xo xt xw xn xf xm xd xr) (hF : Fit C w bb) (hB : BK w bb f) (hb : kc.b + 9 ≤ 103) (h1 : Turned [] w w1) (ho : Onto w1 w2 (f (kc.b + 4)) v' xf.length 1) (hr : w2.ownsRow 0 kc.ls 1 v' (xf.length + 1) (xf ++ [y])) :
    ∃ C', Fit C' (w2.setCell ⟨bb, (kc.b + 4), none⟩ v') bb ∧ Stp (fun x => x = (kc.κ, .tF)) bb C w C' (w2.setCell ⟨bb, (kc.b + 4), none⟩ v') ∧ BK (w2.setCell ⟨bb, (kc.b + 4), none⟩ v') bb (upd f (kc.b + 4) v') ∧ KOut C' (w2.setCell ⟨bb, (kc.b + 4), none⟩ v') kc (upd f (kc.b + 4) v') xo xt xw xn (xf ++ [y]) xm xd xr := by
  obtain ⟨C', c1, c2, c3, c4, c5⟩ := app_field hF hB (i := (kc.b + 4)) (by omega) h.rF.2 (by simp) h1 ho hr
  refine ⟨C', c1, c2, c3, ?_, ?_, ?_, ?_, ?_, ?_, ?_, ?_⟩
  · rw [upd_other _ _ (by omega)]; exact h.rO.step hF c2 (by simp) (by simp)
  · rw [upd_other _ _ (by omega)]; exact h.rT.step hF c2 (by simp) (by simp)
  · rw [upd_other _ _ (by omega)]; exact h.rW.step hF c2 (by simp) (by simp)
  · rw [upd_other _ _ (by omega)]; exact h.rN.step hF c2 (by simp) (by simp)
  · rw [upd_same]; exact ⟨by simpa using c4, c5⟩
  · rw [upd_other _ _ (by omega)]; exact h.rM.step hF c2 (by simp) (by simp)
  · rw [upd_other _ _ (by omega)]; exact h.rD.step hF c2 (by simp) (by simp)
  · rw [upd_other _ _ (by omega)]; exact h.rR.step hF c2 (by simp) (by simp)
/-- 'b.X = append(b.X, y)' of the kind's slice number 5. -/
theorem KOut.push5 {y v' : Value} {w1 w2 : World} (h : KOut C w kc f xo xt xw xn xf xm xd xr) (hF : Fit C w bb) (hB : BK w bb f) (hb : kc.b + 9 ≤ 103) (h1 : Turned [] w w1) (ho : Onto w1 w2 (f (kc.b + 5)) v' xm.length 1) (hr : w2.ownsRow 0 3 1 v' (xm.length + 1) (xm ++ [y])) :
    ∃ C', Fit C' (w2.setCell ⟨bb, (kc.b + 5), none⟩ v') bb ∧ Stp (fun x => x = (kc.κ, .tM)) bb C w C' (w2.setCell ⟨bb, (kc.b + 5), none⟩ v') ∧ BK (w2.setCell ⟨bb, (kc.b + 5), none⟩ v') bb (upd f (kc.b + 5) v') ∧ KOut C' (w2.setCell ⟨bb, (kc.b + 5), none⟩ v') kc (upd f (kc.b + 5) v') xo xt xw xn xf (xm ++ [y]) xd xr := by
  obtain ⟨C', c1, c2, c3, c4, c5⟩ := app_field hF hB (i := (kc.b + 5)) (by omega) h.rM.2 (by simp) h1 ho hr
  refine ⟨C', c1, c2, c3, ?_, ?_, ?_, ?_, ?_, ?_, ?_, ?_⟩
  · rw [upd_other _ _ (by omega)]; exact h.rO.step hF c2 (by simp) (by simp)
  · rw [upd_other _ _ (by omega)]; exact h.rT.step hF c2 (by simp) (by simp)
  · rw [upd_other _ _ (by omega)]; exact h.rW.step hF c2 (by simp) (by simp)
  · rw [upd_other _ _ (by omega)]; exact h.rN.step hF c2 (by simp) (by simp)
  · rw [upd_other _ _ (by omega)]; exact h.rF.step hF c2 (by simp) (by simp)
  · rw [upd_same]; exact ⟨by simpa using c4, c5⟩
  · rw [upd_other _ _ (by omega)]; exact h.rD.step hF c2 (by simp) (by simp)
  · rw [upd_other _ _ (by omega)]; exact h.rR.step hF c2 (by simp) (by simp)
/-- 'b.X = append(b.X, y)' of the kind's slice number 6. -/
theorem KOut.push6 {y v' : Value} {w1 w2 : World} (h : KOut C w kc f xo xt xw xn xf xm xd xr) (hF : Fit C w bb) (hB : BK w bb f) (hb : kc.b + 9 ≤ 103) (h1 : Turned [] w w1) (ho : Onto w1 w2 (f (kc.b + 6)) v' xd.length 1) (hr : w2.ownsRow 0 3 1 v' (xd.length + 1) (xd ++ [y])) :
    ∃ C', Fit C' (w2.setCell ⟨bb, (kc.b + 6), none⟩ v') bb ∧ Stp (fun x => x = (kc.κ, .tD)) bb C w C' (w2.setCell ⟨bb, (kc.b + 6), none⟩ v') ∧ BK (w2.setCell ⟨bb, (kc.b + 6), none⟩ v') bb (upd f (kc.b + 6) v') ∧ KOut C' (w2.setCell ⟨bb, (kc.b + 6), none⟩ v') kc (upd f (kc.b + 6) v') xo xt xw xn xf xm (xd ++ [y]) xr := by
  obtain ⟨C', c1, c2, c3, c4, c5⟩ := app_field hF hB (i := (kc.b + 6)) (by omega) h.rD.2 (by simp) h1 ho hr
  refine ⟨C', c1, c2, c3, ?_, ?_, ?_, ?_, ?_, ?_, ?_, ?_⟩
  · rw [upd_other _ _ (by omega)]; exact h.rO.step hF c2 (by simp) (by simp)
  · rw [upd_other _ _ (by omega)]; exact h.rT.step hF c2 (by simp) (by simp)
  · rw [upd_other _ _ (by omega)]; exact h.rW.step hF c2 (by simp) (by simp)
  · rw [upd_other _ _ (by omega)]; exact h.rN.step hF c2 (by simp) (by simp)
  · rw [upd_other _ _ (by omega)]; exact h.rF.step hF c2 (by simp) (by simp)
  · rw [upd_other _ _ (by omega)]; exact h.rM.step hF c2 (by simp) (by simp)
  · rw [upd_same]; exact ⟨by simpa using c4, c5⟩
  · rw [upd_other _ _ (by omega)]; exact h.rR.step hF c2 (by simp) (by simp)
/-- 'b.X = append(b.X, y)' of the kind's slice number 7. -/
theorem KOut.push7 {y v' : Value} {w1 w2 : World} (h : KOut C w kc f xo xt xw xn xf xm xd xr) (hF : Fit C w bb) (hB : BK w bb f) (hb : kc.b + 9 ≤ 103) (h1 : Turned [] w w1) (ho : Onto w1 w2 (f (kc.b + 7)) v' xr.length 1) (hr : w2.ownsRow 0 3 1 v' (xr.length + 1) (xr ++ [y])) :
    ∃ C', Fit C' (w2.setCell ⟨bb, (kc.b + 7), none⟩ v') bb ∧ Stp (fun x => x = (kc.κ, .tR)) bb C w C' (w2.setCell ⟨bb, (kc.b + 7), none⟩ v') ∧ BK (w2.setCell ⟨bb, (kc.b + 7), none⟩ v') bb (upd f (kc.b + 7) v') ∧ KOut C' (w2.setCell ⟨bb, (kc.b + 7), none⟩ v') kc (upd f (kc.b + 7) v') xo xt xw xn xf xm xd (xr ++ [y]) := by
  obtain ⟨C', c1, c2, c3, c4, c5⟩ := app_field hF hB (i := (kc.b + 7)) (by omega) h.rR.2 (by simp) h1 ho hr
  refine ⟨C', c1, c2, c3, ?_, ?_, ?_, ?_, ?_, ?_, ?_, ?_⟩
  · rw [upd_other _ _ (by omega)]; exact h.rO.step hF c2 (by simp) (by simp)
  · rw [upd_other _ _ (by omega)]; exact h.rT.step hF c2 (by simp) (by simp)
  · rw [upd_other _ _ (by omega)]; exact h.rW.step hF c2 (by simp) (by simp)
  · rw [upd_other _ _ (by omega)]; exact h.rN.step hF c2 (by simp) (by simp)
  · rw [upd_other _ _ (by omega)]; exact h.rF.step hF c2 (by simp) (by simp)
  · rw [upd_other _ _ (by omega)]; exact h.rM.step hF c2 (by simp) (by simp)
  · rw [upd_other _ _ (by omega)]; exact h.rD.step hF c2 (by simp) (by simp)
  · rw [upd_same]; exact ⟨by simpa using c4, c5⟩
end
end Go.Proofs.YtjbhnpofdafmbaaGreatDoor
/- A region in its order, by the same table as one in whatever order. -/
namespace Go.Proofs.YtjbhnpofdafmbaaGreatDoor
open Go.RowKit
section
variable {P : Program} {ops : Array Oper} {Q : Exit → Act → World → Prop}
def YieldsL (P : Program) (ops : Array Oper) (D : List (Option Nat)) (val : Nat → Value) (a0 : Act) (As : List Nat) (W : Nat → World) (Q : Exit → Act → World → Prop) (i : Nat) : Prop :=
  ∀ (o : Oper) (a : Act) (w w' : World) (K : Act → World → Prop), ops[i]? = some o → o.dst = D.getD i none → a.tmps.size = a0.tmps.size → (∀ s, (∀ j, j < i → D.getD j none ≠ some s) → a.eval (.tmp s) = a0.eval (.tmp s)) → (∀ j d, D.getD j none = some d → waitsB ops i j = true → a.eval (.tmp d) = val j) → LegalC (fun x i => decide (i < x)) As W i w w' → K (a.put (D.getD i none) (val i)) w' → o.wp P a w K Q
structure ILine (D : List (Option Nat)) (val : Nat → Value) (a0 : Act) (As : List Nat) (W : Nat → World) (k : Nat) (a : Act) (w : World) : Prop where
  tsize : a.tmps.size = a0.tmps.size
  defers : a.defers = a0.defers
  off : ∀ s, (∀ j, j < k → D.getD j none ≠ some s) → a.tmps[s]? = a0.tmps[s]?
  val : ∀ i d, D.getD i none = some d → i < k → a.eval (.tmp d) = val i
  w : ∃ c, c ≤ As.length ∧ (∀ j x, As[j]? = some x → (x < k ↔ j < c)) ∧ w = W c
theorem wp_region_line {id : Nat} {a0 : Act} {w : World} (D : List (Option Nat)) (val : Nat → Value) (hok : regOk ops D a0.tmps.size = true) (As : List Nat) (W : Nat → World) (h0 : W 0 = w) (hAs : As.Pairwise (· < ·)) (hlt : As.all (fun x => decide (x < D.length)) = true)
    (hg : ∀ (i g : Nat) (b : Bool), (ops[i]?).bind (fun o : Oper => o.guard) = some (g, b) → ∃ b', val g = .bool b' ∧ (b' ≠ b → val i = undef ∧ i ∉ As))
    (hstep : ∀ i, i < D.length → (∀ (g : Nat) (b : Bool), (ops[i]?).bind (fun o : Oper => o.guard) = some (g, b) → val g = .bool b) → YieldsL P ops D val a0 As W Q i)
    (hend : ∀ a', a'.tmps.size = a0.tmps.size → a'.defers = a0.defers → (∀ s, some s ∉ D → a'.tmps[s]? = a0.tmps[s]?) → (∀ i d, D.getD i none = some d → a'.eval (.tmp d) = val i) → Q .normal a' (W As.length)) :
    (Code.region id ops false).wp P Q a0 w := by
  have hn : ops.size = D.length := by
    unfold regOk at hok
    simp only [Bool.and_eq_true, beq_iff_eq] at hok
    exact hok.1
  have alt : ∀ {j x : Nat}, As[j]? = some x → x < D.length := fun {j x} hj => by simpa using List.all_eq_true.1 hlt x (List.mem_of_getElem? hj)
  have mono : ∀ {j k x y : Nat}, As[j]? = some x → As[k]? = some y → j < k → x < y := fun {j k x y} h1 h2 hjk => by
    obtain ⟨l1, rfl⟩ := List.getElem?_eq_some_iff.1 h1
    obtain ⟨l2, rfl⟩ := List.getElem?_eq_some_iff.1 h2
    exact List.pairwise_iff_getElem.1 hAs j k l1 l2 hjk
  have mem : ∀ s i, D.getD i none = some s → some s ∈ D := fun s i e => by
    have hi : i < D.length := by
      apply Classical.byContradiction
      intro h
      rw [List.getD_eq_getElem?_getD, List.getElem?_eq_none (by omega)] at e
      cases e
    rw [List.getD_eq_getElem?_getD, List.getElem?_eq_getElem hi] at e
    have := List.getElem_mem hi
    rw [show D[i] = some s from e] at this
    exact this
  have lt : ∀ i d, D.getD i none = some d → i < D.length := fun i d e => by
    apply Classical.byContradiction
    intro h
    rw [List.getD_eq_getElem?_getD, List.getElem?_eq_none (by omega)] at e
    cases e
  have main : ∀ m k a w, k + m = D.length → ILine D val a0 As W k a w → wpOps P ops Q (List.range' k m) a w := by
    intro m
    induction m with
    | zero =>
      intro k a w hk h
      obtain ⟨c, hc1, hc2, hc3⟩ := h.w
      have hcm : c = As.length := by
        apply Classical.byContradiction
        intro hne
        have hl : c < As.length := by omega
        have hx : As[c]? = some As[c] := List.getElem?_eq_getElem hl
        have := (hc2 c _ hx).1 (by have := alt hx; omega)
        omega
      rw [hc3, hcm]
      exact hend a h.tsize h.defers (fun s hs => h.off s (fun j _ hj => hs (mem s j hj))) fun i d hD => h.val i d hD (by have := lt i d hD; omega)
    | succ m ih =>
      intro i a w hk h
      have hio : i < ops.size := by omega
      obtain ⟨o, ho⟩ : ∃ o, ops[i]? = some o := ⟨ops[i], Array.getElem?_eq_getElem hio⟩
      obtain ⟨r1, r2, r3, r4, r5, r6⟩ := reg_at hok ho
      have hdep : ∀ j d, D.getD j none = some d → waitsB ops i j = true → a.eval (.tmp d) = val j := fun j d hjd hh => by
        refine h.val j d hjd ?_
        unfold waitsB at hh
        rw [ho] at hh
        simp only [Option.map_some, Option.getD_some, Array.any_eq_true] at hh
        obtain ⟨q, hq, he⟩ := hh
        simp only [Bool.and_eq_true, beq_iff_eq] at he
        have := r3 _ (Array.getElem_mem hq) he.1
        omega
      obtain ⟨c, hc1, hc2, hc3⟩ := h.w
      have keeps : ∀ w'' : World, (∃ c', c' ≤ As.length ∧ (∀ j x, As[j]? = some x → (x < i + 1 ↔ j < c')) ∧ w'' = W c') → ILine D val a0 As W (i + 1) (a.put (D.getD i none) (val i)) w'' := fun w'' hw => by
        have hputs : (a.put (D.getD i none) (val i)).tmps.size = a0.tmps.size := by
          cases hD : D.getD i none <;> simp [Act.put, h.tsize]
        have hputd : (a.put (D.getD i none) (val i)).defers = a0.defers := by
          cases hD : D.getD i none <;> simp [Act.put, h.defers]
        refine ⟨hputs, hputd, fun s hs => ?_, fun j d hjd hh => ?_, hw⟩
        · cases hD : D.getD i none with
          | none => exact h.off s (fun j hj => hs j (by omega))
          | some d =>
            have : d ≠ s := fun e => hs i (by omega) (by rw [hD, e])
            simp only [Act.put, Array.getElem?_setIfInBounds, this, if_false]
            exact h.off s (fun j hj => hs j (by omega))
        · cases hD : D.getD i none with
          | none =>
            have hne : i ≠ j := fun e => by subst e; rw [hD] at hjd; cases hjd
            exact h.val j d hjd (by omega)
          | some d' =>
            rw [ev_put _ _ _ (by rw [h.tsize]; exact r4 d' hD)]
            by_cases e : i = j
            · subst e
              rw [hD] at hjd
              cases hjd
              simp
            · rw [if_neg (fun e2 => e (r5 j d (lt j d hjd) (by rw [hD, e2]) hjd))]
              exact h.val j d hjd (by omega)
      have legal : ∃ w'', LegalC (fun x i => decide (i < x)) As W i w w'' ∧ (∃ c', c' ≤ As.length ∧ (∀ j x, As[j]? = some x → (x < i + 1 ↔ j < c')) ∧ w'' = W c') ∧ (i ∉ As → w'' = w) := by
        by_cases hmem : i ∈ As
        · obtain ⟨j, hj⟩ := List.getElem?_of_mem hmem
          have hjl := (List.getElem?_eq_some_iff.1 hj).1
          have hge : c ≤ j := Nat.le_of_not_lt fun hl => by
            have := (hc2 j i hj).2 hl
            omega
          have hle : j ≤ c := by
            cases j with
            | zero => exact Nat.zero_le _
            | succ q =>
              obtain ⟨x, hx⟩ : ∃ x, As[q]? = some x := ⟨As[q]'(by omega), List.getElem?_eq_getElem (by omega)⟩
              have := (hc2 q x hx).1 (mono hx hj (by omega))
              omega
          obtain rfl : c = j := by omega
          refine ⟨W (c + 1), .inl ⟨c, hj, hc3, rfl⟩, ⟨c + 1, by omega, fun q x hq => ?_, rfl⟩, fun hno => absurd hmem hno⟩
          rcases Nat.lt_trichotomy q c with h1 | h1 | h1
          · have := mono hq hj h1
            omega
          · subst h1
            rw [hj] at hq
            cases hq
            omega
          · have := mono hj hq h1
            omega
        · have hup : ∀ q x, As[q]? = some x → decide (i < x) = true → c ≤ q := fun q x hq hr => Nat.le_of_not_lt fun hl => by
            have := (hc2 q x hq).2 hl
            have := of_decide_eq_true hr
            omega
          refine ⟨w, .inr ⟨hmem, rfl, c, hc1, hc3, hup⟩, ⟨c, hc1, fun q x hq => ?_, hc3⟩, fun _ => rfl⟩
          have hne : x ≠ i := fun e => hmem (by rw [← e]; exact List.mem_of_getElem? hq)
          have := hc2 q x hq
          omega
      obtain ⟨w'', leg, hw'', hsame⟩ := legal
      have hyield : ∀ (g : Nat) (b b' : Bool), o.guard = some (g, b) → val g = .bool b' → yielded ops a.tmps g = some b' := fun g b b' hgd h2 => by
        obtain ⟨h1, h3, h4⟩ := r6 g b hgd
        obtain ⟨d, hgD⟩ := Option.isSome_iff_exists.1 h4
        have hv := hdep g d hgD h3
        rw [h2] at hv
        have hgo : ∃ og, ops[g]? = some og := ⟨ops[g]'(by omega), Array.getElem?_eq_getElem (by omega)⟩
        obtain ⟨og, hog⟩ := hgo
        unfold yielded
        rw [hog]
        simp only [Option.bind_some, (reg_at hok hog).2.1, hgD]
        have hl : d < a.tmps.size := by rw [h.tsize]; exact (reg_at hok hog).2.2.2.1 d hgD
        simp only [Act.eval, Array.getD, hl, dite_true] at hv
        rw [Array.getElem?_eq_getElem hl]
        have : a.tmps[d] = .bool b' := hv
        rw [this]
      rw [List.range'_succ]
      unfold wpOps
      simp only [ho]
      by_cases hwant : Region.wanted o (yielded ops a.tmps) = true
      · rw [if_pos hwant]
        refine .inl (hstep i r1 (fun g b hgb => ?_) o a w w'' _ ho r2 h.tsize (fun s hs => ?_) hdep leg (ih (i + 1) _ w'' (by omega) (keeps w'' hw'')))
        · obtain ⟨b', h1, h2⟩ := hg i g b hgb
          rw [ho] at hgb
          have hgd : o.guard = some (g, b) := hgb
          have hy := hyield g b b' hgd h1
          simp [Region.wanted, hgd, hy] at hwant
          rw [h1, hwant]
        · simp only [Act.eval, Array.getD_eq_getD_getElem?, h.off s hs]
      · rw [if_neg hwant, r2]
        cases hgd : o.guard with
        | none => exact absurd (by simp [Region.wanted, hgd]) hwant
        | some gb =>
          obtain ⟨g, b⟩ := gb
          obtain ⟨b', h1, h2⟩ := hg i g b (by rw [ho]; exact hgd)
          have hy := hyield g b b' hgd h1
          have hne : b' ≠ b := fun e => hwant (by simp [Region.wanted, hgd, hy, e])
          have hs := hsame (h2 hne).2
          subst hs
          rw [← (h2 hne).1]
          exact ih (i + 1) _ w'' (by omega) (keeps w'' hw'')
  refine wp_region ?_
  rw [List.range_eq_range', hn]
  refine main D.length 0 a0 w (by omega) ⟨rfl, rfl, fun _ _ => rfl, fun i d _ hi => by omega, 0, Nat.zero_le _, fun j x _ => by omega, h0.symm⟩
end
end Go.Proofs.YtjbhnpofdafmbaaGreatDoor
/- Single operations of a region, run; where a turning one stands in its chain. -/
namespace Go.Proofs.YtjbhnpofdafmbaaGreatDoor
open Go.RowKit
theorem LegalC.at_ {R : Nat → Nat → Bool} {As : List Nat} {W : Nat → World} {i j : Nat} {w w' : World} (h : LegalC R As W i w w') (hnd : As.Nodup) (hj : As[j]? = some i) : w = W j ∧ w' = W (j + 1) := by
  rcases h with ⟨k, h1, h2, h3⟩ | ⟨h1, -⟩
  · have : k = j := by
      obtain ⟨l1, e1⟩ := List.getElem?_eq_some_iff.1 h1
      obtain ⟨l2, e2⟩ := List.getElem?_eq_some_iff.1 hj
      have hp := List.pairwise_iff_getElem.1 hnd
      rcases Nat.lt_trichotomy k j with h | h | h
      · exact absurd (e1.trans e2.symm) (hp k j l1 l2 h)
      · exact h
      · exact absurd (e2.trans e1.symm) (hp j k l2 l1 h)
    subst this
    exact ⟨h2, h3⟩
  · exact absurd (List.mem_of_getElem? hj) h1
theorem LegalC.off {R : Nat → Nat → Bool} {As : List Nat} {W : Nat → World} {i : Nat} {w w' : World} (h : LegalC R As W i w w') (hi : i ∉ As) : w' = w ∧ ∃ j, j ≤ As.length ∧ w = W j ∧ ∀ q x, As[q]? = some x → R x i = true → j ≤ q := by
  rcases h with ⟨k, h1, -⟩ | ⟨-, h2, h3⟩
  · exact absurd (List.mem_of_getElem? h1) hi
  · exact ⟨h2, h3⟩
theorem ld_int {w : World} {bb i : Nat} {z : Int} (h : w.cell? ⟨bb, i, none⟩ = some (.int .i64 z)) : (Instr.loadAt 3 (pv bb i)).run Tryz.prog w = .ok (vi z) w := by
  unfold pv
  go_simp
theorem st_int {w : World} {bb i : Nat} {z : Int} {u : Value} (h : w.cell? ⟨bb, i, none⟩ = some u) (hz : w.frozen? ⟨bb, i, none⟩ = false) : (Instr.storeAt 3 (pv bb i) (vi z)).run Tryz.prog w = .ok () (w.setCell ⟨bb, i, none⟩ (vi z)) := by
  unfold pv
  go_simp
theorem ld_ints {w : World} {bb i : Nat} {a : Option Addr} {n c : Nat} (h : w.cell? ⟨bb, i, none⟩ = some (.slice a n c)) : (Instr.loadAt 29 (pv bb i)).run Tryz.prog w = .ok (.slice a n c) w := by
  unfold pv
  go_simp
theorem st_ints {w : World} {bb i : Nat} {a : Option Addr} {n c : Nat} {u : Value} (h : w.cell? ⟨bb, i, none⟩ = some u) (hz : w.frozen? ⟨bb, i, none⟩ = false) : (Instr.storeAt 29 (pv bb i) (.slice a n c)).run Tryz.prog w = .ok () (w.setCell ⟨bb, i, none⟩ (.slice a n c)) := by
  unfold pv
  go_simp
theorem ld_intso {w : World} {bb i : Nat} {y : Value} (hy : ∃ a n c, y = .slice a n c) (h : w.cell? ⟨bb, i, none⟩ = some y) : (Instr.loadAt 29 (pv bb i)).run Tryz.prog w = .ok y w := by
  obtain ⟨a, n, c, rfl⟩ := hy
  exact ld_ints h
theorem st_intso {w : World} {bb i : Nat} {y u : Value} (hy : ∃ a n c, y = .slice a n c) (h : w.cell? ⟨bb, i, none⟩ = some u) (hz : w.frozen? ⟨bb, i, none⟩ = false) : (Instr.storeAt 29 (pv bb i) y).run Tryz.prog w = .ok () (w.setCell ⟨bb, i, none⟩ y) := by
  obtain ⟨a, n, c, rfl⟩ := hy
  exact st_ints h hz
theorem Row.slice {w : World} {B e sz n : Nat} {v : Value} {xs : List Value} (h : w.ownsRow B e sz v n xs) : ∃ a n c, v = .slice a n c := by
  obtain ⟨a, c, e⟩ := Row.shape h
  exact ⟨a, _, c, e⟩
theorem slice_one {y : Value} (hy : ∃ a n c, y = .slice a n c) : y.oneCell' = true := by
  obtain ⟨a, n, c, rfl⟩ := hy
  rfl
theorem bs_int (w : World) (z : Int) : (Instr.buildSlice 29 1 #[(0, vi z)]).run Tryz.prog w = .ok (.slice (some ⟨w.heap.size, 0, none⟩) 1 1) (w.alloc (.cells #[vi z] 3)) := by
  go_simp
theorem info_int : (Tryz.prog.info? 3).map (fun i => (i.zero, i.size, i.bytes)) = some (some (.int .i64 0), 1, 8) := by kernel_rfl
theorem und_ints : Tryz.prog.underlying 29 = some (.slice 3) := by kernel_rfl
theorem x_addc {ρ : Operand → Value} {o : Oper} {w : World} {x y : Operand} {t : TypeId} {a b : Int} (h : o.op = .binOp .add 3 x y t) (hx : ρ x = vi a) (hy : ρ y = vi b) (h0 : -9000000000000000000 ≤ a + b) (h1 : a + b ≤ 9000000000000000000) : (execOp ρ o).run Tryz.prog w = .ok (.value (vi (a + b))) w := by
  have hw : IntKind.i64.wrap (a + b) = a + b := by simp [IntKind.wrap, IntKind.bits, IntKind.signed]; omega
  simp [execOp, h, hx, hy, eqGuard, binOp, Op.intArith, hw]
/-- One number of a list is put. -/
theorem row_set {w : World} {e sz n g cap : Nat} {zs : List Int} (h : IRow w e sz (.slice (some ⟨g, 0, none⟩) n cap) n zs) (j : Nat) (z : Int) : IRow (w.setCell ⟨g, j, none⟩ (.int .i64 z)) e sz (.slice (some ⟨g, 0, none⟩) n cap) n (zs.set j z) := by
  have := (World.ownsRow.stored h j (.int .i64 z)).1
  unfold IRow
  rw [List.map_set]
  exact this
theorem wp_fall {P : Program} {c : Code} {Q : Exit → Act → World → Prop} {a : Act} {w : World} (h : c.wp P (Exit.then (Q .normal) Q) a w) : c.wp P Q a w :=
  wp_mono h (fun e a w h => by cases e <;> exact h)
end Go.Proofs.YtjbhnpofdafmbaaGreatDoor
/- The book's kind Ints: single operations. -/
namespace Go.Proofs.YtjbhnpofdafmbaaGreatDoor
open Go.RowKit
abbrev kcInts : KC := ⟨1, 3, 1, 29, 4⟩
theorem Ints_bs1 (w : World) (a : Option Addr) (n c : Nat) : (Instr.buildSlice 28 1 #[(0, .slice a n c)]).run Tryz.prog w = .ok (.slice (some ⟨w.heap.size, 0, none⟩) 1 1) (w.alloc (.cells #[.slice a n c] 29)) := by
  go_simp
theorem Ints_bs0 (w : World) : (Instr.buildSlice 29 0 #[]).run Tryz.prog w = .ok (.slice (some ⟨w.heap.size, 0, none⟩) 0 0) (w.alloc (.cells #[] 3)) := by
  go_simp
theorem Ints_ld {w : World} {bb i : Nat} {a : Option Addr} {n c : Nat} (h : w.cell? ⟨bb, i, none⟩ = some (.slice a n c)) : (Instr.loadAt 28 (pv bb i)).run Tryz.prog w = .ok (.slice a n c) w := by
  unfold pv
  go_simp
theorem Ints_st {w : World} {bb i : Nat} {a : Option Addr} {n c : Nat} {u : Value} (h : w.cell? ⟨bb, i, none⟩ = some u) (hz : w.frozen? ⟨bb, i, none⟩ = false) : (Instr.storeAt 28 (pv bb i) (.slice a n c)).run Tryz.prog w = .ok () (w.setCell ⟨bb, i, none⟩ (.slice a n c)) := by
  unfold pv
  go_simp
theorem Ints_bs1o (w : World) {y : Value} (hy : ∃ a n c, y = .slice a n c) : (Instr.buildSlice 28 1 #[(0, y)]).run Tryz.prog w = .ok (.slice (some ⟨w.heap.size, 0, none⟩) 1 1) (w.alloc (.cells #[y] 29)) := by
  obtain ⟨a, n, c, rfl⟩ := hy
  exact Ints_bs1 w a n c
theorem Ints_ldo {w : World} {bb i : Nat} {y : Value} (hy : ∃ a n c, y = .slice a n c) (h : w.cell? ⟨bb, i, none⟩ = some y) : (Instr.loadAt 28 (pv bb i)).run Tryz.prog w = .ok y w := by
  obtain ⟨a, n, c, rfl⟩ := hy
  exact Ints_ld h
theorem Ints_sto {w : World} {bb i : Nat} {y u : Value} (hy : ∃ a n c, y = .slice a n c) (h : w.cell? ⟨bb, i, none⟩ = some u) (hz : w.frozen? ⟨bb, i, none⟩ = false) : (Instr.storeAt 28 (pv bb i) y).run Tryz.prog w = .ok () (w.setCell ⟨bb, i, none⟩ y) := by
  obtain ⟨a, n, c, rfl⟩ := hy
  exact Ints_st h hz
theorem Ints_info : (Tryz.prog.info? 3).map (fun i => (i.zero, i.size, i.bytes)) = some (some (.int .i64 0), 1, 8) := by kernel_rfl
theorem Ints_linfo : (Tryz.prog.info? 29).map (fun i => (i.zero, i.size, i.bytes)) = some (some (.slice none 0 0), 1, 24) := by kernel_rfl
theorem Ints_und : Tryz.prog.underlying 29 = some (.slice 3) := by kernel_rfl
theorem Ints_lund : Tryz.prog.underlying 28 = some (.slice 29) := by kernel_rfl
/-- The whole of the kind's state. -/
def FullInts (C : Own) (w : World) (f : Nat → Value) (ot : List Ot) (wn : List Wt) (fr : List Fh) : Prop :=
  KOut C w kcInts f (ot.map (·.o)) (ot.map (·.c)) (wn.map (·.l)) (wn.map (·.c)) (fr.map (·.l)) ((wn.map (·.mark)).map vi) ((wn.map (·.due)).map vi) ((fr.map (·.mark)).map vi) ∧ KRows C w kcInts ot wn fr
end Go.Proofs.YtjbhnpofdafmbaaGreatDoor
/- Reading a row of numbers. -/
namespace Go.Proofs.YtjbhnpofdafmbaaGreatDoor
open Go.RowKit
theorem idx_ints {w : World} {g m rc k : Nat} (hlt : (k : Int) < (m : Int)) : (Instr.indexAt 29 (.slice (some ⟨g, 0, none⟩) m rc) (vi (k : Nat))).run Tryz.prog w = .ok (pv g k) w := by
  unfold pv
  go_simp
end Go.Proofs.YtjbhnpofdafmbaaGreatDoor
