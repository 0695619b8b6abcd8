/-
  The story while an event is made. (By the verifier; no statement.)
-/
import Derived.Test.YtbielnehggcaoaaDoorL30
import Derived.Test.YtbielnehggcaoaaDoorL08
import Derived.Test.YtbielnehggcaoaaDoorL23
import Derived.Test.YtbielnehggcaoaaDoorL07
import Derived.Test.YtbielnehggcaoaaDoorL21
namespace Go.Proofs.YtbielnehggcaoaaDoor
open Go.RowKit
theorem in_i64 {j n : Nat} (h : j < n) (hn : n ≤ 1000000000) : (j : Int) < (n : Int) ∧ 0 ≤ (j : Int) ∧ IntKind.i64.wrap (j : Int) = (j : Int) := by
  refine ⟨by omega, by omega, ?_⟩
  simp [IntKind.wrap, IntKind.bits, IntKind.signed]
  omega
structure Cn (n : Nat) : Prop where
  tt : True
theorem Cn.more {n : Nat} (_ : Cn n) : Cn (n + 1) := ⟨trivial⟩
/-- The event in the making lies at eb, its cells are cs. -/
structure ME (tb sb ub nb uc nc m : Nat) (Ms : List Nat) (W1 x : World) (nu : Nat → Int) (ho : Nat → Hold) (lv : Value) (D : List Ev) (eb : Nat) (cs : Array Value) : Prop where
  my : MY tb sb ub nb uc nc m Ms W1 x nu ho lv D
  ev : x.heap[eb]? = some (.cells cs 52 (0, 0))
  low : W1.heap.size ≤ eb
  ne : lv.ownBlock ≠ some eb
section
variable {tb sb ub nb uc nc m : Nat} {Ms : List Nat} {W1 x : World} {nu : Nat → Int} {ho : Nat → Hold} {lv : Value} {D : List Ev} {eb : Nat} {cs : Array Value}
theorem MY.nuv (h : MY tb sb ub nb uc nc m Ms W1 x nu ho lv D) : VW (fun q : Int => [Value.int .i64 q]) x (.slice (some ⟨ub, 0, none⟩) m uc) ((List.range m).map nu) := by
  obtain ⟨cs, c1, c2⟩ := h.nus
  refine ⟨_, uc, by rw [List.length_map, List.length_range], (fun h => by cases h), fun _ => ⟨ub, 0, rfl, fun i u hu => ?_⟩⟩
  rw [flat_single (Value.int .i64 ·)] at hu
  rw [Nat.zero_add, cell_at c1]
  have hi : i < m := by
    have := (List.getElem?_eq_some_iff.1 hu).1
    simpa using this
  rw [c2 i hi]
  simpa [hi] using hu
theorem MY.made (h : MY tb sb ub nb uc nc m Ms W1 x nu ho lv D) (cs : Array Value) : ME tb sb ub nb uc nc m Ms W1 (x.alloc (.cells cs 52 (0, 0))) nu ho lv D x.heap.size cs := by
  refine ⟨h.still ((Turned.refl [] x).alloc _), blk_new _ _, h.tu.size, fun e => ?_⟩
  obtain ⟨L, v1, -⟩ := h.l.ex
  have := (v1.fresh e).2
  omega
theorem ME.still {y : World} (h : ME tb sb ub nb uc nc m Ms W1 x nu ho lv D eb cs) (ht : Turned [] x y) : ME tb sb ub nb uc nc m Ms W1 y nu ho lv D eb cs := ⟨h.my.still ht, ht.heap h.ev (by simp), h.low, h.ne⟩
theorem ME.drewE (h : ME tb sb ub nb uc nc m Ms W1 x nu ho lv D eb cs) : ME tb sb ub nb uc nc m Ms W1 x.drew nu ho lv D eb cs := h.still (Turned.refl [] x).drew
theorem ME.drewNE (h : ME tb sb ub nb uc nc m Ms W1 x nu ho lv D eb cs) (n : Nat) : ME tb sb ub nb uc nc m Ms W1 (x.drewN n) nu ho lv D eb cs := h.still ((Turned.refl [] x).drewN n)
theorem MY.drewM (h : MY tb sb ub nb uc nc m Ms W1 x nu ho lv D) : MY tb sb ub nb uc nc m Ms W1 x.drew nu ho lv D := h.still (Turned.refl [] x).drew
theorem MY.drewNM (h : MY tb sb ub nb uc nc m Ms W1 x nu ho lv D) (n : Nat) : MY tb sb ub nb uc nc m Ms W1 (x.drewN n) nu ho lv D := h.still ((Turned.refl [] x).drewN n)
theorem ME.next {n : Int} (h : ME tb sb ub nb uc nc m Ms W1 x nu ho lv D eb cs) (hn : 0 < n) (hn2 : n ≤ 1000) : Calls Tryd.prog 28 #[.pointer (some ⟨tb, 0, none⟩), .int .i64 n] x fun r x' => ∃ q : Int, r = .returned (.int .i64 q) ∧ 0 ≤ q ∧ q < n ∧ ME tb sb ub nb uc nc m Ms W1 x' nu ho lv D eb cs := by
  refine (h.my.next hn hn2).mono ?_
  rintro r x' ⟨q, rfl, q0, q1, h2, ht⟩
  obtain ⟨t, t0, t1, t2⟩ := h.my.tn
  exact ⟨q, rfl, q0, q1, h2, ht.heap h.ev (by simpa using tyne h.ev t2 (by decide)), h.low, h.ne⟩
theorem ME.setnu (h : ME tb sb ub nb uc nc m Ms W1 x nu ho lv D eb cs) {p : Nat} (hp : p < m) (v : Int) : ME tb sb ub nb uc nc m Ms W1 (x.setCell ⟨ub, p, none⟩ (.int .i64 v)) (fun q => if q = p then v else nu q) ho lv D eb cs := by
  obtain ⟨ds, c1, c2⟩ := h.my.nus
  have ht : Turned [ub] x (x.setCell ⟨ub, p, none⟩ (.int .i64 v)) := (Turned.refl [ub] x).set (.inl (by simp)) _ _
  exact ⟨h.my.setnu hp v, ht.heap h.ev (by simpa using tyne h.ev c1 (by decide)), h.low, h.ne⟩
theorem ME.setmap {y : World} {f : Hold} (h : ME tb sb ub nb uc nc m Ms W1 x nu ho lv D eb cs) {p : Nat} (hp : p < m) (ht : Turned [Ms.getD p 0] x y) (hM : HM y (Ms.getD p 0) f) : ME tb sb ub nb uc nc m Ms W1 y nu (fun q => if q = p then f else ho q) lv D eb cs :=
  ⟨h.my.setmap hp ht hM, ht.heap h.ev (by simpa using tyneM h.ev (h.my.maps p hp)), h.low, h.ne⟩
/-- A change of the event alone. -/
theorem ME.turn {y : World} {ds : Array Value} (h : ME tb sb ub nb uc nc m Ms W1 x nu ho lv D eb cs) (ht : Turned [eb] x y) (he : y.heap[eb]? = some (.cells ds 52 (0, 0))) : ME tb sb ub nb uc nc m Ms W1 y nu ho lv D eb ds := by
  obtain ⟨l1, l2, l3, l4⟩ := h.my.low
  obtain ⟨t, t0, t1, t2⟩ := h.my.tn
  obtain ⟨us, c1, c2⟩ := h.my.nus
  obtain ⟨ns, d1, d2⟩ := h.my.row
  have hl := h.low
  refine ⟨⟨h.my.tu.inner ht fun g hg => .inr (by rw [List.mem_singleton.1 hg]; exact hl), h.my.low, ⟨t, t0, t1, ht.heap t2 (by simp; omega)⟩, ht.heap h.my.st (by simp; omega), ⟨us, ht.heap c1 (by simp; omega), c2⟩, ⟨ns, ht.heap d1 (by simp; omega), d2⟩, fun p hp => (h.my.maps p hp).keep ht (by simpa using (tyneM h.ev (h.my.maps p hp)).symm), h.my.inj, ?_⟩, he, h.low, h.ne⟩
  obtain ⟨L, v1, v2, v3⟩ := h.my.l.ex
  have off : ∀ g T cs', x.heap[g]? = some (.cells cs' T (0, 0)) → T ≠ 52 → g ∉ [eb] := fun g T cs' hg hT hm => by
    rw [List.mem_singleton.1 hm, h.ev] at hg
    simp only [Option.some.injEq, Obj.cells.injEq] at hg
    exact hT hg.2.1.symm
  refine ⟨L, v1.keep ht fun g hg hm => h.ne (by rw [hg, List.mem_singleton.1 hm]), v2, fun i hi => ?_⟩
  obtain ⟨sa, sb', e1, e2, e3⟩ := v3 i hi
  exact ⟨sa, sb', e1, e2.keep ht fun g hg => by obtain ⟨cs', e⟩ := e2.type hg; exact off _ _ _ e (by decide), e3.keep ht fun g hg => by obtain ⟨cs', e⟩ := e3.type hg; exact off _ _ _ e (by decide)⟩
theorem ME.set (h : ME tb sb ub nb uc nc m Ms W1 x nu ho lv D eb cs) (j : Nat) (v : Value) : ME tb sb ub nb uc nc m Ms W1 (x.setCell ⟨eb, j, none⟩ v) nu ho lv D eb (cs.setIfInBounds j v) :=
  h.turn ((Turned.refl [eb] x).set (.inl (by simp)) _ _) (blk_set h.ev j v)
theorem ME.zcells {v0 v1 v2 v3 v4 v5 v6 v7 v8 v9 v10 v11 v12 : Value} (h : ME tb sb ub nb uc nc m Ms W1 x nu ho lv D eb #[v0, v1, v2, v3, v4, v5, v6, v7, v8, v9, v10, v11, v12]) : eb < x.heap.size ∧ x.cell? ⟨eb, 0, none⟩ = some v0 ∧ x.cell? ⟨eb, 1, none⟩ = some v1 ∧ x.cell? ⟨eb, 2, none⟩ = some v2 ∧ x.cell? ⟨eb, 3, none⟩ = some v3 ∧ x.cell? ⟨eb, 4, none⟩ = some v4 ∧ x.cell? ⟨eb, 5, none⟩ = some v5 ∧ x.cell? ⟨eb, 6, none⟩ = some v6 ∧ x.cell? ⟨eb, 7, none⟩ = some v7 ∧ x.cell? ⟨eb, 8, none⟩ = some v8 ∧ x.cell? ⟨eb, 9, none⟩ = some v9 ∧ x.cell? ⟨eb, 10, none⟩ = some v10 ∧ x.cell? ⟨eb, 11, none⟩ = some v11 ∧ x.cell? ⟨eb, 12, none⟩ = some v12 ∧ x.frozen? ⟨eb, 0, none⟩ = false ∧ x.frozen? ⟨eb, 1, none⟩ = false ∧ x.frozen? ⟨eb, 2, none⟩ = false ∧ x.frozen? ⟨eb, 3, none⟩ = false ∧ x.frozen? ⟨eb, 4, none⟩ = false ∧ x.frozen? ⟨eb, 5, none⟩ = false ∧ x.frozen? ⟨eb, 6, none⟩ = false ∧ x.frozen? ⟨eb, 7, none⟩ = false ∧ x.frozen? ⟨eb, 8, none⟩ = false ∧ x.frozen? ⟨eb, 9, none⟩ = false ∧ x.frozen? ⟨eb, 10, none⟩ = false ∧ x.frozen? ⟨eb, 11, none⟩ = false ∧ x.frozen? ⟨eb, 12, none⟩ = false :=
  ⟨lt_of_heap h.ev, by rw [cell_at h.ev]; rfl, by rw [cell_at h.ev]; rfl, by rw [cell_at h.ev]; rfl, by rw [cell_at h.ev]; rfl, by rw [cell_at h.ev]; rfl, by rw [cell_at h.ev]; rfl, by rw [cell_at h.ev]; rfl, by rw [cell_at h.ev]; rfl, by rw [cell_at h.ev]; rfl, by rw [cell_at h.ev]; rfl, by rw [cell_at h.ev]; rfl, by rw [cell_at h.ev]; rfl, by rw [cell_at h.ev]; rfl, froz_at h.ev 0, froz_at h.ev 1, froz_at h.ev 2, froz_at h.ev 3, froz_at h.ev 4, froz_at h.ev 5, froz_at h.ev 6, froz_at h.ev 7, froz_at h.ev 8, froz_at h.ev 9, froz_at h.ev 10, froz_at h.ev 11, froz_at h.ev 12⟩
/-- All its cells are written. -/
theorem ME.sets13 {z0 z1 z2 z3 z4 z5 z6 z7 z8 z9 z10 z11 z12 v0 v1 v2 v3 v4 v5 v6 v7 v8 v9 v10 v11 v12 : Value} (h : ME tb sb ub nb uc nc m Ms W1 x nu ho lv D eb #[z0, z1, z2, z3, z4, z5, z6, z7, z8, z9, z10, z11, z12]) : ME tb sb ub nb uc nc m Ms W1 (((((((((((((x.setCell ⟨eb, 0, none⟩ v0).setCell ⟨eb, 1, none⟩ v1).setCell ⟨eb, 2, none⟩ v2).setCell ⟨eb, 3, none⟩ v3).setCell ⟨eb, 4, none⟩ v4).setCell ⟨eb, 5, none⟩ v5).setCell ⟨eb, 6, none⟩ v6).setCell ⟨eb, 7, none⟩ v7).setCell ⟨eb, 8, none⟩ v8).setCell ⟨eb, 9, none⟩ v9).setCell ⟨eb, 10, none⟩ v10).setCell ⟨eb, 11, none⟩ v11).setCell ⟨eb, 12, none⟩ v12) nu ho lv D eb #[v0, v1, v2, v3, v4, v5, v6, v7, v8, v9, v10, v11, v12] := by
  have k := (((((((((((((h.set 0 v0).set 1 v1).set 2 v2).set 3 v3).set 4 v4).set 5 v5).set 6 v6).set 7 v7).set 8 v8).set 9 v9).set 10 v10).set 11 v11).set 12 v12)
  simpa using k
theorem ME.cell (h : ME tb sb ub nb uc nc m Ms W1 x nu ho lv D eb cs) : eb < x.heap.size ∧ ∀ j v, cs[j]? = some v → x.cell? ⟨eb, j, none⟩ = some v ∧ x.frozen? ⟨eb, j, none⟩ = false :=
  ⟨lt_of_heap h.ev, fun j v hj => ⟨by rw [cell_at h.ev]; exact hj, froz_at h.ev j⟩⟩
end
end Go.Proofs.YtbielnehggcaoaaDoor
/-
  An event is told: the drawn region that makes it. (Written by tools/gen/genjz.py.)
-/
set_option linter.unusedVariables false
namespace Go.Proofs.YtbielnehggcaoaaDoor
open Go.RowKit
def zEvC : Array Value := #[.int .i64 0, .int .i64 0, .int .i64 0, .int .i64 0, .int .i64 0, .int .i64 0, .int .i64 0, .bool false, .int .i64 0, .bool false, .int .i64 0, .slice none 0 0, .slice none 0 0]
structure GT where
  n : Nat
  a : Int
  b : Int
  c : Int
  d : Int
  eb : Option Nat
  st : Bool
def ebV : Option Nat → Value
  | none => undef
  | some e => pa e 0
def finC (t p key np : Int) (fb : Bool) (fv : Int) (g : GT) : Array Value := #[.int .i64 g.a, .int .i64 (max (IntKind.i64.wrap (t - g.b)) 1), .int .i64 (IntKind.i64.wrap (t + g.c)), .int .i64 (IntKind.i64.wrap (1 + g.d)), .int .i64 p, .int .i64 key, .int .i64 np, .bool fb, .int .i64 fv, .bool false, .int .i64 0, .slice none 0 0, .slice none 0 0]
section
variable (tb sb ub nb uc nc m : Nat) (Ms : List Nat) (W1 : World) (nu : Nat → Int) (ho : Nat → Hold) (lv : Value) (D : List Ev)
def MYE (eb : Option Nat) (w : World) : Prop := match eb with
  | none => MY tb sb ub nb uc nc m Ms W1 w nu ho lv D
  | some e => ME tb sb ub nb uc nc m Ms W1 w nu ho lv D e zEvC
structure TlS (t p key np : Int) (fb : Bool) (fv : Int) (g : GT) (w : World) : Prop where
  pre : g.st = false → MYE tb sb ub nb uc nc m Ms W1 nu ho lv D g.eb w
  post : g.st = true → ∃ e, g.eb = some e ∧ ME tb sb ub nb uc nc m Ms W1 w nu ho lv D e (finC t p key np fb fv g)
  ba : 1 ≤ g.n → 0 ≤ g.a ∧ g.a < 4
  bb : 2 ≤ g.n → 0 ≤ g.b ∧ g.b < 9
  bc : 3 ≤ g.n → 0 ≤ g.c ∧ g.c < 9
  bd : 4 ≤ g.n → 0 ≤ g.d ∧ g.d < 4
end
def tlDone (g : GT) (i : Nat) : Bool := if i = 27 then g.st else if i = 26 then g.eb.isSome else if i = 12 then decide (4 ≤ g.n) else if i = 9 then decide (3 ≤ g.n) else if i = 4 then decide (2 ≤ g.n) else decide (1 ≤ g.n)
section
variable {tb sb ub nb uc nc m : Nat} {Ms : List Nat} {W1 w : World} {nu : Nat → Int} {ho : Nat → Hold} {lv : Value} {D : List Ev} {t p key np : Int} {fb : Bool} {fv : Int} {g : GT}
theorem MYE.my {eb : Option Nat} (h : MYE tb sb ub nb uc nc m Ms W1 nu ho lv D eb w) : MY tb sb ub nb uc nc m Ms W1 w nu ho lv D := by
  cases eb with
  | none => exact h
  | some e => exact ME.my h
theorem TlS.my (h : TlS tb sb ub nb uc nc m Ms W1 nu ho lv D t p key np fb fv g w) : MY tb sb ub nb uc nc m Ms W1 w nu ho lv D := by
  cases hs : g.st with
  | false => exact (h.pre hs).my
  | true =>
    obtain ⟨e, -, h2⟩ := h.post hs
    exact h2.my
theorem TlS.next (h : TlS tb sb ub nb uc nc m Ms W1 nu ho lv D t p key np fb fv g w) (hs : g.st = false) {k : Int} (h0 : 0 < k) (h1 : k ≤ 1000) : Calls Tryd.prog 28 #[pa tb 0, .int .i64 k] w fun r x' => ∃ q : Int, r = .returned (.int .i64 q) ∧ 0 ≤ q ∧ q < k ∧ MYE tb sb ub nb uc nc m Ms W1 nu ho lv D g.eb x' := by
  have hp := h.pre hs
  cases he : g.eb with
  | none =>
    rw [he] at hp
    exact (MY.next hp h0 h1).mono fun r x' ⟨q, e1, e2, e3, e4, _⟩ => ⟨q, e1, e2, e3, e4⟩
  | some e =>
    rw [he] at hp
    exact ME.next hp h0 h1
theorem run_allocE (w : World) : (Instr.alloc 52 true (.tuple #[])).run Tryd.prog w = .ok (pa w.heap.size 0) (w.alloc (.cells zEvC 52 (0, 0))) := by
  unfold pa zEvC
  go_simp
set_option maxHeartbeats 1600000 in
set_option maxRecDepth 100000 in
theorem run_storeE {e : Nat} (h : ME tb sb ub nb uc nc m Ms W1 w nu ho lv D e zEvC) : ∃ w', (Instr.storeAt 52 (pa e 0) (.agg (finC t p key np fb fv g))).run Tryd.prog w = .ok () w' ∧ ME tb sb ub nb uc nc m Ms W1 w' nu ho lv D e (finC t p key np fb fv g) := by
  unfold zEvC at h
  obtain ⟨el, e0, e1, e2, e3, e4, e5, e6, e7, e8, e9, e10, e11, e12, f0, f1, f2, f3, f4, f5, f6, f7, f8, f9, f10, f11, f12⟩ := h.zcells
  unfold finC pa
  refine ⟨_, ?_, h.sets13⟩
  go_simp
theorem x_build1Z {ρ : Operand → Value} {o : Oper} {t : TypeId} {ps : Array (Nat × Operand)} {qs : Array (Nat × Value)} {v : Value} (h : o.op = .build t ps) (hq : ps.map (fun (i, x) => (i, ρ x)) = qs) (hr : (Instr.build t qs).run Tryd.prog w = .ok v w) : (execOp ρ o).run Tryd.prog w = .ok (.value v) w := by
  subst hq
  simp [execOp, h, hr, Result.andThen]
theorem x_maxN {ρ : Operand → Value} {o : Oper} {x y : Operand} {a b : Int} (h : o.op = .call { callee := .builtin .max, args := #[x, y], argTypes := #[3, 3] }) (hx : ρ x = .int .i64 a) (hy : ρ y = .int .i64 b) : (execOp ρ o).run Tryd.prog w = .ok (.value (.int .i64 (max a b))) w := by
  simp only [execOp, h, resolve, invoke, builtin, Sem.run_bind, Sem.run_pure, Result.andThen_ok, List.map_toArray, List.map_cons, List.map_nil, hx, hy]
  go_simp
end
def tl_r2V (sb tb ub m uc p : Nat) (t key fv : Int) (fb : Bool) (nu : Nat → Int) : GT → Nat → Value := fun g j => match j with | 0 => (pa tb 0) | 1 => (Value.int IntKind.i64 g.a) | 2 => (Value.int IntKind.i64 t) | 3 => (pa tb 0) | 4 => (Value.int IntKind.i64 g.b) | 5 => (Value.int IntKind.i64 (IntKind.i64.wrap (t - g.b))) | 6 => (Value.int IntKind.i64 (max (IntKind.i64.wrap (t - g.b)) 1)) | 7 => (Value.int IntKind.i64 t) | 8 => (pa tb 0) | 9 => (Value.int IntKind.i64 g.c) | 10 => (Value.int IntKind.i64 (IntKind.i64.wrap (t + g.c))) | 11 => (pa tb 0) | 12 => (Value.int IntKind.i64 g.d) | 13 => (Value.int IntKind.i64 (IntKind.i64.wrap (1 + g.d))) | 14 => (Value.int IntKind.i64 (p : Int)) | 15 => (Value.int IntKind.i64 key) | 16 => (pa sb 0) | 17 => (pa sb 0) | 18 => (pa sb 1) | 19 => (Value.slice (some ⟨ub, 0, none⟩) m uc) | 20 => (Value.int IntKind.i64 (p : Int)) | 21 => (pa ub p) | 22 => (Value.int IntKind.i64 (nu p)) | 23 => (Value.bool fb) | 24 => (Value.int IntKind.i64 fv) | 25 => (Value.agg (finC t p key (nu p) fb fv g)) | 26 => (ebV g.eb) | 27 => undef | _ => undef
set_option maxRecDepth 100000 in
set_option maxHeartbeats 1600000 in
theorem tl_r2 {tb sb ub nb uc nc m p : Nat} {Ms : List Nat} {W1 w : World} {nu : Nat → Int} {ho : Nat → Hold} {lv : Value} {D : List Ev} {t key fv : Int} {fb : Bool} {K : Act → World → Prop} {Q : Exit → Act → World → Prop} {a0 : Act} (hs : a0.tmps.size = 130) (x0 : a0.eval (.tmp 0) = pa sb 0) (x1 : a0.eval (.tmp 1) = pa tb 0) (x2 : a0.eval (.tmp 2) = .int .i64 t) (x6 : a0.eval (.tmp 6) = .int .i64 (p : Int)) (x7 : a0.eval (.tmp 7) = .int .i64 key) (x8 : a0.eval (.tmp 8) = .int .i64 fv) (x9 : a0.eval (.tmp 9) = .bool fb) (hM : MY tb sb ub nb uc nc m Ms W1 w nu ho lv D) (hp : p < m) (hq : (p : Int) < (m : Int)) (hq2 : 0 ≤ (p : Int)) (hq3 : IntKind.i64.wrap (p : Int) = (p : Int))
    (hEnd : ∀ a' x (g : GT) (e : Nat), a'.tmps.size = a0.tmps.size → a'.defers = a0.defers → (∀ s, some s ∉ ([some 32, some 33, some 34, some 35, some 36, some 37, some 38, some 39, some 40, some 41, some 42, some 43, some 44, some 45, some 46, some 47, some 48, some 49, some 50, some 51, some 52, some 53, some 54, some 55, some 56, some 57, some 10, none] : List (Option Nat)) → a'.eval (.tmp s) = a0.eval (.tmp s)) → a'.eval (.tmp 10) = pa e 0 → ME tb sb ub nb uc nc m Ms W1 x nu ho lv D e (finC t p key (nu p) fb fv g) → (0 ≤ g.a ∧ g.a < 4) → (0 ≤ g.b ∧ g.b < 9) → (0 ≤ g.c ∧ g.c < 9) → (0 ≤ g.d ∧ g.d < 4) → K a' x) : (Code.region 2 (opsOf 2 Tryd.f27.body) true).wp Tryd.prog (Exit.then K Q) a0 w := by
  refine wp_region_ghost3 (G := GT) (by kernel_rfl) [some 32, some 33, some 34, some 35, some 36, some 37, some 38, some 39, some 40, some 41, some 42, some 43, some 44, some 45, some 46, some 47, some 48, some 49, some 50, some 51, some 52, some 53, some 54, some 55, some 56, some 57, some 10, none] (by rw [hs]; kernel_rfl) (tl_r2V sb tb ub m uc p t key fv fb nu) [1, 4, 9, 12, 26, 27] ?_ (tlDone) (TlS tb sb ub nb uc nc m Ms W1 nu ho lv D t p key (nu p) fb fv) (⟨0, 0, 0, 0, 0, none, false⟩) (⟨fun _ => hM.drewM, fun h => (by cases h), fun h => (by simp only at h; omega), fun h => (by simp only at h; omega), fun h => (by simp only at h; omega), fun h => (by simp only at h; omega)⟩) (by intro x hx; simp at hx; rcases hx with rfl | rfl | rfl | rfl | rfl | rfl <;> rfl) (by decide) ?_ ?_
  · intro i g b h γ
    have hi : i < 28 := by
      apply Classical.byContradiction
      intro hn
      rw [show (opsOf 2 Tryd.f27.body)[i]? = none from Array.getElem?_eq_none (by have : (opsOf 2 Tryd.f27.body).size = 28 := (by kernel_rfl); omega)] at h
      cases h
    rcases (by omega : i = 0 ∨ i = 1 ∨ i = 2 ∨ i = 3 ∨ i = 4 ∨ i = 5 ∨ i = 6 ∨ i = 7 ∨ i = 8 ∨ i = 9 ∨ i = 10 ∨ i = 11 ∨ i = 12 ∨ i = 13 ∨ i = 14 ∨ i = 15 ∨ i = 16 ∨ i = 17 ∨ i = 18 ∨ i = 19 ∨ i = 20 ∨ i = 21 ∨ i = 22 ∨ i = 23 ∨ i = 24 ∨ i = 25 ∨ i = 26 ∨ i = 27) with rfl | rfl | rfl | rfl | rfl | rfl | rfl | rfl | rfl | rfl | rfl | rfl | rfl | rfl | rfl | rfl | rfl | rfl | rfl | rfl | rfl | rfl | rfl | rfl | rfl | rfl | rfl | rfl
    · rw [show ((opsOf 2 Tryd.f27.body)[0]?).bind (fun o : Oper => o.guard) = none from by kernel_rfl] at h
      cases h
    · rw [show ((opsOf 2 Tryd.f27.body)[1]?).bind (fun o : Oper => o.guard) = none from by kernel_rfl] at h
      cases h
    · rw [show ((opsOf 2 Tryd.f27.body)[2]?).bind (fun o : Oper => o.guard) = none from by kernel_rfl] at h
      cases h
    · rw [show ((opsOf 2 Tryd.f27.body)[3]?).bind (fun o : Oper => o.guard) = none from by kernel_rfl] at h
      cases h
    · rw [show ((opsOf 2 Tryd.f27.body)[4]?).bind (fun o : Oper => o.guard) = none from by kernel_rfl] at h
      cases h
    · rw [show ((opsOf 2 Tryd.f27.body)[5]?).bind (fun o : Oper => o.guard) = none from by kernel_rfl] at h
      cases h
    · rw [show ((opsOf 2 Tryd.f27.body)[6]?).bind (fun o : Oper => o.guard) = none from by kernel_rfl] at h
      cases h
    · rw [show ((opsOf 2 Tryd.f27.body)[7]?).bind (fun o : Oper => o.guard) = none from by kernel_rfl] at h
      cases h
    · rw [show ((opsOf 2 Tryd.f27.body)[8]?).bind (fun o : Oper => o.guard) = none from by kernel_rfl] at h
      cases h
    · rw [show ((opsOf 2 Tryd.f27.body)[9]?).bind (fun o : Oper => o.guard) = none from by kernel_rfl] at h
      cases h
    · rw [show ((opsOf 2 Tryd.f27.body)[10]?).bind (fun o : Oper => o.guard) = none from by kernel_rfl] at h
      cases h
    · rw [show ((opsOf 2 Tryd.f27.body)[11]?).bind (fun o : Oper => o.guard) = none from by kernel_rfl] at h
      cases h
    · rw [show ((opsOf 2 Tryd.f27.body)[12]?).bind (fun o : Oper => o.guard) = none from by kernel_rfl] at h
      cases h
    · rw [show ((opsOf 2 Tryd.f27.body)[13]?).bind (fun o : Oper => o.guard) = none from by kernel_rfl] at h
      cases h
    · rw [show ((opsOf 2 Tryd.f27.body)[14]?).bind (fun o : Oper => o.guard) = none from by kernel_rfl] at h
      cases h
    · rw [show ((opsOf 2 Tryd.f27.body)[15]?).bind (fun o : Oper => o.guard) = none from by kernel_rfl] at h
      cases h
    · rw [show ((opsOf 2 Tryd.f27.body)[16]?).bind (fun o : Oper => o.guard) = none from by kernel_rfl] at h
      cases h
    · rw [show ((opsOf 2 Tryd.f27.body)[17]?).bind (fun o : Oper => o.guard) = none from by kernel_rfl] at h
      cases h
    · rw [show ((opsOf 2 Tryd.f27.body)[18]?).bind (fun o : Oper => o.guard) = none from by kernel_rfl] at h
      cases h
    · rw [show ((opsOf 2 Tryd.f27.body)[19]?).bind (fun o : Oper => o.guard) = none from by kernel_rfl] at h
      cases h
    · rw [show ((opsOf 2 Tryd.f27.body)[20]?).bind (fun o : Oper => o.guard) = none from by kernel_rfl] at h
      cases h
    · rw [show ((opsOf 2 Tryd.f27.body)[21]?).bind (fun o : Oper => o.guard) = none from by kernel_rfl] at h
      cases h
    · rw [show ((opsOf 2 Tryd.f27.body)[22]?).bind (fun o : Oper => o.guard) = none from by kernel_rfl] at h
      cases h
    · rw [show ((opsOf 2 Tryd.f27.body)[23]?).bind (fun o : Oper => o.guard) = none from by kernel_rfl] at h
      cases h
    · rw [show ((opsOf 2 Tryd.f27.body)[24]?).bind (fun o : Oper => o.guard) = none from by kernel_rfl] at h
      cases h
    · rw [show ((opsOf 2 Tryd.f27.body)[25]?).bind (fun o : Oper => o.guard) = none from by kernel_rfl] at h
      cases h
    · rw [show ((opsOf 2 Tryd.f27.body)[26]?).bind (fun o : Oper => o.guard) = none from by kernel_rfl] at h
      cases h
    · rw [show ((opsOf 2 Tryd.f27.body)[27]?).bind (fun o : Oper => o.guard) = none from by kernel_rfl] at h
      cases h
  · intro i hi hgd
    rcases (by simp at hi; omega : i = 0 ∨ i = 1 ∨ i = 2 ∨ i = 3 ∨ i = 4 ∨ i = 5 ∨ i = 6 ∨ i = 7 ∨ i = 8 ∨ i = 9 ∨ i = 10 ∨ i = 11 ∨ i = 12 ∨ i = 13 ∨ i = 14 ∨ i = 15 ∨ i = 16 ∨ i = 17 ∨ i = 18 ∨ i = 19 ∨ i = 20 ∨ i = 21 ∨ i = 22 ∨ i = 23 ∨ i = 24 ∨ i = 25 ∨ i = 26 ∨ i = 27) with rfl | rfl | rfl | rfl | rfl | rfl | rfl | rfl | rfl | rfl | rfl | rfl | rfl | rfl | rfl | rfl | rfl | rfl | rfl | rfl | rfl | rfl | rfl | rfl | rfl | rfl | rfl | rfl
    · refine soft (by decide) ?_
      intro o ac wa g ho hoff hv hS hdn
      exact (x_move (op_is rfl ho)).trans (by rw [((hoff 1 (by decide)).trans x1)]; rfl)
    · intro o ac wa g K ho hd _ hoff hv hS hpre hnd hlater hK
      have h1 : g.n ≤ 0 := by have := hnd (by simp); simp [tlDone] at this; omega
      have hst : g.st = false := by have := hlater 27 (by simp) (by kernel_rfl); simpa [tlDone] using this
      refine l_callE (op_is rfl ho) (xs := #[pa tb 0, .int .i64 4]) (by simp only [List.map_toArray, List.map_cons, List.map_nil]; rw [(hv 0 32 rfl (by kernel_rfl))]; rfl) Tryd.func28 (by kernel_rfl) rfl (hS.next hst (by decide) (by decide)) ?_
      rintro e w' ⟨q, rfl, q0, q1, hp2⟩
      refine ⟨_, rfl, ?_⟩
      rw [hd]
      refine hK ⟨1, q, g.b, g.c, g.d, g.eb, g.st⟩ w' ⟨fun _ => hp2, fun h => (by simp only at h; rw [hst] at h; cases h), fun _ => ⟨q0, q1⟩, fun h => by simp only at h; omega, fun h => by simp only at h; omega, fun h => by simp only at h; omega⟩ (by intro x hx; simp at hx; rcases hx with rfl | rfl | rfl | rfl | rfl | rfl <;> simp [tlDone] <;> omega) fun j hj hr => ?_
      match j, hr with
      | 0, _ => rfl
      | 1, _ => exact absurd rfl hj
      | 2, _ => rfl
      | 3, _ => rfl
      | 4, _ => rfl
      | 5, _ => rfl
      | 6, _ => rfl
      | 7, _ => rfl
      | 8, _ => rfl
      | 9, _ => rfl
      | 10, _ => rfl
      | 11, _ => rfl
      | 12, _ => rfl
      | 13, _ => rfl
      | 14, _ => rfl
      | 15, _ => rfl
      | 16, _ => rfl
      | 17, _ => rfl
      | 18, _ => rfl
      | 19, _ => rfl
      | 20, _ => rfl
      | 21, _ => rfl
      | 22, _ => rfl
      | 23, _ => rfl
      | 24, _ => rfl
      | 25, hr => exact absurd (hr.symm.trans (by kernel_rfl : reachB (opsOf 2 Tryd.f27.body) (opsOf 2 Tryd.f27.body).size 25 1 = true)) (by decide)
      | 26, _ => rfl
      | 27, _ => rfl
      | q + 28, _ => rfl
    · refine soft (by decide) ?_
      intro o ac wa g ho hoff hv hS hdn
      exact (x_move (op_is rfl ho)).trans (by rw [((hoff 2 (by decide)).trans x2)]; rfl)
    · refine soft (by decide) ?_
      intro o ac wa g ho hoff hv hS hdn
      exact (x_move (op_is rfl ho)).trans (by rw [((hoff 1 (by decide)).trans x1)]; rfl)
    · intro o ac wa g K ho hd _ hoff hv hS hpre hnd hlater hK
      have h1 : g.n ≤ 1 := by have := hnd (by simp); simp [tlDone] at this; omega
      have h2 : 1 ≤ g.n := by have := hpre 1 (by simp) (by kernel_rfl); simp [tlDone] at this; omega
      have hst : g.st = false := by have := hlater 27 (by simp) (by kernel_rfl); simpa [tlDone] using this
      refine l_callE (op_is rfl ho) (xs := #[pa tb 0, .int .i64 9]) (by simp only [List.map_toArray, List.map_cons, List.map_nil]; rw [(hv 3 35 rfl (by kernel_rfl))]; rfl) Tryd.func28 (by kernel_rfl) rfl (hS.next hst (by decide) (by decide)) ?_
      rintro e w' ⟨q, rfl, q0, q1, hp2⟩
      refine ⟨_, rfl, ?_⟩
      rw [hd]
      refine hK ⟨2, g.a, q, g.c, g.d, g.eb, g.st⟩ w' ⟨fun _ => hp2, fun h => (by simp only at h; rw [hst] at h; cases h), fun _ => hS.ba (by omega), fun _ => ⟨q0, q1⟩, fun h => by simp only at h; omega, fun h => by simp only at h; omega⟩ (by intro x hx; simp at hx; rcases hx with rfl | rfl | rfl | rfl | rfl | rfl <;> simp [tlDone] <;> omega) fun j hj hr => ?_
      match j, hr with
      | 0, _ => rfl
      | 1, _ => rfl
      | 2, _ => rfl
      | 3, _ => rfl
      | 4, _ => exact absurd rfl hj
      | 5, hr => exact absurd (hr.symm.trans (by kernel_rfl : reachB (opsOf 2 Tryd.f27.body) (opsOf 2 Tryd.f27.body).size 5 4 = true)) (by decide)
      | 6, hr => exact absurd (hr.symm.trans (by kernel_rfl : reachB (opsOf 2 Tryd.f27.body) (opsOf 2 Tryd.f27.body).size 6 4 = true)) (by decide)
      | 7, _ => rfl
      | 8, _ => rfl
      | 9, _ => rfl
      | 10, _ => rfl
      | 11, _ => rfl
      | 12, _ => rfl
      | 13, _ => rfl
      | 14, _ => rfl
      | 15, _ => rfl
      | 16, _ => rfl
      | 17, _ => rfl
      | 18, _ => rfl
      | 19, _ => rfl
      | 20, _ => rfl
      | 21, _ => rfl
      | 22, _ => rfl
      | 23, _ => rfl
      | 24, _ => rfl
      | 25, hr => exact absurd (hr.symm.trans (by kernel_rfl : reachB (opsOf 2 Tryd.f27.body) (opsOf 2 Tryd.f27.body).size 25 4 = true)) (by decide)
      | 26, _ => rfl
      | 27, _ => rfl
      | q + 28, _ => rfl
    · refine soft (by decide) ?_
      intro o ac wa g ho hoff hv hS hdn
      exact x_bin (op_is rfl ho) (hv 2 34 rfl (by kernel_rfl)) (hv 4 36 rfl (by kernel_rfl)) (by go_simp) (by show (binOp .sub _ (.int .i64 t) (.int .i64 g.b)).run _ _ = .ok (.int .i64 _) _; go_simp)
    · refine soft (by decide) ?_
      intro o ac wa g ho hoff hv hS hdn
      exact x_maxN (op_is rfl ho) (hv 5 37 rfl (by kernel_rfl)) rfl
    · refine soft (by decide) ?_
      intro o ac wa g ho hoff hv hS hdn
      exact (x_move (op_is rfl ho)).trans (by rw [((hoff 2 (by decide)).trans x2)]; rfl)
    · refine soft (by decide) ?_
      intro o ac wa g ho hoff hv hS hdn
      exact (x_move (op_is rfl ho)).trans (by rw [((hoff 1 (by decide)).trans x1)]; rfl)
    · intro o ac wa g K ho hd _ hoff hv hS hpre hnd hlater hK
      have h1 : g.n ≤ 2 := by have := hnd (by simp); simp [tlDone] at this; omega
      have h2 : 2 ≤ g.n := by have := hpre 4 (by simp) (by kernel_rfl); simp [tlDone] at this; omega
      have hst : g.st = false := by have := hlater 27 (by simp) (by kernel_rfl); simpa [tlDone] using this
      refine l_callE (op_is rfl ho) (xs := #[pa tb 0, .int .i64 9]) (by simp only [List.map_toArray, List.map_cons, List.map_nil]; rw [(hv 8 40 rfl (by kernel_rfl))]; rfl) Tryd.func28 (by kernel_rfl) rfl (hS.next hst (by decide) (by decide)) ?_
      rintro e w' ⟨q, rfl, q0, q1, hp2⟩
      refine ⟨_, rfl, ?_⟩
      rw [hd]
      refine hK ⟨3, g.a, g.b, q, g.d, g.eb, g.st⟩ w' ⟨fun _ => hp2, fun h => (by simp only at h; rw [hst] at h; cases h), fun _ => hS.ba (by omega), fun _ => hS.bb (by omega), fun _ => ⟨q0, q1⟩, fun h => by simp only at h; omega⟩ (by intro x hx; simp at hx; rcases hx with rfl | rfl | rfl | rfl | rfl | rfl <;> simp [tlDone] <;> omega) fun j hj hr => ?_
      match j, hr with
      | 0, _ => rfl
      | 1, _ => rfl
      | 2, _ => rfl
      | 3, _ => rfl
      | 4, _ => rfl
      | 5, _ => rfl
      | 6, _ => rfl
      | 7, _ => rfl
      | 8, _ => rfl
      | 9, _ => exact absurd rfl hj
      | 10, hr => exact absurd (hr.symm.trans (by kernel_rfl : reachB (opsOf 2 Tryd.f27.body) (opsOf 2 Tryd.f27.body).size 10 9 = true)) (by decide)
      | 11, _ => rfl
      | 12, _ => rfl
      | 13, _ => rfl
      | 14, _ => rfl
      | 15, _ => rfl
      | 16, _ => rfl
      | 17, _ => rfl
      | 18, _ => rfl
      | 19, _ => rfl
      | 20, _ => rfl
      | 21, _ => rfl
      | 22, _ => rfl
      | 23, _ => rfl
      | 24, _ => rfl
      | 25, hr => exact absurd (hr.symm.trans (by kernel_rfl : reachB (opsOf 2 Tryd.f27.body) (opsOf 2 Tryd.f27.body).size 25 9 = true)) (by decide)
      | 26, _ => rfl
      | 27, _ => rfl
      | q + 28, _ => rfl
    · refine soft (by decide) ?_
      intro o ac wa g ho hoff hv hS hdn
      exact x_bin (op_is rfl ho) (hv 7 39 rfl (by kernel_rfl)) (hv 9 41 rfl (by kernel_rfl)) (by go_simp) (by show (binOp .add _ (.int .i64 t) (.int .i64 g.c)).run _ _ = .ok (.int .i64 _) _; go_simp)
    · refine soft (by decide) ?_
      intro o ac wa g ho hoff hv hS hdn
      exact (x_move (op_is rfl ho)).trans (by rw [((hoff 1 (by decide)).trans x1)]; rfl)
    · intro o ac wa g K ho hd _ hoff hv hS hpre hnd hlater hK
      have h1 : g.n ≤ 3 := by have := hnd (by simp); simp [tlDone] at this; omega
      have h2 : 3 ≤ g.n := by have := hpre 9 (by simp) (by kernel_rfl); simp [tlDone] at this; omega
      have hst : g.st = false := by have := hlater 27 (by simp) (by kernel_rfl); simpa [tlDone] using this
      refine l_callE (op_is rfl ho) (xs := #[pa tb 0, .int .i64 4]) (by simp only [List.map_toArray, List.map_cons, List.map_nil]; rw [(hv 11 43 rfl (by kernel_rfl))]; rfl) Tryd.func28 (by kernel_rfl) rfl (hS.next hst (by decide) (by decide)) ?_
      rintro e w' ⟨q, rfl, q0, q1, hp2⟩
      refine ⟨_, rfl, ?_⟩
      rw [hd]
      refine hK ⟨4, g.a, g.b, g.c, q, g.eb, g.st⟩ w' ⟨fun _ => hp2, fun h => (by simp only at h; rw [hst] at h; cases h), fun _ => hS.ba (by omega), fun _ => hS.bb (by omega), fun _ => hS.bc (by omega), fun _ => ⟨q0, q1⟩⟩ (by intro x hx; simp at hx; rcases hx with rfl | rfl | rfl | rfl | rfl | rfl <;> simp [tlDone] <;> omega) fun j hj hr => ?_
      match j, hr with
      | 0, _ => rfl
      | 1, _ => rfl
      | 2, _ => rfl
      | 3, _ => rfl
      | 4, _ => rfl
      | 5, _ => rfl
      | 6, _ => rfl
      | 7, _ => rfl
      | 8, _ => rfl
      | 9, _ => rfl
      | 10, _ => rfl
      | 11, _ => rfl
      | 12, _ => exact absurd rfl hj
      | 13, hr => exact absurd (hr.symm.trans (by kernel_rfl : reachB (opsOf 2 Tryd.f27.body) (opsOf 2 Tryd.f27.body).size 13 12 = true)) (by decide)
      | 14, _ => rfl
      | 15, _ => rfl
      | 16, _ => rfl
      | 17, _ => rfl
      | 18, _ => rfl
      | 19, _ => rfl
      | 20, _ => rfl
      | 21, _ => rfl
      | 22, _ => rfl
      | 23, _ => rfl
      | 24, _ => rfl
      | 25, hr => exact absurd (hr.symm.trans (by kernel_rfl : reachB (opsOf 2 Tryd.f27.body) (opsOf 2 Tryd.f27.body).size 25 12 = true)) (by decide)
      | 26, _ => rfl
      | 27, _ => rfl
      | q + 28, _ => rfl
    · refine soft (by decide) ?_
      intro o ac wa g ho hoff hv hS hdn
      exact x_bin (op_is rfl ho) rfl (hv 12 44 rfl (by kernel_rfl)) (by go_simp) (by show (binOp .add _ (.int .i64 1) (.int .i64 g.d)).run _ _ = .ok (.int .i64 _) _; go_simp)
    · refine soft (by decide) ?_
      intro o ac wa g ho hoff hv hS hdn
      exact (x_move (op_is rfl ho)).trans (by rw [((hoff 6 (by decide)).trans x6)]; rfl)
    · refine soft (by decide) ?_
      intro o ac wa g ho hoff hv hS hdn
      exact (x_move (op_is rfl ho)).trans (by rw [((hoff 7 (by decide)).trans x7)]; rfl)
    · refine soft (by decide) ?_
      intro o ac wa g ho hoff hv hS hdn
      exact (x_move (op_is rfl ho)).trans (by rw [((hoff 0 (by decide)).trans x0)]; rfl)
    · refine soft (by decide) ?_
      intro o ac wa g ho hoff hv hS hdn
      exact x_nil (op_is rfl ho) ((hv 16 48 rfl (by kernel_rfl)))
    · refine soft (by decide) ?_
      intro o ac wa g ho hoff hv hS hdn
      exact x_field (op_is rfl ho) (by rw [(hv 17 49 rfl (by kernel_rfl))]; show (Instr.fieldAt _ (pa _ _) _).run _ _ = .ok (pa _ _) _; unfold pa; go_simp)
    · refine soft (by decide) ?_
      intro o ac wa g ho hoff hv hS hdn
      have hc := hS.my.cells.2.2.1
      exact x_load (op_is rfl ho) (by rw [(hv 18 50 rfl (by kernel_rfl))]; show (Instr.loadAt _ (pa _ _)).run _ _ = _; unfold pa; go_simp; rfl)
    · refine soft (by decide) ?_
      intro o ac wa g ho hoff hv hS hdn
      exact (x_move (op_is rfl ho)).trans (by rw [((hoff 6 (by decide)).trans x6)]; rfl)
    · refine soft (by decide) ?_
      intro o ac wa g ho hoff hv hS hdn
      exact x_index (op_is rfl ho) (by rw [(hv 19 51 rfl (by kernel_rfl)), (hv 20 52 rfl (by kernel_rfl))]; show (Instr.indexAt _ (Value.slice (some ⟨ub, 0, none⟩) m uc) (Value.int IntKind.i64 (p : Int))).run _ _ = .ok (pa _ _) _; unfold pa; go_simp)
    · refine soft (by decide) ?_
      intro o ac wa g ho hoff hv hS hdn
      have hc := (hS.my.cellu hp).2.1
      exact x_load (op_is rfl ho) (by rw [(hv 21 53 rfl (by kernel_rfl))]; show (Instr.loadAt _ (pa _ _)).run _ _ = _; unfold pa; go_simp; rfl)
    · refine soft (by decide) ?_
      intro o ac wa g ho hoff hv hS hdn
      exact (x_move (op_is rfl ho)).trans (by rw [((hoff 9 (by decide)).trans x9)]; rfl)
    · refine soft (by decide) ?_
      intro o ac wa g ho hoff hv hS hdn
      exact (x_move (op_is rfl ho)).trans (by rw [((hoff 8 (by decide)).trans x8)]; rfl)
    · refine soft (by decide) ?_
      intro o ac wa g ho hoff hv hS hdn
      exact x_build1Z (op_is rfl ho) (qs := #[(0, .int .i64 g.a), (1, .int .i64 (max (IntKind.i64.wrap (t - g.b)) 1)), (2, .int .i64 (IntKind.i64.wrap (t + g.c))), (3, .int .i64 (IntKind.i64.wrap (1 + g.d))), (4, .int .i64 p), (5, .int .i64 key), (6, .int .i64 (nu p)), (7, .bool fb), (8, .int .i64 fv)]) (by simp only [List.map_toArray, List.map_cons, List.map_nil]; rw [(hv 1 33 rfl (by kernel_rfl)), (hv 6 38 rfl (by kernel_rfl)), (hv 10 42 rfl (by kernel_rfl)), (hv 13 45 rfl (by kernel_rfl)), (hv 14 46 rfl (by kernel_rfl)), (hv 15 47 rfl (by kernel_rfl)), (hv 22 54 rfl (by kernel_rfl)), (hv 23 55 rfl (by kernel_rfl)), (hv 24 56 rfl (by kernel_rfl))]; rfl) (by show _ = Result.ok (Value.agg (finC t p key (nu p) fb fv g)) _; unfold finC; go_simp)
    · intro o ac wa g K ho hd _ hoff hv hS hpre hnd hlater hK
      have h1 : g.eb = none := by have := hnd (by simp); simpa [tlDone] using this
      have hst : g.st = false := by have := hlater 27 (by simp) (by kernel_rfl); simpa [tlDone] using this
      have hm := hS.pre hst
      rw [h1] at hm
      refine l_val hd (x_alloc (op_is rfl ho) (run_allocE wa)) ?_
      refine hK ⟨g.n, g.a, g.b, g.c, g.d, some wa.heap.size, g.st⟩ _ ⟨fun _ => MY.made hm _, fun h => (by simp only at h; rw [hst] at h; cases h), hS.ba, hS.bb, hS.bc, hS.bd⟩ (by intro x hx; simp at hx; rcases hx with rfl | rfl | rfl | rfl | rfl | rfl <;> simp [tlDone, h1]) fun j hj hr => ?_
      match j, hr with
      | 0, _ => rfl
      | 1, _ => rfl
      | 2, _ => rfl
      | 3, _ => rfl
      | 4, _ => rfl
      | 5, _ => rfl
      | 6, _ => rfl
      | 7, _ => rfl
      | 8, _ => rfl
      | 9, _ => rfl
      | 10, _ => rfl
      | 11, _ => rfl
      | 12, _ => rfl
      | 13, _ => rfl
      | 14, _ => rfl
      | 15, _ => rfl
      | 16, _ => rfl
      | 17, _ => rfl
      | 18, _ => rfl
      | 19, _ => rfl
      | 20, _ => rfl
      | 21, _ => rfl
      | 22, _ => rfl
      | 23, _ => rfl
      | 24, _ => rfl
      | 25, _ => rfl
      | 26, _ => exact absurd rfl hj
      | 27, _ => rfl
      | q + 28, _ => rfl
    · intro o ac wa g K ho hd _ hoff hv hS hpre hnd hlater hK
      have hst : g.st = false := by have := hnd (by simp); simpa [tlDone] using this
      have hn : 4 ≤ g.n := by have := hpre 12 (by simp) (by kernel_rfl); simpa [tlDone] using this
      have he : g.eb.isSome = true := by have := hpre 26 (by simp) (by kernel_rfl); simpa [tlDone] using this
      obtain ⟨e, he⟩ := Option.isSome_iff_exists.1 he
      have hm := hS.pre hst
      rw [he] at hm
      obtain ⟨w', hr', hp2⟩ := run_storeE (t := t) (p := p) (key := key) (np := nu p) (fb := fb) (fv := fv) (g := g) hm
      refine l_skip hd (x_store (op_is rfl ho) (by rw [(hv 26 10 rfl (by kernel_rfl)), (hv 25 57 rfl (by kernel_rfl))]; show (Instr.storeAt _ (ebV g.eb) _).run _ _ = _; rw [he]; exact hr')) ?_
      refine hK ⟨g.n, g.a, g.b, g.c, g.d, g.eb, true⟩ w' ⟨fun h => (by cases h), fun _ => ⟨e, he, hp2⟩, hS.ba, hS.bb, hS.bc, hS.bd⟩ (by intro x hx; simp at hx; rcases hx with rfl | rfl | rfl | rfl | rfl | rfl <;> simp [tlDone]) fun j hj hr => ?_
      match j, hr with
      | 0, _ => rfl
      | 1, _ => rfl
      | 2, _ => rfl
      | 3, _ => rfl
      | 4, _ => rfl
      | 5, _ => rfl
      | 6, _ => rfl
      | 7, _ => rfl
      | 8, _ => rfl
      | 9, _ => rfl
      | 10, _ => rfl
      | 11, _ => rfl
      | 12, _ => rfl
      | 13, _ => rfl
      | 14, _ => rfl
      | 15, _ => rfl
      | 16, _ => rfl
      | 17, _ => rfl
      | 18, _ => rfl
      | 19, _ => rfl
      | 20, _ => rfl
      | 21, _ => rfl
      | 22, _ => rfl
      | 23, _ => rfl
      | 24, _ => rfl
      | 25, _ => rfl
      | 26, _ => rfl
      | 27, _ => exact absurd rfl hj
      | q + 28, _ => rfl
  · intro a' w' g hsz hdf hoff hS hdn hval
    have hst : g.st = true := by have := hdn 27 (by simp); simpa [tlDone] using this
    have hn : 4 ≤ g.n := by have := hdn 12 (by simp); simpa [tlDone] using this
    obtain ⟨e, he, hp2⟩ := hS.post hst
    have h10 := hval 26 10 rfl
    exact hEnd a' w' g e hsz hdf (fun s hs => ev_same (hoff s hs)) (by rw [h10]; show ebV g.eb = _; rw [he]; rfl) hp2 (hS.ba (by omega)) (hS.bb (by omega)) (hS.bc (by omega)) (hS.bd hn)
end Go.Proofs.YtbielnehggcaoaaDoor
/-
  One event more. (By the verifier; no statement, no memory.)
-/
namespace Go.Proofs.YtbielnehggcaoaaDoor
open Go.RowKit
/-- A history that was, its values small. -/
structure SM (S : List (List (Int × Int))) (D : List Ev) : Prop where
  sto : Sto S D
  v : ∀ i, i < D.length → EvV S (D.take i) (eAt D i)
  vb : ∀ i, i < D.length → (eAt D i).k ≠ 4 → 0 ≤ (eAt D i).val ∧ (eAt D i).val < 1000
  pn : ∀ i, (eAt D i).ps = []
  hb : ∀ (p key v : Int), hoL (firstH S p) D p key = some v → 0 ≤ v ∧ v < 1000
theorem nu_app (D : List Ev) (e : Ev) (p : Int) : nuL (D ++ [e]) p = nuL D p + (if pubP p e then 1 else 0) := by
  unfold nuL
  rw [List.filter_append, List.length_append]
  cases hb : pubP p e <;> simp [hb, Nat.add_assoc]
theorem ho_app (f : Hold) (D : List Ev) (e : Ev) (p : Int) : hoL f (D ++ [e]) p = if pubP p e then (hoL f D p).chg e else hoL f D p := by
  unfold hoL
  rw [List.foldl_append]
  rfl
theorem SM.push {S : List (List (Int × Int))} {D : List Ev} {e : Ev} (h : SM S D) (hl : D.length < 1024) (ht : EvT S D D.length e) (hv : EvV S D e) (hb : e.k ≠ 4 → 0 ≤ e.val ∧ e.val < 1000) (hn : e.has = true → 0 ≤ e.new ∧ e.new < 1000) (hpn : e.ps = []) : SM S (D ++ [e]) := by
  have tk : ∀ i, i ≤ D.length → (D ++ [e]).take i = D.take i := fun i hi => List.take_append_of_le_length hi
  have tl : (D ++ [e]).take D.length = D := by rw [tk _ (Nat.le_refl _), List.take_length]
  have len : ∀ i, i < (D ++ [e]).length → i < D.length ∨ i = D.length := fun i hi => by
    rw [List.length_append] at hi
    simp only [List.length_cons, List.length_nil] at hi
    omega
  refine ⟨⟨by rw [List.length_append]; simp only [List.length_cons, List.length_nil]; omega, fun i hi => ?_⟩, fun i hi => ?_, fun i hi => ?_, fun i => ?_, fun p key v => ?_⟩
  · rcases len i hi with g | rfl
    · rw [tk i (by omega), eAt_app g]
      exact h.sto.t i g
    · rw [tl, eAt_last]
      exact ht
  · rcases len i hi with g | rfl
    · rw [tk i (by omega), eAt_app g]
      exact h.v i g
    · rw [tl, eAt_last]
      exact hv
  · rcases len i hi with g | rfl
    · rw [eAt_app g]
      exact h.vb i g
    · rw [eAt_last]
      exact hb
  · by_cases g : i < D.length
    · rw [eAt_app g]
      exact h.pn i
    · by_cases g2 : i = D.length
      · rw [g2, eAt_last]
        exact hpn
      · unfold eAt
        rw [List.getD_eq_getElem?_getD, List.getElem?_eq_none (by rw [List.length_append]; simp only [List.length_cons, List.length_nil]; omega)]
        rfl
  · rw [ho_app]
    cases hp : pubP p e with
    | false =>
      simp only [Bool.false_eq_true, if_false]
      exact h.hb p key v
    | true =>
      simp only [if_true]
      unfold pubP at hp
      simp only [Bool.and_eq_true] at hp
      have hk : ¬ e.k = 5 := by
        have := (ht.pub hp.1).1
        omega
      unfold Hold.chg
      rw [if_neg hk]
      cases hh : e.has with
      | true =>
        simp only [if_true]
        unfold Hold.put
        intro hq
        split at hq
        · cases hq
          exact hn hh
        · exact h.hb p key v hq
      | false =>
        simp only [Bool.false_eq_true, if_false]
        unfold Hold.del
        intro hq
        split at hq
        · cases hq
        · exact h.hb p key v hq
theorem nu_write {D : List Ev} {e : Ev} {p np : Nat} (hk : e.k = 2) (hp : e.p = (p : Int)) (h : nuL D p = np) : (fun q : Nat => if q = p then (np : Int) + 1 else (nuL D q : Int)) = fun q : Nat => (nuL (D ++ [e]) q : Int) := by
  funext q
  rw [nu_app]
  by_cases hq : q = p
  · subst hq
    have : pubP q e = true := by unfold pubP Ev.pub; simp [hk, hp]
    rw [this, if_pos rfl, if_pos rfl, h]
    rfl
  · have : pubP q e = false := by unfold pubP; rw [hp, decide_eq_false (by omega)]; simp
    rw [this, if_neg hq]
    simp
theorem pub_not {e : Ev} {p : Int} (h2 : e.k ≠ 2) (h5 : e.k ≠ 5) : pubP p e = false := by
  unfold pubP Ev.pub
  rw [decide_eq_false h2, decide_eq_false h5]
  rfl
theorem nu_read {D : List Ev} {e : Ev} (h2 : e.k ≠ 2) (h5 : e.k ≠ 5) : (fun q : Nat => (nuL D q : Int)) = fun q : Nat => (nuL (D ++ [e]) q : Int) := by
  funext q
  rw [nu_app, pub_not h2 h5]
  simp
theorem ho_read {S : List (List (Int × Int))} {D : List Ev} {e : Ev} (h2 : e.k ≠ 2) (h5 : e.k ≠ 5) : (fun q : Nat => hoL (firstH S q) D q) = fun q : Nat => hoL (firstH S q) (D ++ [e]) q := by
  funext q
  rw [ho_app, pub_not h2 h5]
  rfl
theorem ho_write {S : List (List (Int × Int))} {D : List Ev} {e : Ev} {p : Nat} {f : Hold} (hk : e.k = 2) (hp : e.p = (p : Int)) (h : f = (hoL (firstH S p) D p).chg e) : (fun q : Nat => if q = p then f else hoL (firstH S q) D q) = fun q : Nat => hoL (firstH S q) (D ++ [e]) q := by
  funext q
  rw [ho_app]
  by_cases hq : q = p
  · subst hq
    have : pubP q e = true := by unfold pubP Ev.pub; simp [hk, hp]
    rw [this, if_pos rfl, if_pos rfl, h]
  · have : pubP q e = false := by unfold pubP; rw [hp, decide_eq_false (by omega)]; simp
    rw [this, if_neg hq]
    rfl
theorem put_del (f : Hold) (k v : Int) : (f.del k).put k v = f.put k v := by
  funext x
  unfold Hold.put Hold.del
  split <;> simp_all
theorem sm_next {S : List (List (Int × Int))} {D : List Ev} (h : SM S D) (hD : D.length < 1000) {p : Nat} (hp : p < S.length) {ga bg en kk key fv new num : Int} {fb has : Bool} (ht : 1 ≤ bg ∧ bg ≤ 1 + 3 * (D.length : Int) ∧ 1 + 3 * (D.length : Int) ≤ en) (hk : ((kk = 1 ∨ kk = 3) ∧ num = nuL D p) ∨ (kk = 2 ∧ num = nuL D p + 1)) (hfb : (hoL (firstH S p) D p key).isSome = fb) (hfv : (hoL (firstH S p) D p key).getD 0 = fv) (hn : has = true → 0 ≤ new ∧ new < 1000) : SM S (D ++ [⟨ga, bg, en, kk, p, key, num, fb, fv, has, new, [], []⟩]) := by
  refine h.push (by omega) ⟨ht, ?_⟩ ⟨fun _ => hfb.symm, fun _ => hfv.symm⟩ (fun _ => ?_) hn rfl
  · rcases hk with ⟨hk, e⟩ | ⟨hk, e⟩
    · exact .inr (.inl ⟨hk, by simp, by simpa using hp, e⟩)
    · exact .inr (.inr ⟨hk, by simp, by simpa using hp, e⟩)
  · show 0 ≤ fv ∧ fv < 1000
    rw [← hfv]
    cases hv : hoL (firstH S p) D p key with
    | none => decide
    | some v => exact h.hb _ _ _ hv
theorem sm_snap {S : List (List (Int × Int))} {D : List Ev} (h : SM S D) (hD : D.length < 1000) {ga bg en : Int} (ht : 1 ≤ bg ∧ bg ≤ 1 + 3 * (D.length : Int) ∧ 1 + 3 * (D.length : Int) ≤ en) : SM S (D ++ [⟨ga, bg, en, 4, 0, 0, 0, false, 0, false, 0, (List.range S.length).map fun p : Nat => (nuL D p : Int), []⟩]) :=
  h.push (by omega) ⟨ht, .inl ⟨rfl, rfl, rfl⟩⟩ ⟨fun hk => absurd rfl hk, fun hk => absurd rfl hk⟩ (fun hk => absurd rfl hk) (fun hk => by cases hk) rfl
end Go.Proofs.YtbielnehggcaoaaDoor
/- A frame, spelled out. -/
namespace Go.Proofs.YtbielnehggcaoaaDoor
open Go.RowKit
def lit130 (c : Nat → Value) : Array Value := #[c 0, c 1, c 2, c 3, c 4, c 5, c 6, c 7, c 8, c 9, c 10, c 11, c 12, c 13, c 14, c 15, c 16, c 17, c 18, c 19, c 20, c 21, c 22, c 23, c 24, c 25, c 26, c 27, c 28, c 29, c 30, c 31, c 32, c 33, c 34, c 35, c 36, c 37, c 38, c 39, c 40, c 41, c 42, c 43, c 44, c 45, c 46, c 47, c 48, c 49, c 50, c 51, c 52, c 53, c 54, c 55, c 56, c 57, c 58, c 59, c 60, c 61, c 62, c 63, c 64, c 65, c 66, c 67, c 68, c 69, c 70, c 71, c 72, c 73, c 74, c 75, c 76, c 77, c 78, c 79, c 80, c 81, c 82, c 83, c 84, c 85, c 86, c 87, c 88, c 89, c 90, c 91, c 92, c 93, c 94, c 95, c 96, c 97, c 98, c 99, c 100, c 101, c 102, c 103, c 104, c 105, c 106, c 107, c 108, c 109, c 110, c 111, c 112, c 113, c 114, c 115, c 116, c 117, c 118, c 119, c 120, c 121, c 122, c 123, c 124, c 125, c 126, c 127, c 128, c 129]
set_option maxRecDepth 100000 in
theorem lit130_eq (c : Nat → Value) : lit130 c = ((List.range 130).map c).toArray := by rfl
theorem expand130 {a : Act} (hs : a.tmps.size = 130) (hd : a.defers = []) : ∃ c : Nat → Value, a = ⟨lit130 c, []⟩ ∧ ∀ s, c s = a.eval (.tmp s) := by
  refine ⟨fun s => a.tmps.getD s undef, ?_, fun s => rfl⟩
  obtain ⟨t, d⟩ := a
  simp only at hs hd
  subst hd
  congr 1
  rw [lit130_eq]
  refine Array.ext (by simp [hs]) fun i h1 h2 => ?_
  simp [Array.getD, h1]
theorem expand130d {a : Act} {ds : List Deferred} (hs : a.tmps.size = 130) (hd : a.defers = ds) : ∃ c : Nat → Value, a = ⟨lit130 c, ds⟩ ∧ ∀ s, c s = a.eval (.tmp s) := by
  refine ⟨fun s => a.tmps.getD s undef, ?_, fun s => rfl⟩
  obtain ⟨t, d⟩ := a
  simp only at hs hd
  subst hd
  congr 1
  rw [lit130_eq]
  refine Array.ext (by simp [hs]) fun i h1 h2 => ?_
  simp [Array.getD, h1]
end Go.Proofs.YtbielnehggcaoaaDoor
/-
  An event is told: it is appended. (By the verifier; no statement.)
-/
namespace Go.Proofs.YtbielnehggcaoaaDoor
open Go.RowKit
section
variable {tb sb ub nb uc nc m : Nat} {Ms : List Nat} {W1 x : World} {nu : Nat → Int} {ho : Nat → Hold} {lv : Value} {D : List Ev} {eb : Nat}
/-- Behind the append, and the store of the row. -/
theorem ME.push {cs : Array Value} {y z : World} {L : List (Ev × SV × SV)} {e : Ev} {sa sq : SV} {v2 : Value} (h : ME tb sb ub nb uc nc m Ms W1 x nu ho lv D eb cs) (hO : OW 52 13 encX W1.heap.size x lv L) (hL : L.length = D.length) (hi : ∀ i, i < D.length → ∃ sa sb, L[i]? = some (eAt D i, sa, sb) ∧ OW 3 1 (fun q : Int => [Value.int .i64 q]) W1.heap.size x (slV sa) (eAt D i).ns ∧ OW 67 2 encP W1.heap.size x (slV sb) (eAt D i).ps) (hn : OW 3 1 (fun q : Int => [Value.int .i64 q]) W1.heap.size x (slV sa) e.ns) (hp : OW 67 2 encP W1.heap.size x (slV sq) e.ps) (hy : Turned [] x y) (hz : Turned lv.ownBlock.toList y z) (ho2 : OW 52 13 encX W1.heap.size z v2 (L ++ [(e, sa, sq)])) : (sb < z.heap.size ∧ z.cell? ⟨sb, 2, none⟩ = some lv ∧ z.frozen? ⟨sb, 2, none⟩ = false) ∧ MY tb sb ub nb uc nc m Ms W1 (z.setCell ⟨sb, 2, none⟩ v2) nu ho v2 (D ++ [e]) := by
  have hm := h.my
  obtain ⟨l1, l2, l3, l4⟩ := hm.low
  obtain ⟨t, t0, t1, t2⟩ := hm.tn
  obtain ⟨us, c1, c2⟩ := hm.nus
  obtain ⟨ns, d1, d2⟩ := hm.row
  have own : ∀ g, g ∈ lv.ownBlock.toList → W1.heap.size ≤ g ∧ ∃ cs, y.heap[g]? = some (.cells cs 52 (0, 0)) := fun g hg => by
    simp only [Option.mem_toList] at hg
    obtain ⟨cs', e1⟩ := hO.type hg
    exact ⟨(hO.fresh hg).1, cs', hy.heap e1 (by simp)⟩
  have hb : ∀ {g : Nat} {o : Obj}, x.heap[g]? = some o → g < W1.heap.size → z.heap[g]? = some o := fun hx hg => hz.heap (hy.heap hx (by simp)) fun hm2 => by have := (own _ hm2).1; omega
  have st := hb hm.st l2
  have hs : Turned [sb] z (z.setCell ⟨sb, 2, none⟩ v2) := (Turned.refl [sb] z).set (.inl (by simp)) _ _
  have keepE : ∀ {T : TypeId} {k : Nat} {α : Type} {enc : α → List Value} {v : Value} {R : List α}, OW T k enc W1.heap.size x v R → T ≠ 52 → OW T k enc W1.heap.size (z.setCell ⟨sb, 2, none⟩ v2) v R := fun h1 hT => by
    refine ((h1.still hy).keep hz fun g hg hm2 => ?_).keep hs fun g hg hm2 => ?_
    · obtain ⟨cs1, e1⟩ := (h1.still hy).type hg
      obtain ⟨-, cs2, e2⟩ := own g hm2
      rw [e1] at e2
      simp only [Option.some.injEq, Obj.cells.injEq] at e2
      exact hT e2.2.1
    · have := (h1.fresh hg).1
      rw [List.mem_singleton.1 hm2] at this
      omega
  refine ⟨⟨lt_of_heap st, by rw [cell_at st]; rfl, froz_at st 2⟩, ⟨?_, hm.low, ⟨t, t0, t1, hs.heap (hb t2 l1) (by simpa using tyne t2 hm.st (by decide))⟩, ?_, ⟨us, hs.heap (hb c1 l3) (by simpa using tyne c1 hm.st (by decide)), c2⟩, ⟨ns, hs.heap (hb d1 l4) (by simpa using tyne d1 hm.st (by decide)), d2⟩, fun p hp2 => ?_, hm.inj, ?_⟩⟩
  · refine ((hm.tu.inner hy (fun g hg => by cases hg)).inner hz fun g hg => .inr (own g hg).1).inner hs fun g hg => .inl ?_
    rw [List.mem_singleton.1 hg]
    simp
  · have := blk_set st 2 v2
    simpa using this
  · refine (((hm.maps p hp2).keep hy (by simp)).keep hz fun hm2 => ?_).keep hs ?_
    · obtain ⟨-, cs2, e2⟩ := own _ hm2
      exact tyneM e2 ((hm.maps p hp2).keep hy (by simp)) rfl
    · have := tyneM hm.st (hm.maps p hp2)
      simpa using this.symm
  · have hlen : (L ++ [(e, sa, sq)]).length = (D ++ [e]).length := by rw [List.length_append, List.length_append, hL]; rfl
    refine ⟨_, ho2.keep hs fun g hg hm2 => by have := (ho2.fresh hg).1; rw [List.mem_singleton.1 hm2] at this; omega, hlen, fun i hi2 => ?_⟩
    by_cases hlt : i < D.length
    · obtain ⟨sa1, sb1, e1, e2, e3⟩ := hi i hlt
      rw [eAt_app hlt]
      exact ⟨sa1, sb1, by rw [List.getElem?_append_left (by rw [hL]; exact hlt)]; exact e1, keepE e2 (by decide), keepE e3 (by decide)⟩
    · obtain rfl : i = D.length := by rw [List.length_append] at hi2; simp only [List.length_cons, List.length_nil] at hi2; omega
      rw [eAt_last]
      exact ⟨sa, sq, by rw [List.getElem?_append_right (by rw [hL]; exact Nat.le_refl _), hL, Nat.sub_self]; rfl, keepE hn (by decide), keepE hp (by decide)⟩
set_option maxRecDepth 100000 in
set_option maxHeartbeats 12800000 in
theorem tl_r14 {e : Ev} {sa sq : SV} {Q : Exit → Act → World → Prop} {a0 : Act} (hs : a0.tmps.size = 130) (hd : a0.defers = []) (x0 : a0.eval (.tmp 0) = .pointer (some ⟨sb, 0, none⟩)) (x10 : a0.eval (.tmp 10) = .pointer (some ⟨eb, 0, none⟩)) (hE : ME tb sb ub nb uc nc m Ms W1 x nu ho lv D eb (evA e (slV sa) (slV sq))) (hn : OW 3 1 (fun q : Int => [Value.int .i64 q]) W1.heap.size x (slV sa) e.ns) (hp : OW 67 2 encP W1.heap.size x (slV sq) e.ps) (hD : D.length ≤ 1000000) (hEnd : ∀ a' x' lv', a'.defers = [] → MY tb sb ub nb uc nc m Ms W1 x' nu ho lv' (D ++ [e]) → Q .normal a' x') : (atc Tryd.f27.body [1, 1, 1, 1]).wp Tryd.prog Q a0 x := by
  obtain ⟨cc, rfl, hc⟩ := expand130 hs hd
  rw [← hc] at x0 x10
  obtain ⟨L, hO, hL, hi⟩ := hE.my.l.ex
  obtain ⟨va, vc, rfl⟩ := hO.slice
  obtain ⟨na, nl, nc2⟩ := sa
  obtain ⟨qa, ql, qc⟩ := sq
  obtain ⟨wk, b, en, k, p, key, num, had, val, has, new, ns, ps⟩ := e
  unfold evA slV at hE
  obtain ⟨z1, z2, z3, z4, z5⟩ := hE.my.cells
  obtain ⟨el, e0, e1, e2, e3, e4, e5, e6, e7, e8, e9, e10, e11, e12, -, -, -, -, -, -, -, -, -, -, -, -, -⟩ := hE.zcells
  have HOx : Hid (OW 52 13 encX W1.heap.size x (.slice va L.length vc) L) := hO
  have HPu : Hid _ := fun y z v2 h1 h2 h3 => hE.push (e := ⟨wk, b, en, k, p, key, num, had, val, has, new, ns, ps⟩) (sa := (na, nl, nc2)) (sq := (qa, ql, qc)) (v2 := v2) (y := y) (z := z) hO hL hi hn hp h1 h2 h3
  have HOne : Hid (∀ (i : Nat) (u : Value), ([((⟨wk, b, en, k, p, key, num, had, val, has, new, ns, ps⟩ : Ev), ((na, nl, nc2) : SV), ((qa, ql, qc) : SV))].flatMap encX)[i]? = some u → (#[Value.int .i64 wk, .int .i64 b, .int .i64 en, .int .i64 k, .int .i64 p, .int .i64 key, .int .i64 num, .bool had, .int .i64 val, .bool has, .int .i64 new, .slice na nl nc2, .slice qa ql qc] : Array Value)[i]? = some u) := fun i u hu => by simpa [encX, evA, slV] using hu
  have hby : (L.length + [((⟨wk, b, en, k, p, key, num, had, val, has, new, ns, ps⟩ : Ev), ((na, nl, nc2) : SV), ((qa, ql, qc) : SV))].length) * 136 ≤ 140737488355328 := by
    rw [hL]
    simp only [List.length_cons, List.length_nil]
    omega
  have hB0 : W1.heap.size ≤ x.heap.size := hE.my.tu.size
  have HK : Hid _ := hEnd
  clear hE hO hi hn hp hEnd hL
  unfold lit130
  simp only [x0, x10]
  conv => arg 2; whnf
  refine wp_mono (Q := Exit.then (Q .normal) (fun _ _ _ => False)) ?_ (fun e a' w' hh => by cases e <;> first | exact hh | exact hh.elim)
  go_region_law (first | (refine step_apO elX enX (B := W1.heap.size) (v := .slice va L.length vc) (u := .slice (some ⟨x.heap.size, 0, none⟩) 1 1) (R := L) (M := [((⟨wk, b, en, k, p, key, num, had, val, has, new, ns, ps⟩ : Ev), ((na, nl, nc2) : SV), ((qa, ql, qc) : SV))]) rfl _ _ rfl ?_ (HOx.out.still ?_) ?_ (VW.block (R := [((⟨wk, b, en, k, p, key, num, had, val, has, new, ns, ps⟩ : Ev), ((na, nl, nc2) : SV), ((qa, ql, qc) : SV))]) (c := 1) (blk_new _ _) HOne.out) hby ?_ ?_; (focus (simp [Act.eval]; done)); (focus (repeat first | exact Turned.refl _ _ | refine Turned.drew ?_ | refine Turned.alloc ?_ _)); (focus (simp [Act.eval]; done)); (focus (refine Nat.le_trans hB0 ?_; simp)); intro v2 w2 ho2 ht _; obtain ⟨g2, c2, rfl⟩ := ho2.somes; obtain ⟨⟨m1, m2, m3⟩, m4⟩ := HPu.out _ w2 _ (by (repeat first | exact Turned.refl _ _ | refine Turned.drew ?_ | refine Turned.alloc ?_ _)) ht ho2; have HM2 : Hid _ := m4; clear m4 ho2 ht))
  all_goals exact HK.out _ _ _ rfl HM2.out
end
end Go.Proofs.YtbielnehggcaoaaDoor
