/-
  A map whose keys are three numbers: look-up, store. (By the verifier; no statement.)
-/
import Derived.Test.YtbielnehggcaoaaDoorL09
import Derived.Maps.Own
import Derived.ChangeKeysEq
import Derived.Laws.StructEq
import Derived.Test.YtbielnehggcaoaaDoorL04
namespace Go.Proofs.YtbielnehggcaoaaDoor
open Go.RowKit
/-- A state of a cell as a key. -/
def keyV (ce m : Nat) (v : Int) : Value := .agg #[.int .i64 (ce : Int), .int .i64 (sI m), .int .i64 v]
theorem x_lookup {ρ : Operand → Value} {o : Oper} {w : World} {t : TypeId} {x y : Operand} {b : Bool} {v : Value} (h : o.op = .lookup t x y b) (hr : (Instr.lookup t (ρ x) (ρ y) b).run Tryd.prog w = .ok v w) : (execOp ρ o).run Tryd.prog w = .ok (.value v) w := by
  simp [execOp, h, hr, Result.andThen]
theorem sI_inj {m m' : Nat} (hm : m < 18446744073709551616) (hm' : m' < 18446744073709551616) (h : sI m = sI m') : m = m' := by
  have h1 := sI_back hm
  have h2 := sI_back hm'
  rw [h] at h1
  omega
theorem part_int {a : Int} {xs : Array Value} {k : Nat} (h : xs[k]? = some (.int .i64 a)) (w : World) : (part 3 xs k).run Tryd.prog w = .ok (.int .i64 a) w := by
  unfold part
  go_simp
theorem eq_key (a b c a' b' c' : Int) (w : World) : (Op.equal 109 (.agg #[.int .i64 a, .int .i64 b, .int .i64 c]) (.agg #[.int .i64 a', .int .i64 b', .int .i64 c'])).run Tryd.prog w = .ok (a == a' && (b == b' && c == c')) w := by
  obtain ⟨ii, hii⟩ := info_of_underlying (P := Tryd.prog) Tryd.underlying3
  show (Op.equalIn (9999 + 1) _ _ _).run _ _ = _
  rw [run_equalIn_array w 9999 _ _ Tryd.underlying109 hii, show Tryd.prog.cellsOf 3 = 1 by kernel_rfl]
  have h1 := fun (x y : Int) => run_equalIn_int (P := Tryd.prog) (w := w) 9998 3 .i64 .i64 x y Tryd.underlying3
  have p := fun (xs : Array Value) (k : Nat) (x : Int) (h : xs[k]? = some (.int .i64 x)) => part_int h w
  have q0 := p #[.int .i64 a, .int .i64 b, .int .i64 c] 0 a rfl
  have q1 := p #[.int .i64 a, .int .i64 b, .int .i64 c] 1 b rfl
  have q2 := p #[.int .i64 a, .int .i64 b, .int .i64 c] 2 c rfl
  have r0 := p #[.int .i64 a', .int .i64 b', .int .i64 c'] 0 a' rfl
  have r1 := p #[.int .i64 a', .int .i64 b', .int .i64 c'] 1 b' rfl
  have r2 := p #[.int .i64 a', .int .i64 b', .int .i64 c'] 2 c' rfl
  simp only [List.range, List.range.loop, Op.eqItems, Sem.run_bind, Nat.mul_one, q0, r0, Result.andThen_ok, h1]
  cases (a == a')
  · simp
  · simp only [Bool.not_true, Bool.false_eq_true, if_false, Sem.run_bind, q1, r1, Result.andThen_ok, h1]
    cases (b == b')
    · simp
    · simp only [Bool.not_true, Bool.false_eq_true, if_false, Sem.run_bind, q2, r2, Result.andThen_ok, h1]
      cases (c == c') <;> simp
/-- An entry: a cell, a set of places, what the cell holds; and what is kept. -/
structure KE where
  c : Nat
  m : Nat
  v : Int
  r : Int
/-- What a map with such keys holds. -/
structure KM (w : World) (tb : Nat) (Ks : List KE) : Prop where
  ex : ∃ es clock, w.heap[tb]? = some (.map es clock) ∧ es.toList.map (fun e => (e.key, e.val)) = Ks.map (fun k => (keyV k.c k.m k.v, Value.int .i64 k.r))
  lt : ∀ k ∈ Ks, k.m < 18446744073709551616
theorem KM.keep {w w' : World} {tb : Nat} {Ks : List KE} (h : KM w tb Ks) {l : List Nat} (ht : Turned l w w') (hb : tb ∉ l) : KM w' tb Ks := by
  obtain ⟨es, c, h1, h2⟩ := h.ex
  exact ⟨⟨es, c, ht.heap h1 hb, h2⟩, h.lt⟩
theorem KM.here {w : World} {tb : Nat} {Ks : List KE} (h : KM w tb Ks) : tb < w.heap.size := by
  obtain ⟨es, c, h1, h2⟩ := h.ex
  exact lt_of_heap h1
def KE.is (k : KE) (ce m : Nat) (v : Int) : Prop := k.c = ce ∧ k.m = m ∧ k.v = v
theorem find_key (ce m : Nat) (v : Int) (hm : m < 18446744073709551616) (w : World) : ∀ (l : List MapEntry) (Ks : List KE) (i : Nat), l.map (fun e => (e.key, e.val)) = Ks.map (fun k => (keyV k.c k.m k.v, Value.int .i64 k.r)) → (∀ k ∈ Ks, k.m < 18446744073709551616) →
    (∃ j k, k ∈ Ks ∧ k.is ce m v ∧ (Instr.findAsking 109 (keyV ce m v) l i).run Tryd.prog w = .ok (some (j, .int .i64 k.r)) w) ∨ ((∀ k ∈ Ks, ¬ k.is ce m v) ∧ (Instr.findAsking 109 (keyV ce m v) l i).run Tryd.prog w = .ok none w)
  | [], [], i, _, _ => .inr ⟨fun k hk => absurd hk (by simp), by simp [Instr.findAsking]⟩
  | [], _ :: _, _, h, _ => by simp at h
  | _ :: _, [], _, h, _ => by simp at h
  | e :: l, k0 :: Ks, i, h, hlt => by
    simp only [List.map_cons, List.cons.injEq, Prod.mk.injEq] at h
    obtain ⟨⟨hk, hv⟩, h3⟩ := h
    have hm2 := hlt k0 (List.mem_cons_self ..)
    have q := eq_key ce (sI m) v k0.c (sI k0.m) k0.v w
    have e1 : (Op.equal 109 (keyV ce m v) e.key).run Tryd.prog w = .ok ((ce : Int) == k0.c && (sI m == sI k0.m && v == k0.v)) w := by rw [hk]; exact q
    unfold Instr.findAsking
    cases hq : ((ce : Int) == k0.c && (sI m == sI k0.m && v == k0.v)) with
    | true =>
      rw [hq] at e1
      simp only [Bool.and_eq_true, beq_iff_eq] at hq
      obtain ⟨g1, g2, g3⟩ := hq
      refine .inl ⟨i, k0, List.mem_cons_self .., ⟨by omega, (sI_inj hm hm2 g2).symm, g3.symm⟩, ?_⟩
      simp [e1, hv]
    | false =>
      rw [hq] at e1
      have hn : ¬ k0.is ce m v := fun hi => by
        obtain ⟨i1, i2, i3⟩ := hi
        rw [i1, i2, i3] at hq
        simp at hq
      rcases find_key ce m v hm w l Ks (i + 1) h3 (fun k hk => hlt k (List.mem_cons_of_mem _ hk)) with ⟨j, k, h1, h2, hf⟩ | ⟨h1, hf⟩
      · refine .inl ⟨j, k, List.mem_cons_of_mem _ h1, h2, ?_⟩
        simp [e1, hf]
      · refine .inr ⟨fun k hk => ?_, ?_⟩
        · rcases List.mem_cons.1 hk with rfl | hk
          · exact hn
          · exact h1 k hk
        · simp [e1, hf]
theorem findKey_eq (ce m : Nat) (v : Int) (w : World) (l : List MapEntry) : (Instr.findKey 109 (keyV ce m v) l).run Tryd.prog w = (Instr.findAsking 109 (keyV ce m v) l 0).run Tryd.prog w := by
  unfold Instr.findKey
  cases l with
  | nil => simp [run_underlying Tryd.underlying109, Instr.findNow, Instr.findAsking]
  | cons e l => simp [run_underlying Tryd.underlying109, Instr.findNow, Instr.sameNow, keyV]
theorem check_int (e : Bool) (x : Int) (w : World) (n : Nat) : (Instr.checkKey e (n + 1) 3 (.int .i64 x)).run Tryd.prog w = .ok () w := by
  unfold Instr.checkKey
  simp [run_underlying Tryd.underlying3]
theorem check_key (e : Bool) (ce m : Nat) (v : Int) (w : World) : (Instr.checkKey e 10000 109 (keyV ce m v)).run Tryd.prog w = .ok () w := by
  obtain ⟨ii, hii⟩ := info_of_underlying (P := Tryd.prog) Tryd.underlying3
  have p := fun (k : Nat) (x : Int) (h : (#[Value.int .i64 (ce : Int), .int .i64 (sI m), .int .i64 v] : Array Value)[k]? = some (.int .i64 x)) => part_int h w
  have q0 := p 0 ce rfl
  have q1 := p 1 (sI m) rfl
  have q2 := p 2 v rfl
  show (Instr.checkKey e (9998 + 1 + 1) _ _).run _ _ = _
  unfold Instr.checkKey keyV
  simp only [Sem.run_bind, run_underlying Tryd.underlying109, Result.andThen_ok]
  simp only [Std.Legacy.Range.forIn_eq_forIn_range', Std.Legacy.Range.size, Nat.sub_zero, Nat.add_one_sub_one, Nat.div_one]
  simp [List.range', run_sizeOf w hii, show Tryd.prog.cellsOf 3 = 1 by kernel_rfl, q0, q1, q2, check_int, Result.andThen]
theorem look_key {w : World} {tb : Nat} {Ks : List KE} (h : KM w tb Ks) (ce m : Nat) (v : Int) (hm : m < 18446744073709551616) :
    (∃ k, k ∈ Ks ∧ k.is ce m v ∧ (Instr.lookup 100 (.map (some tb)) (keyV ce m v) true).run Tryd.prog w = .ok (.tuple #[.int .i64 k.r, .bool true]) w) ∨ ((∀ k ∈ Ks, ¬ k.is ce m v) ∧ (Instr.lookup 100 (.map (some tb)) (keyV ce m v) true).run Tryd.prog w = .ok (.tuple #[.int .i64 0, .bool false]) w) := by
  obtain ⟨es, c, h1, h2⟩ := h.ex
  have hz : (zeroValue 3).run Tryd.prog w = .ok (.int .i64 0) w := by go_simp
  rcases find_key ce m v hm w es.toList Ks 0 h2 h.lt with ⟨j, k, g1, g2, hf⟩ | ⟨g1, hf⟩
  · refine .inl ⟨k, g1, g2, ?_⟩
    unfold Instr.lookup
    simp [run_underlying Tryd.underlying100, MapKept.run_getObj_map h1, check_key, findKey_eq, hf, Result.andThen]
  · refine .inr ⟨g1, ?_⟩
    unfold Instr.lookup
    simp [run_underlying Tryd.underlying100, MapKept.run_getObj_map h1, check_key, findKey_eq, hf, hz, Result.andThen]
theorem put_key {w : World} {tb : Nat} {Ks : List KE} (h : KM w tb Ks) (ce m : Nat) (v r : Int) (hm : m < 18446744073709551616) (hn : ∀ k ∈ Ks, ¬ k.is ce m v) :
    ∃ w', (Instr.mapUpdate 100 (.map (some tb)) (keyV ce m v) (.int .i64 r)).run Tryd.prog w = .ok () w' ∧ Turned [tb] w w' ∧ KM w' tb (Ks ++ [⟨ce, m, v, r⟩]) := by
  obtain ⟨es, c, h1, h2⟩ := h.ex
  have ht : Turned [tb] w (ChangeMaps.setBlock w tb (.map (es.push ⟨keyV ce m v, .int .i64 r, c⟩) (c + 1))) := by
    refine ⟨rfl, rfl, rfl, by simp [ChangeMaps.setBlock], fun k hk hn => ?_⟩
    have : k ≠ tb := by simpa using hn
    simp [ChangeMaps.setBlock, Ne.symm this]
  have hb : (ChangeMaps.setBlock w tb (.map (es.push ⟨keyV ce m v, .int .i64 r, c⟩) (c + 1))).heap[tb]? = some (.map (es.push ⟨keyV ce m v, .int .i64 r, c⟩) (c + 1)) := by simp [ChangeMaps.setBlock, h.here]
  refine ⟨_, ?_, ht, ⟨⟨_, _, hb, by simp [h2]⟩, ?_⟩⟩
  · rcases find_key ce m v hm w es.toList Ks 0 h2 h.lt with ⟨j, k, g1, g2, _⟩ | ⟨_, hf⟩
    · exact absurd g2 (hn k g1)
    · unfold Instr.mapUpdate
      simp [run_underlying Tryd.underlying100, MapKept.run_getObj_map h1, check_key, findKey_eq, hf, MapKept.run_setObj_map _ h1, Result.andThen, ChangeMaps.setBlock]
  · intro k hk
    rcases List.mem_append.1 hk with hk | hk
    · exact h.lt k hk
    · rw [List.mem_singleton.1 hk]; exact hm
end Go.Proofs.YtbielnehggcaoaaDoor
/-
  Histories of a map: which events are right, which versions are told, what is blamed. (By the verifier; no statement, no memory.)
-/
namespace Go.Proofs.YtbielnehggcaoaaDoor
open Go.RowKit
/-- An event, as a history tells it. -/
structure Ev where
  wk : Int
  b : Int
  e : Int
  k : Int
  p : Int
  key : Int
  num : Int
  had : Bool
  val : Int
  has : Bool
  new : Int
  ns : List Int
  ps : List (Int × Int)
def Ev.zero : Ev := ⟨0, 0, 0, 0, 0, 0, 0, false, 0, false, 0, [], []⟩
def Ev.snap (e : Ev) : Bool := decide (e.k = 4)
def Ev.pub (e : Ev) : Bool := decide (e.k = 2) || decide (e.k = 5)
def Ev.inPart (m : Int) (e : Ev) : Bool := if e.k = 4 then decide (e.p = 0) else decide (0 ≤ e.p) && decide (e.p < m)
def numsB (m : Int) (l : List Int) : Bool := decide ((l.length : Int) = m) && l.all fun n => decide (1 ≤ n)
def Ev.good (m : Int) (e : Ev) : Bool := decide (1 ≤ e.k) && decide (e.k ≤ 5) && timeB e.b e.e && e.inPart m &&
  (if e.e = 0 then true else if e.k = 4 then numsB m e.ns else if e.pub then decide (2 ≤ e.num) else decide (1 ≤ e.num))
/-- The version of which Had and Value are told; 0: of none. -/
def Ev.told (e : Ev) : Int := if e.k = 1 ∨ e.k = 3 then e.num else if e.k = 2 then wrap64 (e.num - 1) else 0
/-- What a version holds. -/
abbrev Hold := Int → Option Int
def Hold.put (f : Hold) (k v : Int) : Hold := fun x => if x = k then some v else f x
def Hold.del (f : Hold) (k : Int) : Hold := fun x => if x = k then none else f x
def Hold.lay (f : Hold) : List (Int × Int) → Hold
  | [] => f
  | (k, v) :: l => (f.put k v).lay l
def Hold.chg (f : Hold) (e : Ev) : Hold := if e.k = 5 then f.lay e.ps else if e.has then f.put e.key e.new else f.del e.key
def Hold.none : Hold := fun _ => Option.none
theorem Hold.lay_append (f : Hold) (l : List (Int × Int)) (q : Int × Int) : f.lay (l ++ [q]) = (f.lay l).put q.1 q.2 := by
  induction l generalizing f with
  | nil => rfl
  | cons x l ih => exact ih _
/-- A blame: At, With, Why. -/
abbrev Bm := Int × Int × Int
def eAt (D : List Ev) (i : Nat) : Ev := D.getD i Ev.zero
theorem eAt_of {D : List Ev} {i : Nat} {e : Ev} (h : D[i]? = some e) : eAt D i = e := by simp [eAt, h]
/-- The places of right events that have ended. -/
def endB (m : Int) (e : Ev) : Bool := e.good m && !decide (e.e = 0)
def endL (m : Int) (D : List Ev) (n : Nat) : List Nat := (List.range n).filter fun i => endB m (eAt D i)
def wrongL (m : Int) (D : List Ev) (n : Nat) : List Bm := ((List.range n).filter fun i => !(eAt D i).good m).map fun i : Nat => ((i : Int), -1, 1)
def busyB (m : Int) (D : List Ev) (n : Nat) (p : Int) : Bool := (List.range n).any fun i => (eAt D i).good m && decide ((eAt D i).e = 0) && (eAt D i).pub && decide ((eAt D i).p = p)
/-- Who published a version. -/
def pubL (m : Int) (D : List Ev) (n : Nat) (p u : Int) : List Nat := (endL m D n).filter fun i => (eAt D i).pub && decide ((eAt D i).p = p) && decide ((eAt D i).num = u)
def timesN (m : Int) (D : List Ev) (n : Nat) (p u : Int) : Nat := (pubL m D n p u).length
def placeN (m : Int) (D : List Ev) (n : Nat) (p u : Int) : Nat := ((pubL m D n p u).getLast?).getD 0
def otherB (f : Hold) (e : Ev) : Bool := !decide ((f e.key).isSome = e.had) || !decide ((f e.key).getD 0 = e.val)
def heldB (D : List Ev) (p u : Int) (f : Hold) (i : Nat) : Bool := decide ((eAt D i).p = p) && decide ((eAt D i).told = u) && otherB f (eAt D i)
def heldL (D : List Ev) (E : List Nat) (p u : Int) (f : Hold) : List Bm := (E.filter (heldB D p u f)).map fun i : Nat => ((i : Int), -1, 4)
/-- The versions of a part, from u on: blames, and the last one's number. -/
def tellL (m : Int) (D : List Ev) (p : Int) : Nat → Nat → Hold → List Bm × Nat
  | 0, u, f => (heldL D (endL m D D.length) p u f, u)
  | g + 1, u, f => if timesN m D D.length p (u + 1) = 1 then (heldL D (endL m D D.length) p u f ++ (tellL m D p g (u + 1) (f.chg (eAt D (placeN m D D.length p (u + 1))))).1, (tellL m D p g (u + 1) (f.chg (eAt D (placeN m D D.length p (u + 1))))).2) else (heldL D (endL m D D.length) p u f, u)
/-- What a part's versions come to. -/
def partT (S : List (List (Int × Int))) (D : List Ev) (p : Nat) : List Bm × Nat := tellL S.length D p D.length 1 (Hold.none.lay (S.getD p []))
def untoldB (m : Int) (D : List Ev) (last : Int → Int) (i : Nat) : Bool := !(eAt D i).snap && decide (last (eAt D i).p < (eAt D i).num) && !busyB m D D.length (eAt D i).p
def twiceB (x y : Ev) : Bool := x.pub && y.pub && decide (x.p = y.p) && decide (x.num = y.num)
def backB (x y : Ev) : Bool := !x.snap && !y.snap && decide (x.p = y.p) && (decide (x.num < y.num) || (decide (x.num = y.num) && x.pub))
def wlateB (x y : Ev) : Bool := y.snap && x.pub && decide (x.num ≤ y.ns.getD x.p.toNat 0)
def slateB (x y : Ev) : Bool := x.snap && !y.snap && decide (x.ns.getD y.p.toNat 0 < y.num)
def belowB (x y : List Int) : Bool := (List.range x.length).any fun i => decide (x.getD i 0 < y.getD i 0)
def apartB (x y : Ev) : Bool := x.snap && y.snap && ((belowB x.ns y.ns && belowB y.ns x.ns) || (belowB x.ns y.ns && wasA y.e x.b) || (belowB y.ns x.ns && wasA x.e y.b))
def cmpL (D : List Ev) (i j : Nat) : List Bm :=
  (if decide (j < i) && twiceB (eAt D i) (eAt D j) then [((i : Int), (j : Int), 2)] else []) ++
  ((if wasA (eAt D j).e (eAt D i).b && backB (eAt D i) (eAt D j) then [((i : Int), (j : Int), 5)] else []) ++
  ((if wasA (eAt D j).e (eAt D i).b && (wlateB (eAt D i) (eAt D j) || slateB (eAt D i) (eAt D j)) then [((i : Int), (j : Int), 6)] else []) ++
  (if decide (j < i) && apartB (eAt D i) (eAt D j) then [((i : Int), (j : Int), 7)] else [])))
def eachL (m : Int) (D : List Ev) (last : Int → Int) (i : Nat) : List Bm := (if untoldB m D last i then [((i : Int), -1, 3)] else []) ++ (endL m D D.length).flatMap (cmpL D i)
def lastF (S : List (List (Int × Int))) (D : List Ev) : Int → Int := fun p => ((partT S D p.toNat).2 : Nat)
/-- All blames, in the order in which they are found. -/
def allBm (S : List (List (Int × Int))) (D : List Ev) : List Bm := wrongL S.length D D.length ++ ((List.range S.length).flatMap (fun p => (partT S D p).1) ++ (endL S.length D D.length).flatMap (eachL S.length D (lastF S D)))
theorem endL_succ (m : Int) (D : List Ev) (n : Nat) : endL m D (n + 1) = endL m D n ++ (if endB m (eAt D n) then [n] else []) := by
  unfold endL
  rw [List.range_succ, List.filter_append]
  congr 1
  cases h : endB m (eAt D n) <;> simp [h]
theorem wrongL_succ (m : Int) (D : List Ev) (n : Nat) : wrongL m D (n + 1) = wrongL m D n ++ (if (eAt D n).good m then [] else [((n : Int), -1, 1)]) := by
  unfold wrongL
  rw [List.range_succ, List.filter_append, List.map_append]
  congr 1
  cases h : (eAt D n).good m <;> simp [h]
theorem busyB_succ (m : Int) (D : List Ev) (n : Nat) (p : Int) : busyB m D (n + 1) p = (busyB m D n p || ((eAt D n).good m && decide ((eAt D n).e = 0) && (eAt D n).pub && decide ((eAt D n).p = p))) := by
  unfold busyB
  rw [List.range_succ, List.any_append]
  simp
theorem pubL_succ (m : Int) (D : List Ev) (n : Nat) (p u : Int) : pubL m D (n + 1) p u = pubL m D n p u ++ (if endB m (eAt D n) && ((eAt D n).pub && decide ((eAt D n).p = p) && decide ((eAt D n).num = u)) then [n] else []) := by
  unfold pubL
  rw [endL_succ, List.filter_append]
  congr 1
  cases h : endB m (eAt D n)
  · simp
  · simp only [if_true, List.filter_cons, List.filter_nil, Bool.true_and]
theorem times_succ (m : Int) (D : List Ev) (n : Nat) (p u : Int) : timesN m D (n + 1) p u = timesN m D n p u + (if endB m (eAt D n) && ((eAt D n).pub && decide ((eAt D n).p = p) && decide ((eAt D n).num = u)) then 1 else 0) := by
  unfold timesN
  rw [pubL_succ, List.length_append]
  congr 1
  split <;> rfl
theorem place_succ (m : Int) (D : List Ev) (n : Nat) (p u : Int) : placeN m D (n + 1) p u = if endB m (eAt D n) && ((eAt D n).pub && decide ((eAt D n).p = p) && decide ((eAt D n).num = u)) then n else placeN m D n p u := by
  unfold placeN
  rw [pubL_succ]
  split <;> simp
theorem mem_endL {m : Int} {D : List Ev} {n i : Nat} : i ∈ endL m D n ↔ i < n ∧ endB m (eAt D i) = true := by
  unfold endL
  rw [List.mem_filter, List.mem_range]
theorem mem_pubL {m : Int} {D : List Ev} {n i : Nat} {p u : Int} : i ∈ pubL m D n p u ↔ i ∈ endL m D n ∧ (eAt D i).pub = true ∧ (eAt D i).p = p ∧ (eAt D i).num = u := by
  unfold pubL
  rw [List.mem_filter]
  simp [and_assoc]
theorem times_le (m : Int) (D : List Ev) (n : Nat) (p u : Int) : timesN m D n p u ≤ n := by
  unfold timesN pubL endL
  exact Nat.le_trans (List.length_filter_le _ _) (Nat.le_trans (List.length_filter_le _ _) (by rw [List.length_range]; exact Nat.le_refl n))
theorem place_mem {m : Int} {D : List Ev} {n : Nat} {p u : Int} (h : timesN m D n p u ≠ 0) : placeN m D n p u ∈ pubL m D n p u := by
  unfold timesN at h
  unfold placeN
  cases hl : (pubL m D n p u).getLast? with
  | none => rw [List.getLast?_eq_none_iff] at hl; rw [hl] at h; exact absurd rfl h
  | some x => exact List.mem_of_getLast? hl
theorem place_lt {m : Int} {D : List Ev} {n : Nat} {p u : Int} (h : timesN m D n p u ≠ 0) : placeN m D n p u < n := (mem_endL.1 (mem_pubL.1 (place_mem h)).1).1
/-- As many versions as are told, so many events there are. -/
theorem chain_le {m : Int} {D : List Ev} {n : Nat} {p : Int} : ∀ k : Nat, (∀ j : Nat, 1 ≤ j → j ≤ k → timesN m D n p (j + 1) = 1) → k ≤ ((endL m D n).filter fun i => (eAt D i).pub && decide ((eAt D i).p = p) && decide ((eAt D i).num ≤ k + 1)).length
  | 0, _ => Nat.zero_le _
  | k + 1, h => by
    have ih := chain_le k fun j h1 h2 => h j h1 (by omega)
    have h1 : 1 ≤ timesN m D n p ((k + 1 : Nat) + 1) := by rw [h (k + 1) (by omega) (by omega)]; exact Nat.le_refl 1
    have key : ∀ l : List Nat, (l.filter fun i => (eAt D i).pub && decide ((eAt D i).p = p) && decide ((eAt D i).num ≤ k + 1)).length + (l.filter fun i => (eAt D i).pub && decide ((eAt D i).p = p) && decide ((eAt D i).num = (k + 1 : Nat) + 1)).length ≤ (l.filter fun i => (eAt D i).pub && decide ((eAt D i).p = p) && decide ((eAt D i).num ≤ (k + 1 : Nat) + 1)).length := by
      intro l
      induction l with
      | nil => exact Nat.le_refl 0
      | cons x l ihl =>
        simp only [List.filter_cons]
        by_cases hp : ((eAt D x).pub && decide ((eAt D x).p = p)) = true
        · rw [hp]
          simp only [Bool.true_and, decide_eq_true_eq]
          rcases (by omega : (eAt D x).num ≤ k + 1 ∨ (eAt D x).num = (k + 1 : Nat) + 1 ∨ (k + 1 : Nat) + 1 < (eAt D x).num) with g | g | g
          · rw [if_pos g, if_neg (by omega), if_pos (by omega)]
            simp only [List.length_cons]
            omega
          · rw [if_neg (by omega), if_pos g, if_pos (by omega)]
            simp only [List.length_cons]
            omega
          · rw [if_neg (by omega), if_neg (by omega), if_neg (by omega)]
            exact ihl
        · have hp2 : ((eAt D x).pub && decide ((eAt D x).p = p)) = false := by simpa using hp
          rw [hp2]
          simpa using ihl
    have := key (endL m D n)
    unfold timesN pubL at h1
    omega
theorem chain_bound {m : Int} {D : List Ev} {n : Nat} {p : Int} {k : Nat} (h : ∀ j : Nat, 1 ≤ j → j ≤ k → timesN m D n p (j + 1) = 1) : k ≤ n := by
  have h1 := chain_le k h
  have h2 := List.length_filter_le (fun i => (eAt D i).pub && decide ((eAt D i).p = p) && decide ((eAt D i).num ≤ k + 1)) (endL m D n)
  have h3 : (endL m D n).length ≤ n := by
    unfold endL
    exact Nat.le_trans (List.length_filter_le _ _) (by rw [List.length_range]; exact Nat.le_refl n)
  omega
end Go.Proofs.YtbielnehggcaoaaDoor
/-
  Maps that a call made, as functions of their keys: look-up, store, delete; at numbers and at pairs of numbers. (By the verifier; no statement.)
-/
namespace Go.Proofs.YtbielnehggcaoaaDoor
open Go.RowKit
section
variable {κ ν : Type} [DecidableEq κ]
def asc : List (κ × ν) → κ → Option ν
  | [], _ => none
  | q :: l, x => if x = q.1 then some q.2 else asc l x
def ascI : List (κ × ν) → κ → Nat → Option (Nat × ν)
  | [], _, _ => none
  | q :: l, x, i => if x = q.1 then some (i, q.2) else ascI l x (i + 1)
theorem ascI_asc : ∀ (l : List (κ × ν)) (x : κ) (i : Nat), (ascI l x i).map (·.2) = asc l x
  | [], _, _ => rfl
  | q :: l, x, i => by
    unfold ascI asc
    split
    · rfl
    · exact ascI_asc l x (i + 1)
theorem ascI_some : ∀ (l : List (κ × ν)) (x : κ) (i j : Nat) (v : ν), ascI l x i = some (j, v) → ∃ d, j = i + d ∧ l[d]? = some (x, v)
  | [], _, _, _, _, h => by simp [ascI] at h
  | q :: l, x, i, j, v, h => by
    unfold ascI at h
    split at h
    · rename_i e
      obtain ⟨rfl, rfl⟩ := Prod.mk.inj (Option.some.inj h)
      exact ⟨0, rfl, by simp [e]⟩
    · obtain ⟨d, h1, h2⟩ := ascI_some l x (i + 1) j v h
      exact ⟨d + 1, by omega, by simpa using h2⟩
theorem ascI_none : ∀ (l : List (κ × ν)) (x : κ) (i : Nat), ascI l x i = none → x ∉ l.map (·.1)
  | [], _, _, _ => by simp
  | q :: l, x, i, h => by
    unfold ascI at h
    split at h
    · cases h
    · rename_i e
      have := ascI_none l x (i + 1) h
      rw [List.map_cons, List.mem_cons, not_or]
      exact ⟨e, this⟩
theorem asc_append (l : List (κ × ν)) (x : κ) (v : ν) (h : x ∉ l.map (·.1)) (y : κ) : asc (l ++ [(x, v)]) y = if y = x then some v else asc l y := by
  induction l with
  | nil => simp [asc]
  | cons q l ih =>
    rw [List.map_cons, List.mem_cons, not_or] at h
    rw [List.cons_append]
    unfold asc
    rw [ih h.2]
    by_cases e : y = q.1
    · rw [if_pos e, if_neg (fun e2 => h.1 (e2.symm.trans e))]
      simp [e]
    · simp [e]
theorem asc_set : ∀ (l : List (κ × ν)) (d : Nat) (x : κ) (u v : ν), l[d]? = some (x, u) → (l.map (·.1)).Nodup → ∀ y, asc (l.set d (x, v)) y = if y = x then some v else asc l y
  | [], _, _, _, _, h, _, _ => by simp at h
  | q :: l, 0, x, u, v, h, _, y => by
    simp only [List.getElem?_cons_zero, Option.some.injEq] at h
    subst h
    rw [List.set_cons_zero]
    unfold asc
    split <;> simp_all
  | q :: l, d + 1, x, u, v, h, hn, y => by
    rw [List.getElem?_cons_succ] at h
    rw [List.map_cons, List.nodup_cons] at hn
    rw [List.set_cons_succ]
    unfold asc
    rw [asc_set l d x u v h hn.2 y]
    by_cases e : y = q.1
    · have hne : ¬ y = x := fun e2 => hn.1 (by rw [← e, e2]; exact List.mem_map.2 ⟨(x, u), List.mem_of_getElem? h, rfl⟩)
      rw [if_pos e, if_neg hne]
      simp [e]
    · simp [e]
theorem asc_erase : ∀ (l : List (κ × ν)) (d : Nat) (x : κ) (u : ν), l[d]? = some (x, u) → (l.map (·.1)).Nodup → ∀ y, asc (l.eraseIdx d) y = if y = x then none else asc l y
  | [], _, _, _, h, _, _ => by simp at h
  | q :: l, 0, x, u, h, hn, y => by
    simp only [List.getElem?_cons_zero, Option.some.injEq] at h
    subst h
    rw [List.map_cons, List.nodup_cons] at hn
    rw [List.eraseIdx_cons_zero]
    by_cases e : y = x
    · subst e
      rw [if_pos rfl]
      have hno : ∀ l : List (κ × ν), y ∉ l.map (·.1) → asc l y = none := by
        intro l
        induction l with
        | nil => intro _; rfl
        | cons q l ih =>
          intro h
          rw [List.map_cons, List.mem_cons, not_or] at h
          unfold asc
          rw [if_neg h.1, ih h.2]
      exact hno l hn.1
    · rw [if_neg e]
      conv => rhs; unfold asc
      simp [e]
  | q :: l, d + 1, x, u, h, hn, y => by
    rw [List.getElem?_cons_succ] at h
    rw [List.map_cons, List.nodup_cons] at hn
    rw [List.eraseIdx_cons_succ]
    unfold asc
    rw [asc_erase l d x u h hn.2 y]
    by_cases e : y = q.1
    · have hne : ¬ y = x := fun e2 => hn.1 (by rw [← e, e2]; exact List.mem_map.2 ⟨(x, u), List.mem_of_getElem? h, rfl⟩)
      rw [if_pos e, if_neg hne]
      simp [e]
    · simp [e]
/-- The map at block b is the function f. -/
structure GM (ek : κ → Value) (ev : ν → Value) (w : World) (b : Nat) (f : κ → Option ν) : Prop where
  ex : ∃ es clock, ∃ ps : List (κ × ν), w.heap[b]? = some (.map es clock) ∧ es.toList.map (fun e => (e.key, e.val)) = ps.map (fun q => (ek q.1, ev q.2)) ∧ (ps.map (·.1)).Nodup ∧ ∀ k, f k = asc ps k
variable {ek : κ → Value} {ev : ν → Value} {w : World} {b : Nat} {f : κ → Option ν}
theorem GM.keep {w' : World} {l : List Nat} (h : GM ek ev w b f) (ht : Turned l w w') (hb : b ∉ l) : GM ek ev w' b f := by
  obtain ⟨es, c, ps, h1, h2⟩ := h.ex
  exact ⟨es, c, ps, ht.heap h1 hb, h2⟩
theorem GM.lt (h : GM ek ev w b f) : b < w.heap.size := by
  obtain ⟨es, c, ps, h1, _⟩ := h.ex
  exact lt_of_heap h1
theorem GM.made (w : World) : GM ek ev (w.alloc (.map #[] 0)) w.heap.size (fun _ => none) := ⟨#[], 0, [], blk_new _ _, rfl, List.nodup_nil, fun _ => rfl⟩
/-- What is asked of a kind of keys. -/
structure KeyOk (P : Program) (kt : TypeId) (ek : κ → Value) : Prop where
  find : ∀ (ν : Type) (ev : ν → Value) (w : World) (k : κ) (l : List MapEntry) (ps : List (κ × ν)), l.map (fun e => (e.key, e.val)) = ps.map (fun q => (ek q.1, ev q.2)) → (Instr.findKey kt (ek k) l).run P w = .ok ((ascI ps k 0).map fun q => (q.1, ev q.2)) w
  check : ∀ (e : Bool) (w : World) (k : κ), (Instr.checkKey e 10000 kt (ek k)).run P w = .ok () w
  stays : ∀ k, Instr.sameBits 10000 (ek k) (ek k) = true
variable {P : Program} {t kt et : TypeId}
theorem GM.look (h : GM ek ev w b f) (hK : KeyOk P kt ek) (ht : P.underlying t = some (.map kt et)) {z : Value} (hz : (zeroValue et).run P w = .ok z w) (k : κ) : (Instr.lookup t (.map (some b)) (ek k) true).run P w = .ok (.tuple #[((f k).map ev).getD z, .bool (f k).isSome]) w := by
  obtain ⟨es, c, ps, h1, h2, _, h4⟩ := h.ex
  have hf := hK.find ν ev w k es.toList ps h2
  have h5 := ascI_asc ps k 0
  rw [← h4 k] at h5
  unfold Instr.lookup
  cases hq : ascI ps k 0 with
  | none =>
    rw [hq] at hf h5
    rw [← h5]
    simp only [Option.map_none] at hf
    simp [run_underlying ht, MapKept.run_getObj_map h1, hK.check, hf, hz, Result.andThen]
  | some q =>
    rw [hq] at hf h5
    rw [← h5]
    simp only [Option.map_some] at hf
    simp [run_underlying ht, MapKept.run_getObj_map h1, hK.check, hf, Result.andThen]
theorem GM.look1 (h : GM ek ev w b f) (hK : KeyOk P kt ek) (ht : P.underlying t = some (.map kt et)) {z : Value} (hz : (zeroValue et).run P w = .ok z w) (k : κ) : (Instr.lookup t (.map (some b)) (ek k) false).run P w = .ok (((f k).map ev).getD z) w := by
  obtain ⟨es, c, ps, h1, h2, _, h4⟩ := h.ex
  have hf := hK.find ν ev w k es.toList ps h2
  have h5 := ascI_asc ps k 0
  rw [← h4 k] at h5
  unfold Instr.lookup
  cases hq : ascI ps k 0 with
  | none =>
    rw [hq] at hf h5
    rw [← h5]
    simp only [Option.map_none] at hf
    simp [run_underlying ht, MapKept.run_getObj_map h1, hK.check, hf, hz, Result.andThen]
  | some q =>
    rw [hq] at hf h5
    rw [← h5]
    simp only [Option.map_some] at hf
    simp [run_underlying ht, MapKept.run_getObj_map h1, hK.check, hf, Result.andThen]
theorem turned_block (w : World) (b : Nat) (o : Obj) : Turned [b] w { w with heap := w.heap.setIfInBounds b o } := by
  refine ⟨rfl, rfl, rfl, by simp, fun k hk hn => ?_⟩
  have : k ≠ b := by simpa using hn
  simp [Ne.symm this]
theorem blk_block {w : World} {b : Nat} (h : b < w.heap.size) (o : Obj) : ({ w with heap := w.heap.setIfInBounds b o } : World).heap[b]? = some o := by
  simp [h]
theorem map_modify {α β : Type} (g : α → β) (u : α → α) (v : β) (hu : ∀ x, g (u x) = v) : ∀ (l : List α) (i : Nat), (l.modify i u).map g = (l.map g).set i v
  | [], i => by simp
  | x :: l, 0 => by simp [hu]
  | x :: l, i + 1 => by simp [map_modify g u v hu l i]
theorem set_self {α : Type} : ∀ (l : List α) (i : Nat) (x : α), l[i]? = some x → l.set i x = l
  | [], _, _, h => by simp at h
  | y :: l, 0, x, h => by simp at h; simp [h]
  | y :: l, i + 1, x, h => by rw [List.set_cons_succ, set_self l i x (by simpa using h)]
theorem GM.put (h : GM ek ev w b f) (hK : KeyOk P kt ek) (ht : P.underlying t = some (.map kt et)) (k : κ) (v : ν) : ∃ w', (Instr.mapUpdate t (.map (some b)) (ek k) (ev v)).run P w = .ok () w' ∧ Turned [b] w w' ∧ GM ek ev w' b (fun x => if x = k then some v else f x) := by
  obtain ⟨es, c, ps, h1, h2, h3, h4⟩ := h.ex
  have hf := hK.find ν ev w k es.toList ps h2
  cases hq : ascI ps k 0 with
  | none =>
    rw [hq] at hf
    simp only [Option.map_none] at hf
    have hn := ascI_none ps k 0 hq
    refine ⟨_, ?_, turned_block w b (.map (es.push ⟨ek k, ev v, c⟩) (c + 1)), ⟨_, _, ps ++ [(k, v)], blk_block h.lt _, by simp [h2], ?_, fun x => ?_⟩⟩
    · unfold Instr.mapUpdate
      simp [run_underlying ht, MapKept.run_getObj_map h1, hK.check, hf, MapKept.run_setObj_map _ h1, Result.andThen]
    · rw [List.map_append, List.nodup_append]
      refine ⟨h3, by simp, fun a ha q hq => ?_⟩
      simp only [List.map_cons, List.map_nil, List.mem_singleton] at hq
      subst hq
      exact fun e => hn (by rw [← e]; exact ha)
    · rw [asc_append ps k v hn x, h4 x]
  | some q =>
    rw [hq] at hf
    simp only [Option.map_some] at hf
    obtain ⟨j, u⟩ := q
    obtain ⟨d, hd, hg⟩ := ascI_some ps k 0 j u hq
    have hd2 : j = d := by omega
    subst hd2
    have hk : (es[j]?).map (·.key) = some (ek k) := by
      have := congrArg (fun l => l[j]?) h2
      simp only [List.getElem?_map, hg, Option.map_some, Array.getElem?_toList] at this
      cases he : es[j]? with
      | none => rw [he] at this; cases this
      | some x =>
        rw [he] at this
        simp only [Option.map_some, Option.some.injEq, Prod.mk.injEq] at this
        simp [this.1]
    refine ⟨_, ?_, turned_block w b (.map (es.modify j fun e => { e with key := ek k, val := ev v }) c), ⟨_, _, ps.set j (k, v), blk_block h.lt _, ?_, ?_, fun x => ?_⟩⟩
    · unfold Instr.mapUpdate Instr.keyThatStays
      simp [run_underlying ht, MapKept.run_getObj_map h1, hK.check, hf, MapKept.run_setObj_map _ h1, Result.andThen, hk, hK.stays]
    · rw [Array.toList_modify, map_modify (fun e : MapEntry => (e.key, e.val)) _ (ek k, ev v) (fun _ => rfl), h2, List.map_set]
    · have : (ps.set j (k, v)).map (·.1) = ps.map (·.1) := by
        rw [List.map_set]
        exact set_self _ _ _ (by rw [List.getElem?_map, hg]; rfl)
      rw [this]
      exact h3
    · rw [asc_set ps j k u v hg h3 x, h4 x]
theorem map_eraseI {α β : Type} (g : α → β) : ∀ (l : List α) (i : Nat), (l.eraseIdx i).map g = (l.map g).eraseIdx i
  | [], i => by simp
  | x :: l, 0 => by simp
  | x :: l, i + 1 => by simp [map_eraseI g l i]
theorem GM.del {ty : TypeId} (h : GM ek ev w b f) (hK : KeyOk P kt ek) (ht : P.underlying t = some (.map kt et)) (k : κ) : ∃ w', (Builtin.delete_ #[t, kt] ty #[.map (some b), ek k]).run P w = .ok (.tuple #[]) w' ∧ Turned [b] w w' ∧ GM ek ev w' b (fun x => if x = k then none else f x) := by
  obtain ⟨es, c, ps, h1, h2, h3, h4⟩ := h.ex
  have hf := hK.find ν ev w k es.toList ps h2
  cases hq : ascI ps k 0 with
  | none =>
    rw [hq] at hf
    simp only [Option.map_none] at hf
    have h5 := ascI_asc ps k 0
    rw [hq] at h5
    refine ⟨_, ?_, turned_block w b (.map es c), ⟨_, _, ps, blk_block h.lt _, h2, h3, fun x => ?_⟩⟩
    · unfold Builtin.delete_
      simp [run_underlying ht, MapKept.run_getObj_map h1, hK.check, hf, MapKept.run_setObj_map _ h1, Result.andThen]
    · by_cases e : x = k
      · rw [if_pos e, e, ← h5]; rfl
      · rw [if_neg e, h4 x]
  | some q =>
    rw [hq] at hf
    simp only [Option.map_some] at hf
    obtain ⟨j, u⟩ := q
    obtain ⟨d, hd, hg⟩ := ascI_some ps k 0 j u hq
    have hd2 : j = d := by omega
    subst hd2
    have hl : es.toList.length = ps.length := by simpa using congrArg List.length h2
    have hi : j < es.size := by
      rw [← Array.length_toList, hl]
      exact (List.getElem?_eq_some_iff.1 hg).1
    refine ⟨_, ?_, turned_block w b (.map (es.eraseIdxIfInBounds j) c), ⟨_, _, ps.eraseIdx j, blk_block h.lt _, ?_, ?_, fun x => ?_⟩⟩
    · unfold Builtin.delete_
      simp [run_underlying ht, MapKept.run_getObj_map h1, hK.check, hf, MapKept.run_setObj_map _ h1, Result.andThen]
    · rw [Array.eraseIdxIfInBounds, dif_pos hi, Array.toList_eraseIdx, map_eraseI, h2, ← map_eraseI]
    · rw [map_eraseI]
      exact h3.sublist (List.eraseIdx_sublist _ _)
    · rw [asc_erase ps j k u hg h3 x, h4 x]
end
/-- Keys that are numbers. -/
abbrev ekI (k : Int) : Value := .int .i64 k
theorem findNow_int {ν : Type} (ev : ν → Value) (k : Int) : ∀ (l : List MapEntry) (ps : List (Int × ν)) (i : Nat), l.map (fun e => (e.key, e.val)) = ps.map (fun q => (ekI q.1, ev q.2)) → Instr.findNow (.int .i64) (ekI k) l i = some ((ascI ps k i).map fun q => (q.1, ev q.2))
  | [], [], _, _ => rfl
  | [], _ :: _, _, h => by simp at h
  | _ :: _, [], _, h => by simp at h
  | e :: l, q :: ps, i, h => by
    simp only [List.map_cons, List.cons.injEq, Prod.mk.injEq] at h
    obtain ⟨⟨h1, h2⟩, h3⟩ := h
    have ih := findNow_int ev k l ps (i + 1) h3
    unfold Instr.findNow ascI
    rw [h1]
    simp only [ekI, Instr.sameNow, if_true]
    by_cases e1 : k = q.1
    · rw [if_pos e1]
      simp [e1, h2]
    · rw [if_neg e1, show (k == q.1) = false by simpa using e1]
      exact ih
theorem keyInt : KeyOk Tryd.prog 3 ekI where
  find ν ev w k l ps h := by
    unfold Instr.findKey
    have hf := findNow_int ev k l ps 0 h
    simp only [ekI] at hf
    simp [run_underlying Tryd.underlying3, hf, Result.andThen, ekI]
  check e w k := by
    unfold Instr.checkKey
    simp [run_underlying Tryd.underlying3, ekI]
  stays k := by simp [Instr.sameBits]
/-- Keys that are two numbers. -/
abbrev ek2 (k : Int × Int) : Value := .agg #[.int .i64 k.1, .int .i64 k.2]
theorem eq_key2 (a b a' b' : Int) (w : World) : (Op.equal 143 (.agg #[.int .i64 a, .int .i64 b]) (.agg #[.int .i64 a', .int .i64 b'])).run Tryd.prog w = .ok (a == a' && b == b') w := by
  obtain ⟨ii, hii⟩ := info_of_underlying (P := Tryd.prog) Tryd.underlying3
  show (Op.equalIn (9999 + 1) _ _ _).run _ _ = _
  rw [run_equalIn_array w 9999 _ _ Tryd.underlying143 hii, show Tryd.prog.cellsOf 3 = 1 by kernel_rfl]
  have h1 := fun (x y : Int) => run_equalIn_int (P := Tryd.prog) (w := w) 9998 3 .i64 .i64 x y Tryd.underlying3
  have p := fun (xs : Array Value) (k : Nat) (x : Int) (h : xs[k]? = some (.int .i64 x)) => part_int h w
  have q0 := p #[.int .i64 a, .int .i64 b] 0 a rfl
  have q1 := p #[.int .i64 a, .int .i64 b] 1 b rfl
  have r0 := p #[.int .i64 a', .int .i64 b'] 0 a' rfl
  have r1 := p #[.int .i64 a', .int .i64 b'] 1 b' rfl
  simp only [List.range, List.range.loop, Op.eqItems, Sem.run_bind, Nat.mul_one, q0, r0, Result.andThen_ok, h1]
  cases (a == a')
  · simp
  · simp only [Bool.not_true, Bool.false_eq_true, if_false, Sem.run_bind, q1, r1, Result.andThen_ok, h1]
    cases (b == b') <;> simp
theorem findAsk_2 {ν : Type} (ev : ν → Value) (k : Int × Int) (w : World) : ∀ (l : List MapEntry) (ps : List ((Int × Int) × ν)) (i : Nat), l.map (fun e => (e.key, e.val)) = ps.map (fun q => (ek2 q.1, ev q.2)) → (Instr.findAsking 143 (ek2 k) l i).run Tryd.prog w = .ok ((ascI ps k i).map fun q => (q.1, ev q.2)) w
  | [], [], _, _ => by simp [Instr.findAsking, ascI]
  | [], _ :: _, _, h => by simp at h
  | _ :: _, [], _, h => by simp at h
  | e :: l, q :: ps, i, h => by
    simp only [List.map_cons, List.cons.injEq, Prod.mk.injEq] at h
    obtain ⟨⟨h1, h2⟩, h3⟩ := h
    have ih := findAsk_2 ev k w l ps (i + 1) h3
    have e1 : (Op.equal 143 (ek2 k) e.key).run Tryd.prog w = .ok (k.1 == q.1.1 && k.2 == q.1.2) w := by rw [h1]; exact eq_key2 _ _ _ _ w
    unfold Instr.findAsking ascI
    by_cases e2 : k = q.1
    · rw [if_pos e2]
      have : (k.1 == q.1.1 && k.2 == q.1.2) = true := by simp [e2]
      rw [this] at e1
      simp [e1, h2]
    · rw [if_neg e2]
      have : (k.1 == q.1.1 && k.2 == q.1.2) = false := by
        cases hq : (k.1 == q.1.1 && k.2 == q.1.2) with
        | false => rfl
        | true =>
          simp only [Bool.and_eq_true, beq_iff_eq] at hq
          exact absurd (Prod.ext hq.1 hq.2) e2
      rw [this] at e1
      simp [e1, ih]
theorem key2 : KeyOk Tryd.prog 143 ek2 where
  find ν ev w k l ps h := by
    have hf := findAsk_2 ev k w l ps 0 h
    unfold Instr.findKey
    cases l with
    | nil =>
      cases ps with
      | nil => simp [run_underlying Tryd.underlying143, Instr.findNow, ascI]
      | cons q ps => simp at h
    | cons e l =>
      simp only [ek2] at hf
      simp [run_underlying Tryd.underlying143, Instr.findNow, Instr.sameNow, ek2, hf]
  check e w k := by
    obtain ⟨ii, hii⟩ := info_of_underlying (P := Tryd.prog) Tryd.underlying3
    have p := fun (j : Nat) (x : Int) (h : (#[Value.int .i64 k.1, .int .i64 k.2] : Array Value)[j]? = some (.int .i64 x)) => part_int h w
    have q0 := p 0 k.1 rfl
    have q1 := p 1 k.2 rfl
    show (Instr.checkKey e (9998 + 1 + 1) _ _).run _ _ = _
    unfold Instr.checkKey ek2
    simp only [Sem.run_bind, run_underlying Tryd.underlying143, Result.andThen_ok]
    simp only [Std.Legacy.Range.forIn_eq_forIn_range', Std.Legacy.Range.size, Nat.sub_zero, Nat.add_one_sub_one, Nat.div_one]
    simp [List.range', run_sizeOf w hii, show Tryd.prog.cellsOf 3 = 1 by kernel_rfl, q0, q1, check_int, Result.andThen]
  stays k := by
    show Instr.sameBits (9999 + 1) _ _ = true
    simp [Instr.sameBits]
end Go.Proofs.YtbielnehggcaoaaDoor
/- Drawn regions of canEnd. (Written by tools/gen/genju2.py.) -/
set_option linter.unusedVariables false
namespace Go.Proofs.YtbielnehggcaoaaDoor
open Go.RowKit
theorem x_mapup {ρ : Operand → Value} {o : Oper} {w w' : World} {t : TypeId} {x y z : Operand} (h : o.op = .mapUpdate t x y z) (hr : (Instr.mapUpdate t (ρ x) (ρ y) (ρ z)).run Tryd.prog w = .ok () w') : (execOp ρ o).run Tryd.prog w = .ok .skip w' := by
  simp [execOp, h, hr, Result.andThen]
def end_r1V (sb g3 ce own m : Nat) (_ : Unit) : Nat → Value := fun j => match j with | 0 => (pa sb 0) | 1 => (pa g3 0) | 2 => (Value.int IntKind.i64 (ce : Int)) | 3 => (pa sb 0) | 4 => (pa sb 66) | 5 => (pa sb (66 + ce)) | 6 => (Value.int IntKind.u64 (own : Int)) | 7 => (pa g3 1) | 8 => (Value.int IntKind.i64 (sI m)) | 9 => (Value.int IntKind.u64 (m : Int)) | 10 => (Value.int IntKind.u64 (own : Int)) | 11 => (Value.int IntKind.u64 (m : Int)) | _ => undef
set_option maxRecDepth 100000 in
set_option maxHeartbeats 1600000 in
theorem end_r1 {sb g3 ce own m : Nat} {K : Act → World → Prop} {Q : Exit → Act → World → Prop} {a0 : Act} {w : World} (hs : a0.tmps.size = 88) (x0 : a0.eval (.tmp 0) = pa sb 0) (x3 : a0.eval (.tmp 3) = pa g3 0) (hc0 : w.cell? ⟨g3, 0, none⟩ = some (.int .i64 (ce : Int))) (hc1 : w.cell? ⟨g3, 1, none⟩ = some (.int .i64 (sI m))) (hOw : w.cell? ⟨sb, 66 + ce, none⟩ = some (.int .u64 (own : Int))) (hce : (ce : Int) < 256) (hm : m < 18446744073709551616)
    (hEnd : ∀ a' x, a'.tmps.size = a0.tmps.size → a'.defers = a0.defers → (∀ s, some s ∉ ([some 14, some 15, some 16, some 17, some 18, some 19, some 20, some 21, some 22, some 23, some 5, some 6] : List (Option Nat)) → a'.eval (.tmp s) = a0.eval (.tmp s)) → a'.eval (.tmp 5) = (Value.int IntKind.u64 (own : Int)) → a'.eval (.tmp 6) = (Value.int IntKind.u64 (m : Int)) → Turned [] w x → K a' x) : (Code.region 1 (opsOf 1 Tryd.f49.body) true).wp Tryd.prog (Exit.then K Q) a0 w := by
  refine wp_region_ghost3 (G := Unit) (by kernel_rfl) [some 14, some 15, some 16, some 17, some 18, some 19, some 20, some 21, some 22, some 23, some 5, some 6] (by rw [hs]; kernel_rfl) (end_r1V sb g3 ce own m) [] ?_ (fun _ _ => false) (fun _ x => Turned [] w x) (()) ((Turned.refl _ _).drew) (by simp) (by decide) ?_ ?_
  · intro i g b h γ
    have hi : i < 12 := by
      apply Classical.byContradiction
      intro hn
      rw [show (opsOf 1 Tryd.f49.body)[i]? = none from Array.getElem?_eq_none (by have : (opsOf 1 Tryd.f49.body).size = 12 := (by kernel_rfl); omega)] at h
      cases h
    rcases (by omega : i = 0 ∨ i = 1 ∨ i = 2 ∨ i = 3 ∨ i = 4 ∨ i = 5 ∨ i = 6 ∨ i = 7 ∨ i = 8 ∨ i = 9 ∨ i = 10 ∨ i = 11) with rfl | rfl | rfl | rfl | rfl | rfl | rfl | rfl | rfl | rfl | rfl | rfl
    · rw [show ((opsOf 1 Tryd.f49.body)[0]?).bind (fun o : Oper => o.guard) = none from by kernel_rfl] at h
      cases h
    · rw [show ((opsOf 1 Tryd.f49.body)[1]?).bind (fun o : Oper => o.guard) = none from by kernel_rfl] at h
      cases h
    · rw [show ((opsOf 1 Tryd.f49.body)[2]?).bind (fun o : Oper => o.guard) = none from by kernel_rfl] at h
      cases h
    · rw [show ((opsOf 1 Tryd.f49.body)[3]?).bind (fun o : Oper => o.guard) = none from by kernel_rfl] at h
      cases h
    · rw [show ((opsOf 1 Tryd.f49.body)[4]?).bind (fun o : Oper => o.guard) = none from by kernel_rfl] at h
      cases h
    · rw [show ((opsOf 1 Tryd.f49.body)[5]?).bind (fun o : Oper => o.guard) = none from by kernel_rfl] at h
      cases h
    · rw [show ((opsOf 1 Tryd.f49.body)[6]?).bind (fun o : Oper => o.guard) = none from by kernel_rfl] at h
      cases h
    · rw [show ((opsOf 1 Tryd.f49.body)[7]?).bind (fun o : Oper => o.guard) = none from by kernel_rfl] at h
      cases h
    · rw [show ((opsOf 1 Tryd.f49.body)[8]?).bind (fun o : Oper => o.guard) = none from by kernel_rfl] at h
      cases h
    · rw [show ((opsOf 1 Tryd.f49.body)[9]?).bind (fun o : Oper => o.guard) = none from by kernel_rfl] at h
      cases h
    · rw [show ((opsOf 1 Tryd.f49.body)[10]?).bind (fun o : Oper => o.guard) = none from by kernel_rfl] at h
      cases h
    · rw [show ((opsOf 1 Tryd.f49.body)[11]?).bind (fun o : Oper => o.guard) = none from by kernel_rfl] at h
      cases h
  · intro i hi hgd
    rcases (by simp at hi; omega : i = 0 ∨ i = 1 ∨ i = 2 ∨ i = 3 ∨ i = 4 ∨ i = 5 ∨ i = 6 ∨ i = 7 ∨ i = 8 ∨ i = 9 ∨ i = 10 ∨ i = 11) with rfl | rfl | rfl | rfl | rfl | rfl | rfl | rfl | rfl | rfl | rfl | rfl
    · refine soft (by decide) ?_
      intro o ac wa g ho hoff hv hS hdn
      exact (x_move (op_is rfl ho)).trans (by rw [((hoff 0 (by decide)).trans x0)]; rfl)
    · refine soft (by decide) ?_
      intro o ac wa g ho hoff hv hS hdn
      exact x_index (op_is rfl ho) (by rw [((hoff 3 (by decide)).trans x3)]; show (Instr.indexAt _ (pa _ _) _).run _ _ = .ok (pa _ _) _; unfold pa; go_simp)
    · refine soft (by decide) ?_
      intro o ac wa g ho hoff hv hS hdn
      have hc := hS.cell hc0 (by simp)
      exact x_load (op_is rfl ho) (by rw [(hv 1 15 rfl (by kernel_rfl))]; show (Instr.loadAt _ (pa _ _)).run _ _ = _; unfold pa; go_simp; rfl)
    · refine soft (by decide) ?_
      intro o ac wa g ho hoff hv hS hdn
      exact x_nil (op_is rfl ho) ((hv 0 14 rfl (by kernel_rfl)))
    · refine soft (by decide) ?_
      intro o ac wa g ho hoff hv hS hdn
      exact x_field (op_is rfl ho) (by rw [(hv 3 17 rfl (by kernel_rfl))]; show (Instr.fieldAt _ (pa _ _) _).run _ _ = .ok (pa _ _) _; unfold pa; go_simp)
    · refine soft (by decide) ?_
      intro o ac wa g ho hoff hv hS hdn
      exact x_index (op_is rfl ho) (by rw [(hv 4 18 rfl (by kernel_rfl)), (hv 2 16 rfl (by kernel_rfl))]; show (Instr.indexAt _ (pa sb 66) (Value.int IntKind.i64 (ce : Int))).run _ _ = .ok (pa _ _) _; unfold pa; go_simp)
    · refine soft (by decide) ?_
      intro o ac wa g ho hoff hv hS hdn
      have hc := hS.cell hOw (by simp)
      exact x_load (op_is rfl ho) (by rw [(hv 5 19 rfl (by kernel_rfl))]; show (Instr.loadAt _ (pa _ _)).run _ _ = _; unfold pa; go_simp; rfl)
    · refine soft (by decide) ?_
      intro o ac wa g ho hoff hv hS hdn
      exact x_index (op_is rfl ho) (by rw [((hoff 3 (by decide)).trans x3)]; show (Instr.indexAt _ (pa _ _) _).run _ _ = .ok (pa _ _) _; unfold pa; go_simp)
    · refine soft (by decide) ?_
      intro o ac wa g ho hoff hv hS hdn
      have hc := hS.cell hc1 (by simp)
      exact x_load (op_is rfl ho) (by rw [(hv 7 21 rfl (by kernel_rfl))]; show (Instr.loadAt _ (pa _ _)).run _ _ = _; unfold pa; go_simp; rfl)
    · refine soft (by decide) ?_
      intro o ac wa g ho hoff hv hS hdn
      exact x_conv (op_is rfl ho) (by rw [(hv 8 22 rfl (by kernel_rfl))]; show (convert _ _ (Value.int IntKind.i64 (sI m))).run _ _ = _; rw [run_conv_u (sI m), sI_back hm]; rfl)
    · refine soft (by decide) ?_
      intro o ac wa g ho hoff hv hS hdn
      exact (x_assign (op_is rfl ho)).trans (by rw [(hv 6 20 rfl (by kernel_rfl))]; rfl)
    · refine soft (by decide) ?_
      intro o ac wa g ho hoff hv hS hdn
      exact (x_assign (op_is rfl ho)).trans (by rw [(hv 9 23 rfl (by kernel_rfl))]; rfl)
  · intro a' w' g hsz hdf hoff hS hdn hval
    exact hEnd a' w' hsz hdf (fun s hs => ev_same (hoff s hs)) (hval 10 5 rfl) (hval 11 6 rfl) hS
def end_r4V (sb g3 tb ce m : Nat) (v r : Int) (f : Bool) (_ : Unit) : Nat → Value := fun j => match j with | 0 => (pa sb 0) | 1 => (pa sb 0) | 2 => (pa sb 322) | 3 => (Value.map (some tb)) | 4 => (keyV ce m v) | 5 => (Value.tuple #[.int .i64 r, .bool f]) | 6 => (Value.tuple #[.int .i64 r, .bool f]) | 7 => (Value.int IntKind.i64 r) | 8 => (Value.bool f) | 9 => (Value.int IntKind.i64 r) | 10 => (Value.bool f) | _ => undef
set_option maxRecDepth 100000 in
set_option maxHeartbeats 1600000 in
theorem end_r4 {sb g3 tb ce m : Nat} {v r : Int} {f : Bool} {K : Act → World → Prop} {Q : Exit → Act → World → Prop} {a0 : Act} {w : World} (hs : a0.tmps.size = 88) (x0 : a0.eval (.tmp 0) = pa sb 0) (x3 : a0.eval (.tmp 3) = pa g3 0) (hc0 : w.cell? ⟨g3, 0, none⟩ = some (.int .i64 (ce : Int))) (hc1 : w.cell? ⟨g3, 1, none⟩ = some (.int .i64 (sI m))) (hc2 : w.cell? ⟨g3, 2, none⟩ = some (.int .i64 v)) (hMp : w.cell? ⟨sb, 322, none⟩ = some (.map (some tb))) (hLook : ∀ x, Turned [] w x → (Instr.lookup 100 (.map (some tb)) (keyV ce m v) true).run Tryd.prog x = .ok (.tuple #[.int .i64 r, .bool f]) x)
    (hEnd : ∀ a' x, a'.tmps.size = a0.tmps.size → a'.defers = a0.defers → (∀ s, some s ∉ ([some 34, some 35, some 36, some 37, some 38, some 39, some 33, some 40, some 41, some 7, some 8] : List (Option Nat)) → a'.eval (.tmp s) = a0.eval (.tmp s)) → a'.eval (.tmp 7) = (Value.int IntKind.i64 r) → a'.eval (.tmp 8) = (Value.bool f) → Turned [] w x → K a' x) : (Code.region 4 (opsOf 4 Tryd.f49.body) true).wp Tryd.prog (Exit.then K Q) a0 w := by
  refine wp_region_ghost3 (G := Unit) (by kernel_rfl) [some 34, some 35, some 36, some 37, some 38, some 39, some 33, some 40, some 41, some 7, some 8] (by rw [hs]; kernel_rfl) (end_r4V sb g3 tb ce m v r f) [] ?_ (fun _ _ => false) (fun _ x => Turned [] w x) (()) ((Turned.refl _ _).drew) (by simp) (by decide) ?_ ?_
  · intro i g b h γ
    have hi : i < 11 := by
      apply Classical.byContradiction
      intro hn
      rw [show (opsOf 4 Tryd.f49.body)[i]? = none from Array.getElem?_eq_none (by have : (opsOf 4 Tryd.f49.body).size = 11 := (by kernel_rfl); omega)] at h
      cases h
    rcases (by omega : i = 0 ∨ i = 1 ∨ i = 2 ∨ i = 3 ∨ i = 4 ∨ i = 5 ∨ i = 6 ∨ i = 7 ∨ i = 8 ∨ i = 9 ∨ i = 10) with rfl | rfl | rfl | rfl | rfl | rfl | rfl | rfl | rfl | rfl | rfl
    · rw [show ((opsOf 4 Tryd.f49.body)[0]?).bind (fun o : Oper => o.guard) = none from by kernel_rfl] at h
      cases h
    · rw [show ((opsOf 4 Tryd.f49.body)[1]?).bind (fun o : Oper => o.guard) = none from by kernel_rfl] at h
      cases h
    · rw [show ((opsOf 4 Tryd.f49.body)[2]?).bind (fun o : Oper => o.guard) = none from by kernel_rfl] at h
      cases h
    · rw [show ((opsOf 4 Tryd.f49.body)[3]?).bind (fun o : Oper => o.guard) = none from by kernel_rfl] at h
      cases h
    · rw [show ((opsOf 4 Tryd.f49.body)[4]?).bind (fun o : Oper => o.guard) = none from by kernel_rfl] at h
      cases h
    · rw [show ((opsOf 4 Tryd.f49.body)[5]?).bind (fun o : Oper => o.guard) = none from by kernel_rfl] at h
      cases h
    · rw [show ((opsOf 4 Tryd.f49.body)[6]?).bind (fun o : Oper => o.guard) = none from by kernel_rfl] at h
      cases h
    · rw [show ((opsOf 4 Tryd.f49.body)[7]?).bind (fun o : Oper => o.guard) = none from by kernel_rfl] at h
      cases h
    · rw [show ((opsOf 4 Tryd.f49.body)[8]?).bind (fun o : Oper => o.guard) = none from by kernel_rfl] at h
      cases h
    · rw [show ((opsOf 4 Tryd.f49.body)[9]?).bind (fun o : Oper => o.guard) = none from by kernel_rfl] at h
      cases h
    · rw [show ((opsOf 4 Tryd.f49.body)[10]?).bind (fun o : Oper => o.guard) = none from by kernel_rfl] at h
      cases h
  · intro i hi hgd
    rcases (by simp at hi; omega : i = 0 ∨ i = 1 ∨ i = 2 ∨ i = 3 ∨ i = 4 ∨ i = 5 ∨ i = 6 ∨ i = 7 ∨ i = 8 ∨ i = 9 ∨ i = 10) with rfl | rfl | rfl | rfl | rfl | rfl | rfl | rfl | rfl | rfl | rfl
    · refine soft (by decide) ?_
      intro o ac wa g ho hoff hv hS hdn
      exact (x_move (op_is rfl ho)).trans (by rw [((hoff 0 (by decide)).trans x0)]; rfl)
    · refine soft (by decide) ?_
      intro o ac wa g ho hoff hv hS hdn
      exact x_nil (op_is rfl ho) ((hv 0 34 rfl (by kernel_rfl)))
    · refine soft (by decide) ?_
      intro o ac wa g ho hoff hv hS hdn
      exact x_field (op_is rfl ho) (by rw [(hv 1 35 rfl (by kernel_rfl))]; show (Instr.fieldAt _ (pa _ _) _).run _ _ = .ok (pa _ _) _; unfold pa; go_simp)
    · refine soft (by decide) ?_
      intro o ac wa g ho hoff hv hS hdn
      have hc := hS.cell hMp (by simp)
      exact x_load (op_is rfl ho) (by rw [(hv 2 36 rfl (by kernel_rfl))]; show (Instr.loadAt _ (pa _ _)).run _ _ = _; unfold pa; go_simp; rfl)
    · refine soft (by decide) ?_
      intro o ac wa g ho hoff hv hS hdn
      have q0 := hS.cell hc0 (by simp)
      have q1 := hS.cell hc1 (by simp)
      have q2 := hS.cell hc2 (by simp)
      exact x_load (op_is rfl ho) (by rw [((hoff 3 (by decide)).trans x3)]; show (Instr.loadAt _ (pa _ _)).run _ _ = _; unfold pa; go_simp; rfl)
    · refine soft (by decide) ?_
      intro o ac wa g ho hoff hv hS hdn
      exact x_lookup (op_is rfl ho) (by rw [(hv 3 37 rfl (by kernel_rfl)), (hv 4 38 rfl (by kernel_rfl))]; exact hLook _ hS)
    · refine soft (by decide) ?_
      intro o ac wa g ho hoff hv hS hdn
      exact (x_move (op_is rfl ho)).trans (by rw [(hv 5 39 rfl (by kernel_rfl))]; rfl)
    · refine soft (by decide) ?_
      intro o ac wa g ho hoff hv hS hdn
      exact x_extrQ (op_is rfl ho) (hv 6 33 rfl (by kernel_rfl)) rfl
    · refine soft (by decide) ?_
      intro o ac wa g ho hoff hv hS hdn
      exact x_extrQ (op_is rfl ho) (hv 6 33 rfl (by kernel_rfl)) rfl
    · refine soft (by decide) ?_
      intro o ac wa g ho hoff hv hS hdn
      exact (x_assign (op_is rfl ho)).trans (by rw [(hv 7 40 rfl (by kernel_rfl))]; rfl)
    · refine soft (by decide) ?_
      intro o ac wa g ho hoff hv hS hdn
      exact (x_assign (op_is rfl ho)).trans (by rw [(hv 8 41 rfl (by kernel_rfl))]; rfl)
  · intro a' w' g hsz hdf hoff hS hdn hval
    exact hEnd a' w' hsz hdf (fun s hs => ev_same (hoff s hs)) (hval 9 7 rfl) (hval 10 8 rfl) hS
def end_r16V (sb g3 tb ce m : Nat) (v r : Int) (_ : Bool) : Nat → Value := fun j => match j with | 0 => (pa sb 0) | 1 => (pa sb 0) | 2 => (pa sb 322) | 3 => (Value.map (some tb)) | 4 => (keyV ce m v) | 5 => (Value.int IntKind.i64 r) | 6 => undef | _ => undef
set_option maxRecDepth 100000 in
set_option maxHeartbeats 1600000 in
theorem end_r16 {sb g3 tb ce m : Nat} {v r : Int} {Ks : List KE} {K : Act → World → Prop} {Q : Exit → Act → World → Prop} {a0 : Act} {w : World} (hs : a0.tmps.size = 88) (x0 : a0.eval (.tmp 0) = pa sb 0) (x3 : a0.eval (.tmp 3) = pa g3 0) (x9 : a0.eval (.tmp 9) = .int .i64 r) (hc0 : w.cell? ⟨g3, 0, none⟩ = some (.int .i64 (ce : Int))) (hc1 : w.cell? ⟨g3, 1, none⟩ = some (.int .i64 (sI m))) (hc2 : w.cell? ⟨g3, 2, none⟩ = some (.int .i64 v)) (hMp : w.cell? ⟨sb, 322, none⟩ = some (.map (some tb))) (n1 : sb ≠ tb) (n2 : g3 ≠ tb) (hm : m < 18446744073709551616) (hK0 : KM w tb Ks) (hNo : ∀ k ∈ Ks, ¬ k.is ce m v)
    (hEnd : ∀ a' x, a'.tmps.size = a0.tmps.size → a'.defers = a0.defers → (∀ s, some s ∉ ([some 80, some 81, some 82, some 83, some 84, some 85, none] : List (Option Nat)) → a'.eval (.tmp s) = a0.eval (.tmp s)) → Turned [tb] w x → KM x tb (Ks ++ [⟨ce, m, v, r⟩]) → K a' x) : (Code.region 16 (opsOf 16 Tryd.f49.body) true).wp Tryd.prog (Exit.then K Q) a0 w := by
  refine wp_region_ghost3 (G := Bool) (by kernel_rfl) [some 80, some 81, some 82, some 83, some 84, some 85, none] (by rw [hs]; kernel_rfl) (end_r16V sb g3 tb ce m v r) [6] ?_ (fun g _ => g) (fun g x => Turned [tb] w x ∧ (g = true → KM x tb (Ks ++ [⟨ce, m, v, r⟩])) ∧ (g = false → KM x tb Ks)) (false) (⟨(Turned.refl _ _).drew, fun h => (by cases h), fun _ => hK0.keep ((Turned.refl [] _).drew) (by simp)⟩) (by intro x hx; rfl) (by decide) ?_ ?_
  · intro i g b h γ
    have hi : i < 7 := by
      apply Classical.byContradiction
      intro hn
      rw [show (opsOf 16 Tryd.f49.body)[i]? = none from Array.getElem?_eq_none (by have : (opsOf 16 Tryd.f49.body).size = 7 := (by kernel_rfl); omega)] at h
      cases h
    rcases (by omega : i = 0 ∨ i = 1 ∨ i = 2 ∨ i = 3 ∨ i = 4 ∨ i = 5 ∨ i = 6) with rfl | rfl | rfl | rfl | rfl | rfl | rfl
    · rw [show ((opsOf 16 Tryd.f49.body)[0]?).bind (fun o : Oper => o.guard) = none from by kernel_rfl] at h
      cases h
    · rw [show ((opsOf 16 Tryd.f49.body)[1]?).bind (fun o : Oper => o.guard) = none from by kernel_rfl] at h
      cases h
    · rw [show ((opsOf 16 Tryd.f49.body)[2]?).bind (fun o : Oper => o.guard) = none from by kernel_rfl] at h
      cases h
    · rw [show ((opsOf 16 Tryd.f49.body)[3]?).bind (fun o : Oper => o.guard) = none from by kernel_rfl] at h
      cases h
    · rw [show ((opsOf 16 Tryd.f49.body)[4]?).bind (fun o : Oper => o.guard) = none from by kernel_rfl] at h
      cases h
    · rw [show ((opsOf 16 Tryd.f49.body)[5]?).bind (fun o : Oper => o.guard) = none from by kernel_rfl] at h
      cases h
    · rw [show ((opsOf 16 Tryd.f49.body)[6]?).bind (fun o : Oper => o.guard) = none from by kernel_rfl] at h
      cases h
  · intro i hi hgd
    rcases (by simp at hi; omega : i = 0 ∨ i = 1 ∨ i = 2 ∨ i = 3 ∨ i = 4 ∨ i = 5 ∨ i = 6) with rfl | rfl | rfl | rfl | rfl | rfl | rfl
    · refine soft (by decide) ?_
      intro o ac wa g ho hoff hv hS hdn
      exact (x_move (op_is rfl ho)).trans (by rw [((hoff 0 (by decide)).trans x0)]; rfl)
    · refine soft (by decide) ?_
      intro o ac wa g ho hoff hv hS hdn
      exact x_nil (op_is rfl ho) ((hv 0 80 rfl (by kernel_rfl)))
    · refine soft (by decide) ?_
      intro o ac wa g ho hoff hv hS hdn
      exact x_field (op_is rfl ho) (by rw [(hv 1 81 rfl (by kernel_rfl))]; show (Instr.fieldAt _ (pa _ _) _).run _ _ = .ok (pa _ _) _; unfold pa; go_simp)
    · refine soft (by decide) ?_
      intro o ac wa g ho hoff hv hS hdn
      have hc := hS.1.cell hMp (by simpa using n1)
      exact x_load (op_is rfl ho) (by rw [(hv 2 82 rfl (by kernel_rfl))]; show (Instr.loadAt _ (pa _ _)).run _ _ = _; unfold pa; go_simp; rfl)
    · refine soft (by decide) ?_
      intro o ac wa g ho hoff hv hS hdn
      have q0 := hS.1.cell hc0 (by simpa using n2)
      have q1 := hS.1.cell hc1 (by simpa using n2)
      have q2 := hS.1.cell hc2 (by simpa using n2)
      exact x_load (op_is rfl ho) (by rw [((hoff 3 (by decide)).trans x3)]; show (Instr.loadAt _ (pa _ _)).run _ _ = _; unfold pa; go_simp; rfl)
    · refine soft (by decide) ?_
      intro o ac wa g ho hoff hv hS hdn
      exact (x_move (op_is rfl ho)).trans (by rw [((hoff 9 (by decide)).trans x9)]; rfl)
    · intro o ac wa g K ho hd _ hoff hv hS hpre hnd hlater hK
      have hst : g = false := hnd (by simp)
      subst hst
      obtain ⟨w', hr, ht, hk⟩ := put_key (hS.2.2 rfl) ce m v r hm hNo
      refine l_skip hd (w' := w') (x_mapup (op_is rfl ho) (by rw [(hv 3 83 rfl (by kernel_rfl)), (hv 4 84 rfl (by kernel_rfl)), (hv 5 85 rfl (by kernel_rfl))]; exact hr)) ?_
      exact hK true _ ⟨hS.1.trans ht, fun _ => hk, fun h => (by cases h)⟩ (by intro x hx; simp at hx; subst hx; simp) (fun _ _ _ => rfl)
  · intro a' w' g hsz hdf hoff hS hdn hval
    have hst : g = true := hdn 6 (by simp)
    exact hEnd a' w' hsz hdf (fun s hs => ev_same (hoff s hs)) hS.1 (hS.2.1 hst)
end Go.Proofs.YtbielnehggcaoaaDoor
