/-
  What is said of memory: a slice's values, a row of one's own, an order's box; which block alone a call may write.
-/
import Derived.Test.YtlbekopcaifijaaRows
import Derived.Test.YtlbekopcaifijaaMath
import Derived.WalkKit
import Derived.WalkSpells
import Derived.WalkLawsBesides
import Derived.Deep.OwnRows
import Derived.Laws.AppendOwnNone
namespace Go.Proofs.Ytlbekopcaifijaa
open Go.RowKit

theorem Try.info3 : (Try.prog.info? 3).map (fun i => (i.zero, i.size, i.bytes)) = some (some (.int .i64 0), 1, 8) := by kernel_rfl
theorem Try.info4 : (Try.prog.info? 4).map (fun i => (i.zero, i.size, i.bytes)) = some (some (.bool false), 1, 1) := by kernel_rfl

/-- Of what was there when the call began, block r alone may have turned. -/
structure Only (r : Nat) (w w' : World) : Prop where
  os : w'.os = w.os
  tape : w'.tape = w.tape
  output : w'.output = w.output
  size : w.heap.size ≤ w'.heap.size
  block : ∀ k, k < w.heap.size → k ≠ r → w'.heap[k]? = w.heap[k]?
theorem Only.refl (r : Nat) (w : World) : Only r w w := ⟨rfl, rfl, rfl, Nat.le_refl _, fun _ _ _ => rfl⟩
theorem Only.trans {r : Nat} {a b c : World} (h : Only r a b) (k : Only r b c) : Only r a c :=
  ⟨k.os.trans h.os, k.tape.trans h.tape, k.output.trans h.output, Nat.le_trans h.size k.size, fun i hi hn => (k.block i (Nat.lt_of_lt_of_le hi h.size) hn).trans (h.block i hi hn)⟩
theorem Only.of {r : Nat} {a b : World} (h : Below a.heap.size a b) : Only r a b := ⟨h.os, h.tape, h.output, h.size, fun i hi _ => h.block i hi⟩
theorem Only.set {r : Nat} {a w : World} (h : Only r a w) (o : Nat) (v : Value) : Only r a (w.setCell ⟨r, o, none⟩ v) :=
  h.trans ⟨rfl, rfl, rfl, by simp [World.setCell], fun k _ hn => Below.heap_setCell _ _ _ _ hn⟩
theorem Only.alloc {r : Nat} {a w : World} (h : Only r a w) (o : Obj) : Only r a (w.alloc o) :=
  h.trans ⟨rfl, rfl, rfl, by simp, fun k hk _ => Below.heap_alloc _ _ _ hk⟩
theorem Only.drew {r : Nat} {a w : World} (h : Only r a w) : Only r a w.drew := ⟨h.os, h.tape, h.output, h.size, h.block⟩
theorem Only.below {r B : Nat} {W a b : World} (h : Only r a b) (hW : Below B W a) (hB : B ≤ r) (hs : B ≤ a.heap.size) : Below B W b :=
  hW.trans ⟨h.os, h.tape, h.output, h.size, fun k hk => h.block k (by omega) (by omega)⟩
theorem Only.new {r : Nat} {a b : World} (h : Only r a b) (hr : a.heap.size ≤ r) : Below a.heap.size a b := h.below (Below.refl _ _) hr (Nat.le_refl _)
/-- What a callee wrote that was new to its caller, its caller need not tell. -/
theorem Only.inner {r q : Nat} {a b c : World} (h : Only r a b) (k : Only q b c) (hq : a.heap.size ≤ q) : Only r a c :=
  ⟨k.os.trans h.os, k.tape.trans h.tape, k.output.trans h.output, Nat.le_trans h.size k.size, fun i hi hn => (k.block i (Nat.lt_of_lt_of_le hi h.size) (by omega)).trans (h.block i hi hn)⟩
theorem Only.cell {r : Nat} {a b : World} (h : Only r a b) {p : Addr} {v : Value} (hp : a.cell? p = some v) (hr : p.block ≠ r) : b.cell? p = some v :=
  (World.cell?_of_block (h.block p.block (World.block_lt_of_cell? a p hp) hr)).trans hp

/-- A slice that begins at ao holds xs. -/
def Vals (w : World) (ao : Option Addr) (xs : List Value) : Prop :=
  xs = [] ∨ ∃ b off, ao = some ⟨b, off, none⟩ ∧ ∀ j u, xs[j]? = some u → w.cell? ⟨b, off + j, none⟩ = some u
theorem Vals.keep {w w' : World} {ao : Option Addr} {xs : List Value} {r : Nat} (h : Vals w ao xs) (ho : Only r w w') (hr : ∀ b off, ao = some ⟨b, off, none⟩ → b < w.heap.size → b ≠ r) : Vals w' ao xs := by
  rcases h with h | ⟨b, off, rfl, h⟩
  · exact .inl h
  · exact .inr ⟨b, off, rfl, fun j u hu => ho.cell (h j u hu) (hr b off rfl (World.block_lt_of_cell? w _ (h j u hu)))⟩
theorem Vals.keepB {w w' : World} {ao : Option Addr} {xs : List Value} (h : Vals w ao xs) (ho : Below w.heap.size w w') : Vals w' ao xs := by
  rcases h with h | ⟨b, off, rfl, h⟩
  · exact .inl h
  · exact .inr ⟨b, off, rfl, fun j u hu => by rw [ho.cell (World.block_lt_of_cell? w _ (h j u hu))]; exact h j u hu⟩
def ints (ts : List Int) : List Value := ts.map (Value.int .i64)
def bools (B : Nat → Bool) (n : Nat) : List Value := (List.range n).map fun i => .bool (B i)
theorem ints_len (ts : List Int) : (ints ts).length = ts.length := by simp [ints]
theorem bools_len (B : Nat → Bool) (n : Nat) : (bools B n).length = n := by simp [bools]
theorem ints_one (ts : List Int) : ∀ u ∈ ints ts, u.oneCell' = true := by
  intro u hu; simp only [ints, List.mem_map] at hu; obtain ⟨_, _, rfl⟩ := hu; rfl
theorem bools_one (B : Nat → Bool) (n : Nat) : ∀ u ∈ bools B n, u.oneCell' = true := by
  intro u hu; simp only [bools, List.mem_map] at hu; obtain ⟨_, _, rfl⟩ := hu; rfl
theorem ints_at (ts : List Int) {j : Nat} (h : j < ts.length) : (ints ts)[j]? = some (.int .i64 (ts[j]'h)) := by simp [ints, h]
theorem bools_at (B : Nat → Bool) {n j : Nat} (h : j < n) : (bools B n)[j]? = some (.bool (B j)) := by simp [bools, h]
theorem Vals.bool {w : World} {ao : Option Addr} {B : Nat → Bool} {n : Nat} (h : Vals w ao (bools B n)) (hn : 0 < n) : ∃ b off, ao = some ⟨b, off, none⟩ ∧ ∀ j, j < n → w.cell? ⟨b, off + j, none⟩ = some (.bool (B j)) := by
  rcases h with h | ⟨b, off, rfl, h⟩
  · have := congrArg List.length h; rw [bools_len] at this; simp at this; omega
  · exact ⟨b, off, rfl, fun j hj => h j _ (bools_at B hj)⟩
theorem Vals.int {w : World} {ao : Option Addr} {ts : List Int} (h : Vals w ao (ints ts)) (hn : 0 < ts.length) : ∃ b off, ao = some ⟨b, off, none⟩ ∧ ∀ j (hj : j < ts.length), w.cell? ⟨b, off + j, none⟩ = some (.int .i64 (ts[j]'hj)) := by
  rcases h with h | ⟨b, off, rfl, h⟩
  · have := congrArg List.length h; rw [ints_len] at this; simp at this; simp [this] at hn
  · exact ⟨b, off, rfl, fun j hj => h j _ (ints_at ts hj)⟩

/-- What 'append' to nothing leaves: nothing, or a new row that opens with xs. -/
structure Fresh (e : TypeId) (w w' : World) (v : Value) (xs : List Value) : Prop where
  below : Below w.heap.size w w'
  row : ∃ ao cap g N f, v = .slice ao xs.length cap ∧ xs.length ≤ cap ∧ cap ≤ maxLen ∧ w.heap.size ≤ g ∧
    ((ao = none ∧ cap = 0 ∧ xs = []) ∨ (ao = some ⟨g, 0, none⟩ ∧ w'.rowIs g e N f ∧ xs.length ≤ N ∧ ∀ j u, xs[j]? = some u → f j = u))
theorem fresh_owns {e : TypeId} {w w' : World} {v : Value} {xs : List Value} {row : Option Nat} {n : Nat} (hn : n = xs.length) (h : w'.ownsRow w.heap.size e 1 v n xs) (hg : w.grownBy w' row) (hr : ∀ k, row = some k → w.heap.size ≤ k) : Fresh e w w' v xs := by
  subst hn
  refine ⟨(Below.refl _ _).grown hg (Nat.le_refl _) hr, ?_⟩
  obtain ⟨h1, h2⟩ := h
  rcases h2 with ⟨rfl, h2⟩ | ⟨g, cap, cur, rfl, hb, hh, hc, hm, hs, ht⟩
  · have : xs = [] := List.length_eq_zero_iff.1 h2
    subst this
    exact ⟨none, 0, w.heap.size, 0, fun _ => .bool false, rfl, Nat.le_refl _, Nat.zero_le _, Nat.le_refl _, .inl ⟨rfl, rfl, rfl⟩⟩
  · refine ⟨some ⟨g, 0, none⟩, cap, g, cap, fun j => cur.getD j (.bool false), rfl, hc, hm, hb, .inr ⟨rfl, ⟨cur, hh, by simpa using hs, fun i hi => ?_⟩, hc, fun j u hu => ?_⟩⟩
    · have : i < cur.size := by omega
      simp [this]
    · rw [← ht, List.getElem?_take] at hu
      split at hu
      · rw [Array.getElem?_toList] at hu
        simp [Array.getD_eq_getD_getElem?, hu]
      · cases hu
theorem Fresh.vals {e : TypeId} {w w' : World} {v : Value} {xs : List Value} (h : Fresh e w w' v xs) : ∃ ao cap, v = .slice ao xs.length cap ∧ (ao = none → cap = 0) ∧ Vals w' ao xs ∧ (∀ b off, ao = some ⟨b, off, none⟩ → w.heap.size ≤ b) := by
  obtain ⟨ao, cap, g, N, f, rfl, h1, h2, h3, h4⟩ := h.row
  rcases h4 with ⟨rfl, rfl, rfl⟩ | ⟨rfl, h5, h6, h7⟩
  · exact ⟨none, 0, rfl, fun _ => rfl, .inl rfl, fun _ _ h => by cases h⟩
  · refine ⟨some ⟨g, 0, none⟩, cap, rfl, (fun h => by cases h), .inr ⟨g, 0, rfl, fun j u hu => ?_⟩, (fun b off h => by cases h; exact h3)⟩
    have hj : j < xs.length := (List.getElem?_eq_some_iff.1 hu).1
    have := h5.cell (i := j) (by omega)
    simpa [h7 j u hu] using this

theorem addr_add (b off j : Nat) : (⟨b, off, none⟩ : Addr).add j = ⟨b, off + j, none⟩ := by
  unfold Addr.add; split <;> simp_all
/-- 'append([]T(nil), xs...)', as a law for the walk. -/
theorem wpList_fresh {P : Program} {w : World} {ops : Array Oper} {rest : List Oper} {o : Oper} {a : Act} {Q : Exit → Act → World → Prop} (hgd : o.guard = none) (s x : Operand) (t : TypeId)
    (ho : o.op = .call { callee := .builtin .append, args := #[s, x], argTypes := #[t, t] })
    (e : TypeId) (z : Value) (bytes : Nat) (ht : P.underlying t = some (.slice e)) (hinfo : (P.info? e).map (fun i => (i.zero, i.size, i.bytes)) = some (some z, 1, bytes)) (hz : z.cells.size = 1)
    (ao : Option Addr) (m c : Nat) (xs : List Value) (hs : a.eval s = .slice none 0 0) (hx : a.eval x = .slice ao m c) (hl : xs.length = m) (hc : ao = none → c = 0) (hv : Vals w ao xs) (h1 : ∀ u ∈ xs, u.oneCell' = true)
    (h63 : m ≤ maxLen) (hbytes : m * bytes ≤ 140737488355328)
    (h : ∀ v' w', Fresh e w w' v' xs → wpList P ops Q rest (a.put o.dst v') w') : wpList P ops Q (o :: rest) a w := by
  obtain ⟨i, hi, hz0, hz1, hz2⟩ := info_parts hinfo
  cases ao with
  | none =>
    have hxs : xs = [] := by rcases hv with h | ⟨_, _, h, _⟩; exact h; cases h
    subst hxs
    obtain rfl : m = 0 := hl.symm
    obtain rfl := hc rfl
    refine wpList_append_own_none hgd s x t ho w.heap.size e i 1 ht hi (.slice none 0 0) 0 [] hs (World.ownsRow_nil _ _ _ _) hx (h _ _ ?_)
    exact ⟨Below.refl _ _, none, 0, w.heap.size, 0, fun _ => .bool false, rfl, Nat.le_refl _, Nat.zero_le _, Nat.le_refl _, .inl ⟨rfl, rfl, rfl⟩⟩
  | some ad =>
    refine wpList_append_own w hgd s x t ho w.heap.size e i z 1 bytes ht hi hz0 hz1 hz2 hz (by decide) (.slice none 0 0) 0 [] hs (World.ownsRow_nil _ _ _ _) ad m c xs hx (by omega) (fun j u hu => ?_) h1 (by omega) (by simpa using hbytes) (Nat.le_refl _) (fun v' w' h2 h3 h4 => h v' w' ?_)
    · rcases hv with rfl | ⟨b, off, hb, hh⟩
      · simp at hu
      · cases hb; rw [addr_add]; exact hh j u hu
    · simp only [List.nil_append, Nat.zero_add] at h2
      exact fresh_owns hl.symm h2 h3 (fun k hk => by cases hk)

/-- An order's box: at block b, of type T; its turns ts, which lie in block g; x beside them. -/
structure Ord (T : TypeId) (w : World) (b g : Nat) (ts : List Int) (x : Int) : Prop where
  ne : ts ≠ [] → g ≠ b
  lt : b < w.heap.size
  box : ∃ ao cap, w.heap[b]? = some (.cells #[.slice ao ts.length cap, .int .i64 x] T (0, 0)) ∧ ts.length ≤ cap ∧ cap ≤ maxLen ∧ (ao = none → cap = 0) ∧ (ts ≠ [] → ∀ p q, ao = some ⟨p, q, none⟩ → p = g) ∧ Vals w ao (ints ts)
theorem Vals.keepI {w w' : World} {ao : Option Addr} {ts : List Int} {r : Nat} (h : Vals w ao (ints ts)) (ho : Only r w w') (hr : ts ≠ [] → ∀ b off, ao = some ⟨b, off, none⟩ → b ≠ r) : Vals w' ao (ints ts) := by
  by_cases e : ts = []
  · subst e; exact .inl rfl
  · exact h.keep ho (fun b off e2 _ => hr e b off e2)
theorem Ord.keep {T : TypeId} {w w' : World} {b g r : Nat} {ts : List Int} {x : Int} (h : Ord T w b g ts x) (ho : Only r w w') (hb : b ≠ r) (hg : ts ≠ [] → g ≠ r) : Ord T w' b g ts x := by
  obtain ⟨h1, h2, ao, cap, h3, h4, h5, h6, h7, h8⟩ := h
  exact ⟨h1, Nat.lt_of_lt_of_le h2 ho.size, ao, cap, (ho.block b h2 hb).trans h3, h4, h5, h6, h7, h8.keepI ho (fun hne p q e => by rw [h7 hne p q e]; exact hg hne)⟩
theorem Ord.keepB {T : TypeId} {w w' : World} {b g : Nat} {ts : List Int} {x : Int} (h : Ord T w b g ts x) (ho : Below w.heap.size w w') : Ord T w' b g ts x := by
  obtain ⟨h1, h2, ao, cap, h3, h4, h5, h6, h7, h8⟩ := h
  exact ⟨h1, Nat.lt_of_lt_of_le h2 ho.size, ao, cap, (ho.block b h2).trans h3, h4, h5, h6, h7, h8.keepB ho⟩
theorem cell_two {w : World} {b : Nat} {u v : Value} {T : TypeId} (h : w.heap[b]? = some (.cells #[u, v] T (0, 0))) :
    w.cell? ⟨b, 0, none⟩ = some u ∧ w.cell? ⟨b, 1, none⟩ = some v ∧ w.frozen? ⟨b, 0, none⟩ = false ∧ w.frozen? ⟨b, 1, none⟩ = false := by
  simp [World.cell?, World.frozen?, h]
theorem two_set0 {w : World} {b : Nat} {u v : Value} {T : TypeId} (h : w.heap[b]? = some (.cells #[u, v] T (0, 0))) (z : Value) : (w.setCell ⟨b, 0, none⟩ z).heap[b]? = some (.cells #[z, v] T (0, 0)) := by
  simp [World.setCell, Array.getElem?_modify, h]
theorem two_set1 {w : World} {b : Nat} {u v : Value} {T : TypeId} (h : w.heap[b]? = some (.cells #[u, v] T (0, 0))) (z : Value) : (w.setCell ⟨b, 1, none⟩ z).heap[b]? = some (.cells #[u, z] T (0, 0)) := by
  simp [World.setCell, Array.getElem?_modify, h]
end Go.Proofs.Ytlbekopcaifijaa
