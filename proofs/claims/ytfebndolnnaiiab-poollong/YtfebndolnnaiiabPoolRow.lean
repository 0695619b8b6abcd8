/- What is held, in memory; a pool by its laws. -/
import Derived.Test.YtfebndolnnaiiabRows
import Derived.Test.YtfebndolnnaiiabPoolMath
import Derived.Test.YtfebndolnnaiiabPush
import Derived.WalkSmall
import Derived.Laws.OwnMore
namespace Go.Proofs.Ytfebndolnnaiiab
open Go.RowKit
def fld (e : Held) : Nat → Value
  | 0 => .int .i64 e.h
  | 1 => .int .i64 e.mark
  | 2 => .int .i64 e.link
  | 3 => .int .i64 e.a
  | 4 => .int .i64 e.b
  | 5 => .int .i64 e.c
  | _ => .int .i64 e.d
def row7 (e : Held) : List Value := [fld e 0, fld e 1, fld e 2, fld e 3, fld e 4, fld e 5, fld e 6]
def LIs (xs : List Value) (m : Nat) (HL : Nat → Held) : Prop := xs.length = m * 7 ∧ ∀ p j, p < m → j < 7 → xs[7 * p + j]? = some (fld (HL p) j)
theorem LIs.push {xs : List Value} {m : Nat} {HL : Nat → Held} (h : LIs xs m HL) (e : Held) : LIs (xs ++ row7 e) (m + 1) (upd HL m e) := by
  refine ⟨by simp [h.1, row7]; omega, fun p j hp hj => ?_⟩
  by_cases hpm : p = m
  · subst hpm
    rw [upd_same, List.getElem?_append_right (by rw [h.1]; omega), h.1, show 7 * p + j - p * 7 = j by omega]
    match j, hj with
    | 0, _ => rfl
    | 1, _ => rfl
    | 2, _ => rfl
    | 3, _ => rfl
    | 4, _ => rfl
    | 5, _ => rfl
    | 6, _ => rfl
  · rw [upd_other _ _ hpm, List.getElem?_append_left (by rw [h.1]; omega)]
    exact h.2 p j (by omega) hj
/-- The row of what is held: owned, from B on. -/
def LRow (B : Nat) (w : World) (v : Value) (m : Nat) (HL : Nat → Held) : Prop := ∃ xs, w.ownsRow B 33 7 v m xs ∧ LIs xs m HL
theorem LRow.nil (B : Nat) (w : World) (HL : Nat → Held) : LRow B w (.slice none 0 0) 0 HL := ⟨[], World.ownsRow_nil _ _ _ _, rfl, fun p j hp _ => by omega⟩
theorem LRow.keep {B : Nat} {w w' : World} {v : Value} {m : Nat} {HL : Nat → Held} (h : LRow B w v m HL) {l : List Nat} (ht : Turned l w w') (hn : ∀ g, v.ownBlock = some g → g ∉ l) : LRow B w' v m HL := by
  obtain ⟨xs, ho, hx⟩ := h
  refine ⟨xs, ?_, hx⟩
  cases hv : v.ownBlock with
  | none =>
    rcases ho.2 with ⟨rfl, rfl⟩ | ⟨g, cap, cur, rfl, -⟩
    · exact ⟨ho.1, .inl ⟨rfl, rfl⟩⟩
    · simp [Value.ownBlock] at hv
  | some g =>
    rcases ho.2 with ⟨rfl, rfl⟩ | ⟨g', cap, cur, rfl, h1, h2, h3⟩
    · simp [Value.ownBlock] at hv
    · simp only [Value.ownBlock, Option.some.injEq] at hv
      subst hv
      exact ⟨ho.1, .inr ⟨g', cap, cur, rfl, h1, ht.heap h2 (hn g' rfl), h3⟩⟩
theorem LRow.form {B : Nat} {w : World} {v : Value} {m : Nat} {HL : Nat → Held} (h : LRow B w v m HL) (hm : 0 < m) : ∃ g cap, v = .slice (some ⟨g, 0, none⟩) m cap ∧ B ≤ g ∧ g < w.heap.size ∧ m ≤ cap := by
  obtain ⟨xs, ho, hx⟩ := h
  rcases ho.2 with ⟨rfl, rfl⟩ | ⟨g', cap, cur, rfl, h1, h2, h3, -⟩
  · omega
  · exact ⟨g', cap, rfl, h1, lt_of_heap h2, h3⟩
theorem LRow.shape {B : Nat} {w : World} {v : Value} {m : Nat} {HL : Nat → Held} (h : LRow B w v m HL) : ∃ a cap, v = .slice a m cap := by
  obtain ⟨xs, ho, hx⟩ := h
  rcases ho.2 with ⟨rfl, rfl⟩ | ⟨g', cap, cur, rfl, h1, h2, h3, -⟩
  · exact ⟨none, 0, rfl⟩
  · exact ⟨_, cap, rfl⟩
theorem LRow.cell {B : Nat} {w : World} {g cap m : Nat} {HL : Nat → Held} (h : LRow B w (.slice (some ⟨g, 0, none⟩) m cap) m HL) {p j : Nat} (hp : p < m) (hj : j < 7) : w.cell? ⟨g, 7 * p + j, none⟩ = some (fld (HL p) j) := by
  obtain ⟨xs, ho, hx⟩ := h
  rw [ho.cellAt _ (by omega)]
  exact hx.2 p j hp hj
theorem LRow.froz {B : Nat} {w : World} {g cap m : Nat} {HL : Nat → Held} (h : LRow B w (.slice (some ⟨g, 0, none⟩) m cap) m HL) (j : Nat) : w.frozen? ⟨g, j, none⟩ = false := by
  obtain ⟨xs, ho, hx⟩ := h
  exact ho.frozenAt _
/-- A cell is written: what it then holds. -/
theorem LRow.put {B : Nat} {w : World} {g cap m : Nat} {HL : Nat → Held} (h : LRow B w (.slice (some ⟨g, 0, none⟩) m cap) m HL) {p j : Nat} (hp : p < m) (hj : j < 7) {e : Held} {u : Value} (hu : u = fld e j) (he : ∀ k, k < 7 → k ≠ j → fld e k = fld (HL p) k) :
    LRow B (w.setCell ⟨g, 7 * p + j, none⟩ u) (.slice (some ⟨g, 0, none⟩) m cap) m (upd HL p e) := by
  obtain ⟨xs, ho, hx⟩ := h
  refine ⟨_, (ho.stored (7 * p + j) u).1, by simp [hx.1], fun q k hq hk => ?_⟩
  rw [List.getElem?_set]
  by_cases e1 : 7 * p + j = 7 * q + k
  · have : p = q := by omega
    subst this
    have : j = k := by omega
    subst this
    have hl := hx.1
    rw [if_pos rfl, if_pos (by omega), upd_same, hu]
  · rw [if_neg e1]
    by_cases e2 : q = p
    · subst e2
      have : k ≠ j := fun x => e1 (by rw [x])
      rw [upd_same, he k hk this]
      exact hx.2 q k hq hk
    · rw [upd_other _ _ e2]
      exact hx.2 q k hq hk
/-- The last one is let go. -/
theorem LRow.pop {B : Nat} {w : World} {g cap m : Nat} {HL : Nat → Held} (h : LRow B w (.slice (some ⟨g, 0, none⟩) (m + 1) cap) (m + 1) HL) : LRow B w (.slice (some ⟨g, 0, none⟩) m cap) m HL := by
  obtain ⟨xs, ho, hx⟩ := h
  have hl := hx.1
  refine ⟨xs.take (m * 7), ?_, by simp [hl], fun p j hp hj => ?_⟩
  · have : xs = xs.take (m * 7) ++ xs.drop (m * 7) := (List.take_append_drop _ _).symm
    rw [this] at ho
    exact ownsRow_pop (by simp [hl]) ho
  · rw [List.getElem?_take, if_pos (by omega)]
    exact hx.2 p j (by omega) hj
theorem LRow.obj {B : Nat} {w : World} {v : Value} {m : Nat} {HL : Nat → Held} (h : LRow B w v m HL) {g : Nat} (hg : v.ownBlock = some g) : ∃ cur, w.heap[g]? = some (.cells cur 33 (0, 0)) := by
  obtain ⟨xs, ho, hx⟩ := h
  rcases ho.2 with ⟨rfl, rfl⟩ | ⟨g', cap, cur, rfl, h1, h2, h3⟩
  · simp [Value.ownBlock] at hg
  · simp only [Value.ownBlock, Option.some.injEq] at hg
    subst hg
    exact ⟨cur, h2⟩
theorem infoHeld : (Try.prog.info? 33).map (fun i => (i.zero, i.size, i.bytes)) = some (some (.agg #[.int .i64 0, .int .i64 0, .int .i64 0, .int .i64 0, .int .i64 0, .int .i64 0, .int .i64 0]), 7, 56) := by kernel_rfl
theorem undHelds : Try.prog.underlying 28 = some (.slice 33) := by kernel_rfl
/-- 'append(l, e)' as a law for the walk. -/
theorem wpList_pushHeld {w : World} {ops : Array Oper} {rest : List Oper} {o : Oper} {a : Act} {Q : Exit → Act → World → Prop} {B : Nat} {v : Value} {m : Nat} {HL : Nat → Held} (hgd : o.guard = none) (x y : Operand) (ho : o.op = .call { callee := .builtin .append, args := #[x, y], argTypes := #[28, 28] })
    (hs : a.eval x = v) (hr : LRow B w v m HL) (g c : Nat) (e : Held) (hy : a.eval y = .slice (some ⟨g, 0, none⟩) 1 c) (hg : ∀ j, j < 7 → w.cell? ⟨g, j, none⟩ = some (fld e j)) (hm : m ≤ 1000000) (hB : B ≤ w.heap.size)
    (h : ∀ v' w', LRow B w' v' (m + 1) (upd HL m e) → w.grownBy w' v.ownBlock → wpList Try.prog ops Q rest (a.put o.dst v') w') : wpList Try.prog ops Q (o :: rest) a w := by
  obtain ⟨i, hi, hzz⟩ := Option.map_eq_some_iff.1 infoHeld
  simp only [Prod.mk.injEq] at hzz
  obtain ⟨hz, hs1, hb⟩ := hzz
  obtain ⟨xs, hown, hx⟩ := hr
  refine wpList_append_own w hgd x y 28 ho B 33 i _ 7 56 undHelds hi hz hs1 hb rfl (by decide) v m xs hs hown ⟨g, 0, none⟩ 1 c (row7 e) hy rfl ?_ ?_ (by unfold maxLen; omega) (by omega) hB fun v' w' h2 h3 _ => h v' w' ⟨_, h2, hx.push e⟩ h3
  · intro j u hj
    have hadd : (⟨g, 0, none⟩ : Addr).add j = ⟨g, j, none⟩ := by unfold Addr.add; split <;> simp_all
    rw [hadd]
    match j, hj with
    | 0, hj => rw [hg 0 (by omega)]; exact hj
    | 1, hj => rw [hg 1 (by omega)]; exact hj
    | 2, hj => rw [hg 2 (by omega)]; exact hj
    | 3, hj => rw [hg 3 (by omega)]; exact hj
    | 4, hj => rw [hg 4 (by omega)]; exact hj
    | 5, hj => rw [hg 5 (by omega)]; exact hj
    | 6, hj => rw [hg 6 (by omega)]; exact hj
    | n + 7, hj => simp [row7] at hj
  · intro u hu
    simp only [row7, List.mem_cons, List.not_mem_nil, or_false] at hu
    rcases hu with rfl | rfl | rfl | rfl | rfl | rfl | rfl <;> rfl
/-- A slot as it is told. -/
def sfld (s : Slot) : Nat → Value
  | 0 => .int .i64 s.gen
  | 1 => .int .i64 s.a
  | 2 => .int .i64 s.b
  | 3 => .int .i64 s.c
  | 4 => .int .i64 s.d
  | 5 => .int .i64 s.mark
  | _ => .int .i64 s.link
/-- What a call added to the pool's memory is new. -/
def Wider (F F' : List Nat) (w : World) : Prop := ∀ x, x ∈ F' → x ∈ F ∨ w.heap.size ≤ x
/-- The contracts of package pool, alone. At w p F s: the pool at block p, its memory the blocks F, is s. -/
structure PoolLaws (At : World → Nat → List Nat → PSt → Prop) : Prop where
  keep : ∀ {w w' : World} {p : Nat} {F l : List Nat} {s : PSt}, At w p F s → Turned l w w' → (∀ x, x ∈ l → x ∉ F) → At w' p F s
  lt : ∀ {w : World} {p : Nat} {F : List Nat} {s : PSt}, At w p F s → ∀ x, x ∈ F → x < w.heap.size
  alien : ∀ {w : World} {p : Nat} {F : List Nat} {s : PSt}, At w p F s → ∀ x, x ∈ F → ∀ cur : Array Value, w.heap[x]? ≠ some (.cells cur 33 (0, 0))
  new : ∀ (w : World) (n : Nat), 1 ≤ n → n ≤ 4096 → Calls Try.prog 5 #[.int .i64 n] w fun e w' => ∃ p F, e = .returned (.tuple #[.pointer (some ⟨p, 0, none⟩), .int .i64 0]) ∧ Turned [] w w' ∧ At w' p F (PSt.new n) ∧ ∀ x, x ∈ F → w.heap.size ≤ x
  take : ∀ {w : World} {p : Nat} {F : List Nat} {s : PSt} {i : Nat}, At w p F s → s.Ok → idxV s.h = i → i ≠ 0 → 0 ≤ (s.slot i).gen → (s.slot i).gen ≤ 1099511627774 → ∀ a b c d link : Int,
    Calls Try.prog 8 #[.pointer (some ⟨p, 0, none⟩), .pointer none, .agg #[.int .i64 a, .int .i64 b, .int .i64 c, .int .i64 d], .int .i64 link] w fun e w' => e = .returned (.tuple #[.int .i64 (hnd i ((s.slot i).gen + 1)), .int .i64 0]) ∧ Turned F w w' ∧ ∃ F', At w' p F' (s.take i a b c d link) ∧ Wider F F' w
  takeFull : ∀ {w : World} {p : Nat} {F : List Nat} {s : PSt}, At w p F s → s.Ok → idxV s.h = 0 → ∀ a b c d link : Int,
    Calls Try.prog 8 #[.pointer (some ⟨p, 0, none⟩), .pointer none, .agg #[.int .i64 a, .int .i64 b, .int .i64 c, .int .i64 d], .int .i64 link] w fun e w' => e = .returned (.tuple #[.int .i64 0, .int .i64 102]) ∧ Turned F w w' ∧ At w' p F s
  give : ∀ {w : World} {p : Nat} {F : List Nat} {s : PSt} {i : Nat} {g : Int}, At w p F s → s.Ok → 1 ≤ i → i ≤ s.n → 0 ≤ g → g ≤ 1099511627774 → g % 2 = 1 → (s.slot i).gen = g →
    Calls Try.prog 9 #[.pointer (some ⟨p, 0, none⟩), .pointer none, .int .i64 (hnd i g)] w fun e w' => e = .returned (.int .i64 0) ∧ Turned F w w' ∧ ∃ F', At w' p F' (s.give i (-7777777)) ∧ Wider F F' w
  giveGone : ∀ {w : World} {p : Nat} {F : List Nat} {s : PSt} {i : Nat} {g : Int}, At w p F s → s.Ok → 1 ≤ i → i ≤ s.n → 0 ≤ g → g ≤ 1099511627774 → g % 2 = 1 → (s.slot i).gen ≠ g →
    Calls Try.prog 9 #[.pointer (some ⟨p, 0, none⟩), .pointer none, .int .i64 (hnd i g)] w fun e w' => e = .returned (.int .i64 104) ∧ Turned F w w' ∧ At w' p F s
  read : ∀ {w : World} {p : Nat} {F : List Nat} {s : PSt} {i : Nat} {g : Int}, At w p F s → s.Ok → 1 ≤ i → i ≤ s.n → 0 ≤ g → g ≤ 1099511627774 → g % 2 = 1 → (s.slot i).gen = g →
    Calls Try.prog 10 #[.pointer (some ⟨p, 0, none⟩), .pointer none, .int .i64 (hnd i g)] w fun e w' => e = .returned (.tuple #[.agg #[.int .i64 (s.slot i).a, .int .i64 (s.slot i).b, .int .i64 (s.slot i).c, .int .i64 (s.slot i).d], .int .i64 0]) ∧ Turned F w w' ∧ At w' p F s
  readGone : ∀ {w : World} {p : Nat} {F : List Nat} {s : PSt} {i : Nat} {g : Int}, At w p F s → s.Ok → 1 ≤ i → i ≤ s.n → 0 ≤ g → g ≤ 1099511627774 → g % 2 = 1 → (s.slot i).gen ≠ g → 0 ≤ s.faults → s.faults ≤ 1000000 →
    Calls Try.prog 10 #[.pointer (some ⟨p, 0, none⟩), .pointer none, .int .i64 (hnd i g)] w fun e w' => e = .returned (.tuple #[.agg #[.int .i64 0, .int .i64 0, .int .i64 0, .int .i64 0], .int .i64 104]) ∧ Turned F w w' ∧ At w' p F s.fault
  readBad : ∀ {w : World} {p : Nat} {F : List Nat} {s : PSt} {x : Int}, At w p F s → s.Ok → (idxV x < 1 ∨ s.n < idxV x ∨ tagV x % 2 = 0) →
    Calls Try.prog 10 #[.pointer (some ⟨p, 0, none⟩), .pointer none, .int .i64 x] w fun e w' => e = .returned (.tuple #[.agg #[.int .i64 0, .int .i64 0, .int .i64 0, .int .i64 0], .int .i64 103]) ∧ Turned F w w' ∧ At w' p F s
  slots : ∀ {w : World} {p : Nat} {F : List Nat} {s : PSt}, At w p F s → s.Ok → Calls Try.prog 17 #[.pointer (some ⟨p, 0, none⟩)] w fun e w' => Turned F w w' ∧ At w' p F s ∧ ∃ (g c : Nat) (cs : Array Value), e = .returned (.slice (some ⟨g, 0, none⟩) s.n c) ∧ w.heap.size ≤ g ∧ w'.heap[g]? = some (.cells cs 52 (0, 0)) ∧ ∀ j k, j < s.n → k < 7 → cs[7 * j + k]? = some (sfld (s.slot (j + 1)) k)
  mark : ∀ {w : World} {p : Nat} {F : List Nat} {s : PSt} {i : Nat} {g : Int}, At w p F s → s.Ok → 1 ≤ i → i ≤ s.n → 0 ≤ g → g ≤ 1099511627774 → g % 2 = 1 → (s.slot i).gen = g →
    Calls Try.prog 11 #[.pointer (some ⟨p, 0, none⟩), .pointer none, .int .i64 (hnd i g)] w fun e w' => e = .returned (.tuple #[.int .i64 (s.slot i).mark, .int .i64 0]) ∧ Turned F w w' ∧ At w' p F s
  casMark : ∀ {w : World} {p : Nat} {F : List Nat} {s : PSt} {i : Nat} {g : Int}, At w p F s → s.Ok → 1 ≤ i → i ≤ s.n → 0 ≤ g → g ≤ 1099511627774 → g % 2 = 1 → (s.slot i).gen = g → ∀ old v : Int,
    Calls Try.prog 12 #[.pointer (some ⟨p, 0, none⟩), .pointer none, .int .i64 (hnd i g), .int .i64 old, .int .i64 v] w fun e w' => e = .returned (.tuple #[.bool ((s.slot i).mark == old), .int .i64 0]) ∧ Turned F w w' ∧ At w' p F (if (s.slot i).mark = old then s.putMark i v else s)
  swapLink : ∀ {w : World} {p : Nat} {F : List Nat} {s : PSt} {i : Nat} {g : Int}, At w p F s → s.Ok → 1 ≤ i → i ≤ s.n → 0 ≤ g → g ≤ 1099511627774 → g % 2 = 1 → (s.slot i).gen = g → ∀ v : Int,
    Calls Try.prog 13 #[.pointer (some ⟨p, 0, none⟩), .pointer none, .int .i64 (hnd i g), .int .i64 v] w fun e w' => e = .returned (.tuple #[.int .i64 (s.slot i).link, .int .i64 0]) ∧ Turned F w w' ∧ At w' p F (s.putLink i v)
  faults : ∀ {w : World} {p : Nat} {F : List Nat} {s : PSt}, At w p F s → Calls Try.prog 14 #[.pointer (some ⟨p, 0, none⟩)] w fun e w' => e = .returned (.int .i64 s.faults) ∧ Turned F w w' ∧ At w' p F s
  free : ∀ {w : World} {p : Nat} {F : List Nat} {s : PSt} {St : List Nat}, At w p F s → s.Ok → Linked s.f (idxV s.h).toNat St → St.Nodup → (∀ x, x ∈ St → 1 ≤ x ∧ x ≤ s.n) → Calls Try.prog 15 #[.pointer (some ⟨p, 0, none⟩)] w fun e w' => (∃ a c, e = .returned (.slice a St.length c)) ∧ Turned F w w' ∧ At w' p F s
end Go.Proofs.Ytfebndolnnaiiab
