/- A pool by its laws. -/
import Derived.Test.YtjbhnpofdafmbaaGreatDoorRows
import Derived.Test.YtjbhnpofdafmbaaGreatDoorJ25
import Derived.Test.YtjbhnpofdafmbaaGreatDoorJ10
import Derived.WalkSmall
import Derived.Laws.OwnMore
import Derived.Test.YtjbhnpofdafmbaaGreatDoorJ04
import Derived.Test.YtjbhnpofdafmbaaGreatDoorJ11
import Derived.Test.YtjbhnpofdafmbaaGreatDoorJ13
import Derived.Test.YtjbhnpofdafmbaaGreatDoorJ12
namespace Go.Proofs.YtjbhnpofdafmbaaGreatDoor
open Go.RowKit
/-- A slot as it is told. -/
def sfld (s : Slot) : Nat → Value
  | 0 => .int .i64 s.gen
  | 1 => .int .i64 s.a
  | 2 => .int .i64 s.b
  | 3 => .int .i64 s.c
  | 4 => .int .i64 s.d
  | 5 => .int .i64 s.mark
  | _ => .int .i64 s.link
/-- What a call added to the pool's memory is new. -/
def Wider (F F' : List Nat) (w : World) : Prop := ∀ x, x ∈ F' → x ∈ F ∨ w.heap.size ≤ x
/-- The contracts of package pool, alone. At w p F s: the pool at block p, its memory the blocks F, is s. -/
structure PoolLaws (At : World → Nat → List Nat → PSt → Prop) : Prop where
  keep : ∀ {w w' : World} {p : Nat} {F l : List Nat} {s : PSt}, At w p F s → Turned l w w' → (∀ x, x ∈ l → x ∉ F) → At w' p F s
  lt : ∀ {w : World} {p : Nat} {F : List Nat} {s : PSt}, At w p F s → ∀ x, x ∈ F → x < w.heap.size
  new : ∀ (w : World) (n : Nat), 1 ≤ n → n ≤ 4096 → Calls Tryz.prog 9 #[.int .i64 n] w fun e w' => ∃ p F, e = .returned (.tuple #[.pointer (some ⟨p, 0, none⟩), .int .i64 0]) ∧ Turned [] w w' ∧ At w' p F (PSt.new n) ∧ ∀ x, x ∈ F → w.heap.size ≤ x
  take : ∀ {w : World} {p : Nat} {F : List Nat} {s : PSt} {i : Nat}, At w p F s → s.Ok → idxV s.h = i → i ≠ 0 → 0 ≤ (s.slot i).gen → (s.slot i).gen ≤ 1099511627774 → ∀ a b c d link : Int,
    Calls Tryz.prog 12 #[.pointer (some ⟨p, 0, none⟩), .pointer none, .agg #[.int .i64 a, .int .i64 b, .int .i64 c, .int .i64 d], .int .i64 link] w fun e w' => e = .returned (.tuple #[.int .i64 (hnd i ((s.slot i).gen + 1)), .int .i64 0]) ∧ Turned F w w' ∧ ∃ F', At w' p F' (s.take i a b c d link) ∧ Wider F F' w
  takeFull : ∀ {w : World} {p : Nat} {F : List Nat} {s : PSt}, At w p F s → s.Ok → idxV s.h = 0 → ∀ a b c d link : Int,
    Calls Tryz.prog 12 #[.pointer (some ⟨p, 0, none⟩), .pointer none, .agg #[.int .i64 a, .int .i64 b, .int .i64 c, .int .i64 d], .int .i64 link] w fun e w' => e = .returned (.tuple #[.int .i64 0, .int .i64 102]) ∧ Turned F w w' ∧ At w' p F s
  give : ∀ {w : World} {p : Nat} {F : List Nat} {s : PSt} {i : Nat} {g : Int}, At w p F s → s.Ok → 1 ≤ i → i ≤ s.n → 0 ≤ g → g ≤ 1099511627774 → g % 2 = 1 → (s.slot i).gen = g →
    Calls Tryz.prog 13 #[.pointer (some ⟨p, 0, none⟩), .pointer none, .int .i64 (hnd i g)] w fun e w' => e = .returned (.int .i64 0) ∧ Turned F w w' ∧ ∃ F', At w' p F' (s.give i (-7777777)) ∧ Wider F F' w
  giveGone : ∀ {w : World} {p : Nat} {F : List Nat} {s : PSt} {i : Nat} {g : Int}, At w p F s → s.Ok → 1 ≤ i → i ≤ s.n → 0 ≤ g → g ≤ 1099511627775 → g % 2 = 1 → (s.slot i).gen ≠ g →
    Calls Tryz.prog 13 #[.pointer (some ⟨p, 0, none⟩), .pointer none, .int .i64 (hnd i g)] w fun e w' => e = .returned (.int .i64 104) ∧ Turned F w w' ∧ At w' p F s
  read : ∀ {w : World} {p : Nat} {F : List Nat} {s : PSt} {i : Nat} {g : Int}, At w p F s → s.Ok → 1 ≤ i → i ≤ s.n → 0 ≤ g → g ≤ 1099511627775 → g % 2 = 1 → (s.slot i).gen = g →
    Calls Tryz.prog 15 #[.pointer (some ⟨p, 0, none⟩), .pointer none, .int .i64 (hnd i g)] w fun e w' => e = .returned (.tuple #[.agg #[.int .i64 (s.slot i).a, .int .i64 (s.slot i).b, .int .i64 (s.slot i).c, .int .i64 (s.slot i).d], .int .i64 0]) ∧ Turned F w w' ∧ At w' p F s
  readGone : ∀ {w : World} {p : Nat} {F : List Nat} {s : PSt} {i : Nat} {g : Int}, At w p F s → s.Ok → 1 ≤ i → i ≤ s.n → 0 ≤ g → g ≤ 1099511627775 → g % 2 = 1 → (s.slot i).gen ≠ g → 0 ≤ s.faults → s.faults ≤ 1000000 →
    Calls Tryz.prog 15 #[.pointer (some ⟨p, 0, none⟩), .pointer none, .int .i64 (hnd i g)] w fun e w' => e = .returned (.tuple #[.agg #[.int .i64 0, .int .i64 0, .int .i64 0, .int .i64 0], .int .i64 104]) ∧ Turned F w w' ∧ At w' p F s.fault
  readBad : ∀ {w : World} {p : Nat} {F : List Nat} {s : PSt} {x : Int}, At w p F s → s.Ok → (idxV x < 1 ∨ s.n < idxV x ∨ tagV x % 2 = 0) →
    Calls Tryz.prog 15 #[.pointer (some ⟨p, 0, none⟩), .pointer none, .int .i64 x] w fun e w' => e = .returned (.tuple #[.agg #[.int .i64 0, .int .i64 0, .int .i64 0, .int .i64 0], .int .i64 103]) ∧ Turned F w w' ∧ At w' p F s
  slots : ∀ {w : World} {p : Nat} {F : List Nat} {s : PSt}, At w p F s → s.Ok → Calls Tryz.prog 14 #[.pointer (some ⟨p, 0, none⟩)] w fun e w' => Turned F w w' ∧ At w' p F s ∧ ∃ (g c : Nat) (cs : Array Value), e = .returned (.slice (some ⟨g, 0, none⟩) s.n c) ∧ w.heap.size ≤ g ∧ w'.heap[g]? = some (.cells cs 64 (0, 0)) ∧ ∀ j k, j < s.n → k < 7 → cs[7 * j + k]? = some (sfld (s.slot (j + 1)) k)
  mark : ∀ {w : World} {p : Nat} {F : List Nat} {s : PSt} {i : Nat} {g : Int}, At w p F s → s.Ok → 1 ≤ i → i ≤ s.n → 0 ≤ g → g ≤ 1099511627775 → g % 2 = 1 → (s.slot i).gen = g →
    Calls Tryz.prog 23 #[.pointer (some ⟨p, 0, none⟩), .pointer none, .int .i64 (hnd i g)] w fun e w' => e = .returned (.tuple #[.int .i64 (s.slot i).mark, .int .i64 0]) ∧ Turned F w w' ∧ At w' p F s
  casMark : ∀ {w : World} {p : Nat} {F : List Nat} {s : PSt} {i : Nat} {g : Int}, At w p F s → s.Ok → 1 ≤ i → i ≤ s.n → 0 ≤ g → g ≤ 1099511627775 → g % 2 = 1 → (s.slot i).gen = g → ∀ old v : Int,
    Calls Tryz.prog 25 #[.pointer (some ⟨p, 0, none⟩), .pointer none, .int .i64 (hnd i g), .int .i64 old, .int .i64 v] w fun e w' => e = .returned (.tuple #[.bool ((s.slot i).mark == old), .int .i64 0]) ∧ Turned F w w' ∧ At w' p F (if (s.slot i).mark = old then s.putMark i v else s)
  swapLink : ∀ {w : World} {p : Nat} {F : List Nat} {s : PSt} {i : Nat} {g : Int}, At w p F s → s.Ok → 1 ≤ i → i ≤ s.n → 0 ≤ g → g ≤ 1099511627775 → g % 2 = 1 → (s.slot i).gen = g → ∀ v : Int,
    Calls Tryz.prog 29 #[.pointer (some ⟨p, 0, none⟩), .pointer none, .int .i64 (hnd i g), .int .i64 v] w fun e w' => e = .returned (.tuple #[.int .i64 (s.slot i).link, .int .i64 0]) ∧ Turned F w w' ∧ At w' p F (s.putLink i v)
  faults : ∀ {w : World} {p : Nat} {F : List Nat} {s : PSt}, At w p F s → Calls Tryz.prog 16 #[.pointer (some ⟨p, 0, none⟩)] w fun e w' => e = .returned (.int .i64 s.faults) ∧ Turned F w w' ∧ At w' p F s
  free : ∀ {w : World} {p : Nat} {F : List Nat} {s : PSt} {St : List Nat}, At w p F s → s.Ok → Linked s.f (idxV s.h).toNat St → St.Nodup → (∀ x, x ∈ St → 1 ≤ x ∧ x ≤ s.n) → Calls Tryz.prog 34 #[.pointer (some ⟨p, 0, none⟩)] w fun e w' => (∃ a c, e = .returned (.slice a St.length c)) ∧ Turned F w w' ∧ At w' p F s
end Go.Proofs.YtjbhnpofdafmbaaGreatDoor
/- sync/atomic's Int64, alone: Add, Swap. -/
namespace Go.Proofs.YtjbhnpofdafmbaaGreatDoor
open Go.RowKit
theorem cAAdd {a : Addr} {x y : Int} {w : World} (hc : w.cell? a = some (.int .i64 x)) (hz : w.frozen? a = false) (h0 : -9223372036854775808 ≤ x + y) (h1 : x + y ≤ 9223372036854775807) : Calls Tryz.prog 115 #[.pointer (some a), .int .i64 y] w fun e w' => e = .returned (.int .i64 (x + y)) ∧ w' = w.setCell a (.int .i64 (x + y)) := by
  have hs : (Op.intArith .add .i64 x y).run Tryz.prog w = .ok (.int .i64 (x + y)) w := by
    have hw : IntKind.i64.wrap (x + y) = x + y := by simp [IntKind.wrap, IntKind.bits, IntKind.signed]; omega
    simp [Op.intArith, hw]
  have hl := run_call_add (P := Tryz.prog) Tryz.func137 (by kernel_rfl) (by kernel_rfl) (by kernel_rfl) .i64 (by kernel_rfl) hc hz hs
  obtain ⟨B, o, sp⟩ := a
  go_enter Tryz.func115, Tryz.ntmps115
  go_wp2
  go_ret
  exact ⟨rfl, rfl⟩
theorem run_swap64 {a : Addr} {x y : Int} {w : World} (hc : w.cell? a = some (.int .i64 x)) (hz : w.frozen? a = false) : (callFunc 125 #[.pointer (some a), .int .i64 y]).run Tryz.prog w = .ok (.value (.int .i64 x)) (w.setCell a (.int .i64 y)) := by
  rw [run_callFunc_extern (P := Tryz.prog) Tryz.func125 (by kernel_rfl) (by kernel_rfl) (by kernel_rfl) (e := Extern.Atomic.swapT (.int .i64)) (by kernel_rfl)]
  change (Sem.run Tryz.prog (do
    let a ← asAddr (.pointer (some a))
    let old ← Extern.Atomic.read (.int .i64) a
    store a (.int .i64 y) .atomic
    pure old) w).andThen _ = _
  simp [Extern.Atomic.read, asAddr, hc, hz, run_store Tryz.prog w a (.int .i64 y) .atomic rfl, Result.andThen]
theorem cASwap {a : Addr} {x y : Int} {w : World} (hc : w.cell? a = some (.int .i64 x)) (hz : w.frozen? a = false) : Calls Tryz.prog 84 #[.pointer (some a), .int .i64 y] w fun e w' => e = .returned (.int .i64 x) ∧ w' = w.setCell a (.int .i64 y) := by
  have hl := run_swap64 (y := y) hc hz
  obtain ⟨B, o, sp⟩ := a
  go_enter Tryz.func84, Tryz.ntmps84
  go_wp2
  go_ret
  exact ⟨rfl, rfl⟩
end Go.Proofs.YtjbhnpofdafmbaaGreatDoor
/- A pool in memory: its slots lead each to what it is in one generation. -/
namespace Go.Proofs.YtjbhnpofdafmbaaGreatDoor
open Go.RowKit
abbrev lifeObj (S : Slot) : Obj := .cells #[.int .i64 S.gen, .int .i64 S.a, .int .i64 S.b, .int .i64 S.c, .int .i64 S.d, .int .i64 S.mark, .int .i64 S.link] 107 (0, 0)
abbrev ptrObj (L : Nat → Nat) (n : Nat) : Obj := .cells ((List.range (n + 1)).map fun k => Value.pointer (some ⟨L k, 0, none⟩)).toArray 111 (0, 0)
abbrev poolObj (sb pb n : Nat) (fa : Int) : Obj := .cells #[.slice (some ⟨sb, 0, none⟩) (n + 1) (n + 1), .pointer (some ⟨pb, 0, none⟩), .int .i64 fa] 104 (0, 0)
structure PA (w : World) (p sb pb nb : Nat) (L : Nat → Nat) (s : PSt) : Prop where
  pool : w.heap[p]? = some (poolObj sb pb s.n s.faults)
  slots : w.heap[sb]? = some (ptrObj L s.n)
  life : ∀ i, i ≤ s.n → w.heap[L i]? = some (lifeObj (s.slot i))
  pile : PileAt w pb nb s.n s.h (fun k => (s.f k : Int))
  once : ∀ i j, i ≤ s.n → j ≤ s.n → i ≠ j → L i = L j → (s.slot i).gen = 0
theorem ptr_cell {w : World} {sb n : Nat} {L : Nat → Nat} (h : w.heap[sb]? = some (ptrObj L n)) {k : Nat} (hk : k ≤ n) : w.cell? ⟨sb, k, none⟩ = some (.pointer (some ⟨L k, 0, none⟩)) := by
  rw [cell_at h, List.getElem?_toArray, List.getElem?_map, List.getElem?_range (by omega)]; rfl
theorem ptr_put {w : World} {sb n : Nat} {L : Nat → Nat} (h : w.heap[sb]? = some (ptrObj L n)) {k : Nat} (v : Nat) : (w.setCell ⟨sb, k, none⟩ (.pointer (some ⟨v, 0, none⟩))).heap[sb]? = some (ptrObj (upd L k v) n) := by
  rw [blk_set h]
  congr 2
  apply Array.ext
  · simp
  · intro i h1 h2
    simp only [List.size_toArray, List.length_map, List.length_range] at h2
    by_cases e : i = k
    · subst e; simp [upd]
    · have e' : ¬ k = i := fun x => e x.symm
      simp [upd, e, e']
theorem other_type {w : World} {a b : Nat} {x y : Array Value} {S T : TypeId} (ha : w.heap[a]? = some (.cells x S (0, 0))) (hb : w.heap[b]? = some (.cells y T (0, 0))) (h : S ≠ T) : a ≠ b := fun e => by
  subst e
  rw [ha] at hb
  injection hb with hb
  injection hb with _ hb
  exact h hb
section
variable {w : World} {p sb pb nb : Nat} {L : Nat → Nat} {s : PSt} {i : Nat}
theorem PA.d1 (h : PA w p sb pb nb L s) : p ≠ sb := other_type h.pool h.slots (by decide)
theorem PA.d2 (h : PA w p sb pb nb L s) : p ≠ pb := other_type h.pool h.pile.head (by decide)
theorem PA.d3 (h : PA w p sb pb nb L s) : p ≠ nb := other_type h.pool h.pile.next (by decide)
theorem PA.d4 (h : PA w p sb pb nb L s) : sb ≠ pb := other_type h.slots h.pile.head (by decide)
theorem PA.d5 (h : PA w p sb pb nb L s) : sb ≠ nb := other_type h.slots h.pile.next (by decide)
theorem PA.l1 (h : PA w p sb pb nb L s) (hi : i ≤ s.n) : L i ≠ p := other_type (h.life i hi) h.pool (by decide)
theorem PA.l2 (h : PA w p sb pb nb L s) (hi : i ≤ s.n) : L i ≠ sb := other_type (h.life i hi) h.slots (by decide)
theorem PA.l3 (h : PA w p sb pb nb L s) (hi : i ≤ s.n) : L i ≠ pb := other_type (h.life i hi) h.pile.head (by decide)
theorem PA.l4 (h : PA w p sb pb nb L s) (hi : i ≤ s.n) : L i ≠ nb := other_type (h.life i hi) h.pile.next (by decide)
def blocks (p sb pb nb : Nat) (L : Nat → Nat) (n : Nat) : List Nat := [p, sb, pb, nb] ++ (List.range (n + 1)).map L
theorem mem_life {n : Nat} (hi : i ≤ n) : L i ∈ blocks p sb pb nb L n := List.mem_append_right _ (List.mem_map.2 ⟨i, List.mem_range.2 (by omega), rfl⟩)
theorem mem_blocks {n x : Nat} (h : x ∈ blocks p sb pb nb L n) : x = p ∨ x = sb ∨ x = pb ∨ x = nb ∨ ∃ k, k ≤ n ∧ x = L k := by
  rcases List.mem_append.1 h with h | h
  · simp at h
    rcases h with h | h | h | h
    · exact .inl h
    · exact .inr (.inl h)
    · exact .inr (.inr (.inl h))
    · exact .inr (.inr (.inr (.inl h)))
  · obtain ⟨k, hk, rfl⟩ := List.mem_map.1 h
    exact .inr (.inr (.inr (.inr ⟨k, by have := List.mem_range.1 hk; omega, rfl⟩)))
/-- What isn't the pool's turned. -/
theorem PA.keep (h : PA w p sb pb nb L s) {l : List Nat} {w' : World} (ht : Turned l w w') (hl : ∀ x, x ∈ l → x ∉ blocks p sb pb nb L s.n) : PA w' p sb pb nb L s := by
  have m : ∀ x, x ∈ blocks p sb pb nb L s.n → x ∉ l := fun x hx hxl => hl x hxl hx
  exact ⟨ht.heap h.pool (m _ (by simp [blocks])), ht.heap h.slots (m _ (by simp [blocks])), fun i hi => ht.heap (h.life i hi) (m _ (mem_life hi)), ⟨ht.heap h.pile.head (m _ (by simp [blocks])), ht.heap h.pile.next (m _ (by simp [blocks])), h.pile.ne⟩, h.once⟩
theorem PA.lt (h : PA w p sb pb nb L s) : ∀ x, x ∈ blocks p sb pb nb L s.n → x < w.heap.size := fun x hx => by
  rcases mem_blocks hx with rfl | rfl | rfl | rfl | ⟨k, hk, rfl⟩
  · exact lt_of_heap h.pool
  · exact lt_of_heap h.slots
  · exact lt_of_heap h.pile.head
  · exact lt_of_heap h.pile.next
  · exact lt_of_heap (h.life k hk)
theorem PA.alloc (h : PA w p sb pb nb L s) (o : Obj) : PA (w.alloc o) p sb pb nb L s := h.keep ((Turned.refl [] w).alloc o) (by simp)
theorem PA.fault (h : PA w p sb pb nb L s) : PA (w.setCell ⟨p, 2, none⟩ (.int .i64 (s.faults + 1))) p sb pb nb L s.fault :=
  ⟨(blk_set h.pool 2 _).trans (by simp [PSt.fault]), (blk_other h.d1.symm _ _).trans h.slots, fun i hi => (blk_other (h.l1 hi) _ _).trans (h.life i hi), ⟨(blk_other h.d2.symm _ _).trans h.pile.head, (blk_other h.d3.symm _ _).trans h.pile.next, h.pile.ne⟩, h.once⟩
/-- A slot's life is written. -/
theorem PA.put (h : PA w p sb pb nb L s) (hi : i ≤ s.n) (hg : (s.slot i).gen ≠ 0) {j : Nat} {v : Value} {S : Slot} (hS : (w.setCell ⟨L i, j, none⟩ v).heap[L i]? = some (lifeObj S)) (hgS : S.gen = (s.slot i).gen) : PA (w.setCell ⟨L i, j, none⟩ v) p sb pb nb L { s with slot := upd s.slot i S } := by
  refine ⟨(blk_other (h.l1 hi).symm _ _).trans h.pool, (blk_other (h.l2 hi).symm _ _).trans h.slots, fun k hk => ?_, ⟨(blk_other (h.l3 hi).symm _ _).trans h.pile.head, (blk_other (h.l4 hi).symm _ _).trans h.pile.next, h.pile.ne⟩, fun a b ha hb hab he => ?_⟩
  · by_cases e : k = i
    · subst e
      show _ = some (lifeObj (upd s.slot k S k))
      rw [upd_same]
      exact hS
    · show _ = some (lifeObj (upd s.slot i S k))
      rw [upd_other _ _ e, blk_other (fun x => hg (h.once i k hi hk (fun y => e y.symm) x.symm))]
      exact h.life k hk
  · show (upd s.slot i S a).gen = 0
    by_cases e : a = i
    · subst e
      exact absurd (h.once a b ha hb hab he) hg
    · rw [upd_other _ _ e]
      exact h.once a b ha hb hab he
theorem PA.putMark (h : PA w p sb pb nb L s) (hi : i ≤ s.n) (hg : (s.slot i).gen ≠ 0) (v : Int) : PA (w.setCell ⟨L i, 5, none⟩ (.int .i64 v)) p sb pb nb L (s.putMark i v) :=
  h.put hi hg (S := { s.slot i with mark := v }) ((blk_set (h.life i hi) 5 _).trans (by simp)) rfl
theorem PA.putLink (h : PA w p sb pb nb L s) (hi : i ≤ s.n) (hg : (s.slot i).gen ≠ 0) (v : Int) : PA (w.setCell ⟨L i, 6, none⟩ (.int .i64 v)) p sb pb nb L (s.putLink i v) :=
  h.put hi hg (S := { s.slot i with link := v }) ((blk_set (h.life i hi) 6 _).trans (by simp)) rfl
/-- A slot gets another life. -/
theorem PA.lead (h : PA w p sb pb nb L s) {b : Nat} {S : Slot} (hi : i ≤ s.n) (hb : w.heap[b]? = some (lifeObj S)) (hn : ∀ k, k ≤ s.n → L k ≠ b) : PA (w.setCell ⟨sb, i, none⟩ (.pointer (some ⟨b, 0, none⟩))) p sb pb nb (upd L i b) { s with slot := upd s.slot i S } := by
  have hbs : b ≠ sb := other_type hb h.slots (by decide)
  refine ⟨(blk_other h.d1 _ _).trans h.pool, ptr_put h.slots b, fun k hk => ?_, ⟨(blk_other h.d4.symm _ _).trans h.pile.head, (blk_other h.d5.symm _ _).trans h.pile.next, h.pile.ne⟩, fun a c ha hc hac he => ?_⟩
  · by_cases e : k = i
    · subst e
      show _ = some (lifeObj (upd s.slot k S k))
      rw [upd_same, upd_same, blk_other hbs]
      exact hb
    · show _ = some (lifeObj (upd s.slot i S k))
      rw [upd_other _ _ e, upd_other _ _ e, blk_other (h.l2 hk)]
      exact h.life k hk
  · show (upd s.slot i S a).gen = 0
    by_cases e : a = i
    · subst e
      rw [upd_same, upd_other _ _ (fun x => hac x.symm)] at he
      exact absurd he.symm (hn c hc)
    · rw [upd_other _ _ e] at he ⊢
      by_cases e2 : c = i
      · subst e2
        rw [upd_same] at he
        exact absurd he (hn a ha)
      · rw [upd_other _ _ e2] at he
        exact h.once a c ha hc hac he
theorem PA.pop (h : PA w p sb pb nb L s) (v : Int) : PA (w.setCell ⟨pb, 0, none⟩ (.int .i64 v)) p sb pb nb L { s with h := v } :=
  ⟨(blk_other h.d2 _ _).trans h.pool, (blk_other h.d4 _ _).trans h.slots, fun i hi => (blk_other (h.l3 hi) _ _).trans (h.life i hi), ⟨(blk_set h.pile.head 0 _).trans (by simp), (blk_other h.pile.ne.symm _ _).trans h.pile.next, h.pile.ne⟩, h.once⟩
theorem PA.push (h : PA w p sb pb nb L s) (hi : i ≤ s.n) (h0 : 0 ≤ s.h) (v : Int) : PA ((w.drew.setCell ⟨nb, i, none⟩ (.int .i64 (idxV s.h))).setCell ⟨pb, 0, none⟩ (.int .i64 v)) p sb pb nb L { s with h := v, f := upd s.f i (idxV s.h).toNat } := by
  refine ⟨(blk_other h.d2 _ _).trans ((blk_other h.d3 _ _).trans h.pool), (blk_other h.d4 _ _).trans ((blk_other h.d5 _ _).trans h.slots), fun k hk => (blk_other (h.l3 hk) _ _).trans ((blk_other (h.l4 hk) _ _).trans (h.life k hk)), ⟨(blk_set ((blk_other h.pile.ne _ _).trans h.pile.head) 0 _).trans (by simp), ?_, h.pile.ne⟩, h.once⟩
  rw [blk_other h.pile.ne.symm, next_put (w := w.drew) h.pile.next hi]
  have := idx_nat h0
  congr 2
  congr 1
  congr 1
  funext k
  show upd (fun k => (s.f k : Int)) i (idxV s.h) k = ((upd s.f i (idxV s.h).toNat k : Nat) : Int)
  unfold upd
  by_cases e : k = i
  · simp only [e, if_true]; omega
  · simp only [e, if_false]
/-- With another life the pool's memory is wider by it. -/
theorem wider_lead {b : Nat} {w0 : World} {n : Nat} (hb : w0.heap.size ≤ b) : Wider (blocks p sb pb nb L n) (blocks p sb pb nb (upd L i b) n) w0 := fun x hx => by
  rcases mem_blocks hx with rfl | rfl | rfl | rfl | ⟨k, hk, rfl⟩
  · exact .inl (by simp [blocks])
  · exact .inl (by simp [blocks])
  · exact .inl (by simp [blocks])
  · exact .inl (by simp [blocks])
  · by_cases e : k = i
    · subst e; rw [upd_same]; exact .inr hb
    · rw [upd_other _ _ e]; exact .inl (mem_life hk)
end
end Go.Proofs.YtjbhnpofdafmbaaGreatDoor
/- Package pool's lives, by contract; a call as one operation of a region. -/
namespace Go.Proofs.YtjbhnpofdafmbaaGreatDoor
open Go.RowKit
abbrev nodeObj (a b c d : Int) : Obj := .cells #[.int .i64 a, .int .i64 b, .int .i64 c, .int .i64 d] 43 (0, 0)
/-- What newLife leaves. -/
def lifeW (w : World) (gen a b c d mark link : Int) : World := (w.alloc (nodeObj a b c d)).alloc (lifeObj ⟨gen, mark, link, a, b, c, d⟩)
theorem cNewLife (w : World) (gen a b c d mark link : Int) : Calls Tryz.prog 60 #[.int .i64 gen, .agg #[.int .i64 a, .int .i64 b, .int .i64 c, .int .i64 d], .int .i64 mark, .int .i64 link] w fun e w' => e = .returned (.pointer (some ⟨w.heap.size + 1, 0, none⟩)) ∧ w' = lifeW w gen a b c d mark link := by
  go_enter Tryz.func60, Tryz.ntmps60
  go_wp2_with (go_at_call 106; refine (cAStoreE (by go_simp) (by go_simp)).mono ?_; rintro e w' ⟨rfl, rfl⟩)
  go_ret
  exact ⟨by simp, rfl⟩
theorem cGiven (w : World) (gen : Int) : Calls Tryz.prog 63 #[.int .i64 gen] w fun e w' => e = .returned (.pointer (some ⟨w.heap.size + 1, 0, none⟩)) ∧ w' = lifeW w gen (-7777777) (-7777777) (-7777777) (-7777777) (-7777777) (-7777777) := by
  have HN := cNewLife w gen (-7777777) (-7777777) (-7777777) (-7777777) (-7777777) (-7777777)
  go_enter Tryz.func63, Tryz.ntmps63
  go_wp2_with (go_at_call 60; refine HN.mono ?_; rintro e w' ⟨rfl, hw⟩; obtain rfl := hw.symm)
  go_ret
  exact ⟨rfl, rfl⟩
theorem lifeW_size (w : World) (gen a b c d mark link : Int) : (lifeW w gen a b c d mark link).heap.size = w.heap.size + 2 := by simp [lifeW]
theorem lifeW_new (w : World) (gen a b c d mark link : Int) : (lifeW w gen a b c d mark link).heap[w.heap.size + 1]? = some (lifeObj ⟨gen, mark, link, a, b, c, d⟩) := by
  have h := blk_new (w.alloc (nodeObj a b c d)) (lifeObj ⟨gen, mark, link, a, b, c, d⟩)
  rwa [show (w.alloc (nodeObj a b c d)).heap.size = w.heap.size + 1 from by simp] at h
theorem lifeW_turned (l : List Nat) (w : World) (gen a b c d mark link : Int) : Turned l w (lifeW w gen a b c d mark link) := ((Turned.refl _ _).alloc _).alloc _
theorem lifeW_old {w : World} {r : Nat} {o : Obj} (h : w.heap[r]? = some o) (gen a b c d mark link : Int) : (lifeW w gen a b c d mark link).heap[r]? = some o := (lifeW_turned [] w gen a b c d mark link).heap h (by simp)
end Go.Proofs.YtjbhnpofdafmbaaGreatDoor
/- Package pool's calls on a handle, alone, by contract. -/
namespace Go.Proofs.YtjbhnpofdafmbaaGreatDoor
open Go.RowKit
section
variable {w : World} {p sb pb nb : Nat} {L : Nat → Nat} {s : PSt} {i : Nat} {g : Int}
theorem cHas (h : PA w p sb pb nb L s) (h1 : 1 ≤ i) (h2 : i ≤ s.n) : Calls Tryz.prog 89 #[.pointer (some ⟨p, 0, none⟩), .int .i64 i] w fun e w' => e = .returned (.bool true) ∧ w' = w := by
  have c0 := cell_at h.pool 0
  simp at c0
  have d1 : decide (1 ≤ (i : Int)) = true := decide_eq_true (by omega)
  have d2 : decide ((i : Int) < (s.n : Int) + 1) = true := decide_eq_true (by omega)
  go_enter Tryz.func89, Tryz.ntmps89
  go_wp2
  go_ret
  exact ⟨rfl, rfl⟩
theorem cHasNot {x : Int} (h : PA w p sb pb nb L s) (hb : x < 1 ∨ s.n < x) : Calls Tryz.prog 89 #[.pointer (some ⟨p, 0, none⟩), .int .i64 x] w fun e w' => e = .returned (.bool false) ∧ w' = w := by
  have c0 := cell_at h.pool 0
  simp at c0
  rcases (by omega : x < 1 ∨ (1 ≤ x ∧ s.n < x)) with h1 | ⟨h1, h2⟩
  · have d1 : decide (1 ≤ x) = false := decide_eq_false (by omega)
    go_enter Tryz.func89, Tryz.ntmps89
    go_wp2
    go_ret
    exact ⟨rfl, rfl⟩
  · have d1 : decide (1 ≤ x) = true := decide_eq_true (by omega)
    have d2 : decide (x < (s.n : Int) + 1) = false := decide_eq_false (by omega)
    go_enter Tryz.func89, Tryz.ntmps89
    go_wp2
    go_ret
    exact ⟨rfl, rfl⟩
theorem cSlot (h : PA w p sb pb nb L s) (h1 : 1 ≤ i) (h2 : i ≤ s.n) (hn : s.n ≤ 4096) (g0 : 0 ≤ g) (g1 : g ≤ 1099511627775) (g2 : g % 2 = 1) :
    Calls Tryz.prog 62 #[.pointer (some ⟨p, 0, none⟩), .int .i64 (hnd i g)] w fun e w' => e = .returned (.tuple #[.int .i64 i, .int .i64 g, .int .i64 0]) ∧ w' = w := by
  have HI := cIndex (hnd i g) w
  have HG := cTag (hnd i g) w
  rw [hnd_idx (by omega) g0 (by omega)] at HI
  rw [hnd_tag (by omega) g0 (by omega)] at HG
  have HH := cHas h h1 h2
  have d3 : (g % 2 == 0) = false := by simp; omega
  go_enter Tryz.func62, Tryz.ntmps62
  go_wp2_with (first
    | (go_at_call 109; refine HI.mono ?_; rintro e w' ⟨rfl, hw⟩; obtain rfl := hw.symm)
    | (go_at_call 114; refine HG.mono ?_; rintro e w' ⟨rfl, hw⟩; obtain rfl := hw.symm)
    | (go_at_call 89; refine HH.mono ?_; rintro e w' ⟨rfl, hw⟩; obtain rfl := hw.symm))
  refine bodyPost_ret (v := .tuple #[.int .i64 i, .int .i64 g, .int .i64 0]) (by simp [results, Tryz.results62, go_sem]) rfl ⟨rfl, rfl⟩
theorem cSlotBad {x : Int} (h : PA w p sb pb nb L s) (hb : idxV x < 1 ∨ s.n < idxV x ∨ tagV x % 2 = 0) :
    Calls Tryz.prog 62 #[.pointer (some ⟨p, 0, none⟩), .int .i64 x] w fun e w' => e = .returned (.tuple #[.int .i64 0, .int .i64 0, .int .i64 103]) ∧ w' = w := by
  have HI := cIndex x w
  have HG := cTag x w
  have ht0 : 0 ≤ tagV x := by unfold tagV; split <;> omega
  generalize idxV x = ix at *
  generalize tagV x = tx at *
  rcases (by omega : (ix < 1 ∨ s.n < ix) ∨ (1 ≤ ix ∧ ix ≤ s.n ∧ tx % 2 = 0)) with h1 | ⟨h1, h2, h3⟩
  · have HH := cHasNot h h1
    go_enter Tryz.func62, Tryz.ntmps62
    go_wp2_with (first
      | (go_at_call 109; refine HI.mono ?_; rintro e w' ⟨rfl, hw⟩; obtain rfl := hw.symm)
      | (go_at_call 114; refine HG.mono ?_; rintro e w' ⟨rfl, hw⟩; obtain rfl := hw.symm)
      | (go_at_call 89; refine HH.mono ?_; rintro e w' ⟨rfl, hw⟩; obtain rfl := hw.symm))
    refine bodyPost_ret (v := .tuple #[.int .i64 0, .int .i64 0, .int .i64 103]) (by simp [results, Tryz.results62, go_sem]) rfl ⟨rfl, rfl⟩
  · obtain ⟨i, rfl⟩ : ∃ i : Nat, ix = i := ⟨ix.toNat, by omega⟩
    have HH := cHas h (i := i) (by omega) (by omega)
    have d3 : (tx % 2 == 0) = true := by simp [h3]
    go_enter Tryz.func62, Tryz.ntmps62
    go_wp2_with (first
      | (go_at_call 109; refine HI.mono ?_; rintro e w' ⟨rfl, hw⟩; obtain rfl := hw.symm)
      | (go_at_call 114; refine HG.mono ?_; rintro e w' ⟨rfl, hw⟩; obtain rfl := hw.symm)
      | (go_at_call 89; refine HH.mono ?_; rintro e w' ⟨rfl, hw⟩; obtain rfl := hw.symm))
    refine bodyPost_ret (v := .tuple #[.int .i64 0, .int .i64 0, .int .i64 103]) (by simp [results, Tryz.results62, go_sem]) rfl ⟨rfl, rfl⟩
theorem cMeet (h : PA w p sb pb nb L s) (h1 : 1 ≤ i) (h2 : i ≤ s.n) (hn : s.n ≤ 4096) (g0 : 0 ≤ g) (g1 : g ≤ 1099511627775) (g2 : g % 2 = 1) (hg : (s.slot i).gen = g) :
    Calls Tryz.prog 66 #[.pointer (some ⟨p, 0, none⟩), .pointer none, .int .i64 (hnd i g)] w fun e w' => e = .returned (.tuple #[.pointer (some ⟨L i, 0, none⟩), .int .i64 0]) ∧ w' = w := by
  have HS := cSlot h h1 h2 hn g0 g1 g2
  have c0 := cell_at h.pool 0
  simp at c0
  have hlt : (i : Int) < (s.n : Int) + 1 := by omega
  have HL := cPLoad (ptr_cell h.slots h2) (h.life i h2) rfl
  have l0 := cell_at (h.life i h2) 0
  simp at l0
  rw [hg] at l0
  go_enter Tryz.func66, Tryz.ntmps66
  go_wp2_with (first
    | (go_at_call 62; refine HS.mono ?_; rintro e w' ⟨rfl, hw⟩; obtain rfl := hw.symm)
    | (go_at_call 61; refine (cStep _).mono ?_; rintro e w' ⟨rfl, hw⟩; obtain rfl := hw.symm)
    | (go_at_call 58; refine HL.mono ?_; rintro e w' ⟨rfl, hw⟩; obtain rfl := hw.symm))
  go_ret2
  exact ⟨rfl, rfl⟩
theorem cMeetGone (h : PA w p sb pb nb L s) (h1 : 1 ≤ i) (h2 : i ≤ s.n) (hn : s.n ≤ 4096) (g0 : 0 ≤ g) (g1 : g ≤ 1099511627775) (g2 : g % 2 = 1) (hg : (s.slot i).gen ≠ g) (hf0 : 0 ≤ s.faults) (hf1 : s.faults ≤ 1000000) :
    Calls Tryz.prog 66 #[.pointer (some ⟨p, 0, none⟩), .pointer none, .int .i64 (hnd i g)] w fun e w' => e = .returned (.tuple #[.pointer none, .int .i64 104]) ∧ w' = w.setCell ⟨p, 2, none⟩ (.int .i64 (s.faults + 1)) := by
  have HS := cSlot h h1 h2 hn g0 g1 g2
  have c0 := cell_at h.pool 0
  have c2 := cell_at h.pool 2
  have z2 := froz_at h.pool 2
  simp at c0 c2
  have hlt : (i : Int) < (s.n : Int) + 1 := by omega
  have HL := cPLoad (ptr_cell h.slots h2) (h.life i h2) rfl
  have l0 := cell_at (h.life i h2) 0
  simp at l0
  have hne : ((s.slot i).gen != g) = true := by simp [hg]
  go_enter Tryz.func66, Tryz.ntmps66
  go_wp2_with (first
    | (go_at_call 62; refine HS.mono ?_; rintro e w' ⟨rfl, hw⟩; obtain rfl := hw.symm)
    | (go_at_call 61; refine (cStep _).mono ?_; rintro e w' ⟨rfl, hw⟩; obtain rfl := hw.symm)
    | (go_at_call 58; refine HL.mono ?_; rintro e w' ⟨rfl, hw⟩; obtain rfl := hw.symm)
    | (go_at_call 115; refine (cAAdd c2 z2 (by omega) (by omega)).mono ?_; rintro e w' ⟨rfl, rfl⟩))
  go_ret2
  exact ⟨rfl, rfl⟩
theorem cMeetBad {x : Int} (h : PA w p sb pb nb L s) (hb : idxV x < 1 ∨ s.n < idxV x ∨ tagV x % 2 = 0) :
    Calls Tryz.prog 66 #[.pointer (some ⟨p, 0, none⟩), .pointer none, .int .i64 x] w fun e w' => e = .returned (.tuple #[.pointer none, .int .i64 103]) ∧ w' = w := by
  have HS := cSlotBad h hb
  go_enter Tryz.func66, Tryz.ntmps66
  go_wp2_with (first
    | (go_at_call 62; refine HS.mono ?_; rintro e w' ⟨rfl, hw⟩; obtain rfl := hw.symm)
    | (go_at_call 61; refine (cStep _).mono ?_; rintro e w' ⟨rfl, hw⟩; obtain rfl := hw.symm))
  go_ret2
  exact ⟨rfl, rfl⟩
set_option maxHeartbeats 800000 in
theorem cPMark (h : PA w p sb pb nb L s) (h1 : 1 ≤ i) (h2 : i ≤ s.n) (hn : s.n ≤ 4096) (g0 : 0 ≤ g) (g1 : g ≤ 1099511627775) (g2 : g % 2 = 1) (hg : (s.slot i).gen = g) :
    Calls Tryz.prog 23 #[.pointer (some ⟨p, 0, none⟩), .pointer none, .int .i64 (hnd i g)] w fun e w' => e = .returned (.tuple #[.int .i64 (s.slot i).mark, .int .i64 0]) ∧ w' = w := by
  have HM := cMeet h h1 h2 hn g0 g1 g2 hg
  have c5 := cell_at (h.life i h2) 5
  simp at c5
  go_enter Tryz.func23, Tryz.ntmps23
  go_wp2_with (first
    | (go_at_call 66; refine HM.mono ?_; rintro e w' ⟨rfl, hw⟩; obtain rfl := hw.symm)
    | (go_at_call 67; refine (cALoad c5).mono ?_; rintro e w' ⟨rfl, hw⟩; obtain rfl := hw.symm))
  go_ret2
  exact ⟨rfl, rfl⟩
set_option maxHeartbeats 800000 in
theorem cPCasMark (h : PA w p sb pb nb L s) (h1 : 1 ≤ i) (h2 : i ≤ s.n) (hn : s.n ≤ 4096) (g0 : 0 ≤ g) (g1 : g ≤ 1099511627775) (g2 : g % 2 = 1) (hg : (s.slot i).gen = g) (old v : Int) (hm : (s.slot i).mark = old) :
    Calls Tryz.prog 25 #[.pointer (some ⟨p, 0, none⟩), .pointer none, .int .i64 (hnd i g), .int .i64 old, .int .i64 v] w fun e w' => e = .returned (.tuple #[.bool true, .int .i64 0]) ∧ w' = w.setCell ⟨L i, 5, none⟩ (.int .i64 v) := by
  have HM := cMeet h h1 h2 hn g0 g1 g2 hg
  have c5 := cell_at (h.life i h2) 5
  have z5 := froz_at (h.life i h2) 5
  simp at c5
  rw [hm] at c5
  go_enter Tryz.func25, Tryz.ntmps25
  go_wp2_with (first
    | (go_at_call 66; refine HM.mono ?_; rintro e w' ⟨rfl, hw⟩; obtain rfl := hw.symm)
    | (go_at_call 83; refine (cACas c5 z5).mono ?_; rintro e w' ⟨rfl, rfl⟩))
  go_ret2
  exact ⟨rfl, rfl⟩
set_option maxHeartbeats 800000 in
theorem cPCasNot (h : PA w p sb pb nb L s) (h1 : 1 ≤ i) (h2 : i ≤ s.n) (hn : s.n ≤ 4096) (g0 : 0 ≤ g) (g1 : g ≤ 1099511627775) (g2 : g % 2 = 1) (hg : (s.slot i).gen = g) (old v : Int) (hm : ¬ (s.slot i).mark = old) :
    Calls Tryz.prog 25 #[.pointer (some ⟨p, 0, none⟩), .pointer none, .int .i64 (hnd i g), .int .i64 old, .int .i64 v] w fun e w' => e = .returned (.tuple #[.bool false, .int .i64 0]) ∧ w' = w := by
  have HM := cMeet h h1 h2 hn g0 g1 g2 hg
  have c5 := cell_at (h.life i h2) 5
  have z5 := froz_at (h.life i h2) 5
  simp at c5
  go_enter Tryz.func25, Tryz.ntmps25
  go_wp2_with (first
    | (go_at_call 66; refine HM.mono ?_; rintro e w' ⟨rfl, hw⟩; obtain rfl := hw.symm)
    | (go_at_call 83; refine (cACasMiss c5 z5 hm).mono ?_; rintro e w' ⟨rfl, rfl⟩))
  go_ret2
  exact ⟨rfl, rfl⟩
set_option maxHeartbeats 800000 in
theorem cPSwap (h : PA w p sb pb nb L s) (h1 : 1 ≤ i) (h2 : i ≤ s.n) (hn : s.n ≤ 4096) (g0 : 0 ≤ g) (g1 : g ≤ 1099511627775) (g2 : g % 2 = 1) (hg : (s.slot i).gen = g) (v : Int) :
    Calls Tryz.prog 29 #[.pointer (some ⟨p, 0, none⟩), .pointer none, .int .i64 (hnd i g), .int .i64 v] w fun e w' => e = .returned (.tuple #[.int .i64 (s.slot i).link, .int .i64 0]) ∧ w' = w.setCell ⟨L i, 6, none⟩ (.int .i64 v) := by
  have HM := cMeet h h1 h2 hn g0 g1 g2 hg
  have c6 := cell_at (h.life i h2) 6
  have z6 := froz_at (h.life i h2) 6
  simp at c6
  go_enter Tryz.func29, Tryz.ntmps29
  go_wp2_with (first
    | (go_at_call 66; refine HM.mono ?_; rintro e w' ⟨rfl, hw⟩; obtain rfl := hw.symm)
    | (go_at_call 84; refine (cASwap c6 z6).mono ?_; rintro e w' ⟨rfl, rfl⟩))
  go_ret2
  exact ⟨rfl, rfl⟩
set_option maxHeartbeats 800000 in
theorem cPFaults (h : PA w p sb pb nb L s) :
    Calls Tryz.prog 16 #[.pointer (some ⟨p, 0, none⟩)] w fun e w' => e = .returned (.int .i64 s.faults) ∧ w' = w := by
  have c2 := cell_at h.pool 2
  simp at c2
  go_enter Tryz.func16, Tryz.ntmps16
  go_wp2_with (first
    | (go_at_call 67; refine (cALoad c2).mono ?_; rintro e w' ⟨rfl, hw⟩; obtain rfl := hw.symm))
  go_ret
  exact ⟨rfl, rfl⟩
set_option maxHeartbeats 800000 in
theorem cPRead (h : PA w p sb pb nb L s) (h1 : 1 ≤ i) (h2 : i ≤ s.n) (hn : s.n ≤ 4096) (g0 : 0 ≤ g) (g1 : g ≤ 1099511627775) (g2 : g % 2 = 1) (hg : (s.slot i).gen = g) :
    Calls Tryz.prog 15 #[.pointer (some ⟨p, 0, none⟩), .pointer none, .int .i64 (hnd i g)] w fun e w' => e = .returned (.tuple #[.agg #[.int .i64 (s.slot i).a, .int .i64 (s.slot i).b, .int .i64 (s.slot i).c, .int .i64 (s.slot i).d], .int .i64 0]) ∧ Turned [] w w' ∧ PA w' p sb pb nb L s := by
  have hA : ∀ o, PA (w.alloc o) p sb pb nb L s := fun o => h.alloc o
  have hli := lt_of_heap (h.life i h2)
  have hne : ¬ L i = w.heap.size := by omega
  have n1 := cell_at (h.life i h2) 1
  have n2 := cell_at (h.life i h2) 2
  have n3 := cell_at (h.life i h2) 3
  have n4 := cell_at (h.life i h2) 4
  simp at n1 n2 n3 n4
  go_enter Tryz.func15, Tryz.ntmps15
  go_wp2_with (go_at_call 66; refine (cMeet (hA _) h1 h2 hn g0 g1 g2 hg).mono ?_; rintro e w' ⟨rfl, hw⟩; obtain rfl := hw.symm)
  refine bodyPost_ret (v := .tuple #[.agg #[.int .i64 (s.slot i).a, .int .i64 (s.slot i).b, .int .i64 (s.slot i).c, .int .i64 (s.slot i).d], .int .i64 0]) (by simp [results, Tryz.results15, go_sem]) rfl ⟨rfl, (Turned.refl _ _).alloc _, hA _⟩
set_option maxHeartbeats 800000 in
theorem cPReadGone (h : PA w p sb pb nb L s) (h1 : 1 ≤ i) (h2 : i ≤ s.n) (hn : s.n ≤ 4096) (g0 : 0 ≤ g) (g1 : g ≤ 1099511627775) (g2 : g % 2 = 1) (hg : (s.slot i).gen ≠ g) (hf0 : 0 ≤ s.faults) (hf1 : s.faults ≤ 1000000) :
    Calls Tryz.prog 15 #[.pointer (some ⟨p, 0, none⟩), .pointer none, .int .i64 (hnd i g)] w fun e w' => e = .returned (.tuple #[.agg #[.int .i64 0, .int .i64 0, .int .i64 0, .int .i64 0], .int .i64 104]) ∧ Turned [p] w w' ∧ PA w' p sb pb nb L s.fault := by
  have hA : ∀ o, PA (w.alloc o) p sb pb nb L s := fun o => h.alloc o
  have hpl := lt_of_heap h.pool
  have hne : ¬ p = w.heap.size := by omega
  have hne2 : ¬ w.heap.size = p := by omega
  go_enter Tryz.func15, Tryz.ntmps15
  go_wp2_with (go_at_call 66; refine (cMeetGone (hA _) h1 h2 hn g0 g1 g2 hg hf0 hf1).mono ?_; rintro e w' ⟨rfl, rfl⟩)
  refine bodyPost_ret (v := .tuple #[.agg #[.int .i64 0, .int .i64 0, .int .i64 0, .int .i64 0], .int .i64 104]) (by simp [results, Tryz.results15, go_sem]) rfl ⟨rfl, ((Turned.refl _ _).set (r := p) (.inl (by simp)) 2 _).alloc _, h.fault.alloc _⟩
set_option maxHeartbeats 800000 in
theorem cPReadBad {x : Int} (h : PA w p sb pb nb L s) (hb : idxV x < 1 ∨ s.n < idxV x ∨ tagV x % 2 = 0) :
    Calls Tryz.prog 15 #[.pointer (some ⟨p, 0, none⟩), .pointer none, .int .i64 x] w fun e w' => e = .returned (.tuple #[.agg #[.int .i64 0, .int .i64 0, .int .i64 0, .int .i64 0], .int .i64 103]) ∧ Turned [] w w' ∧ PA w' p sb pb nb L s := by
  have hA : ∀ o, PA (w.alloc o) p sb pb nb L s := fun o => h.alloc o
  go_enter Tryz.func15, Tryz.ntmps15
  go_wp2_with (go_at_call 66; refine (cMeetBad (hA _) hb).mono ?_; rintro e w' ⟨rfl, hw⟩; obtain rfl := hw.symm)
  refine bodyPost_ret (v := .tuple #[.agg #[.int .i64 0, .int .i64 0, .int .i64 0, .int .i64 0], .int .i64 103]) (by simp [results, Tryz.results15, go_sem]) rfl ⟨rfl, (Turned.refl _ _).alloc _, hA _⟩
theorem chain_from (f : Nat → Nat) : ∀ (St L : List Nat) (t i : Nat), Linked f i St → (L ++ St).Nodup → St.length ≤ t → chain f t i L = L ++ St
  | [], L, t, i, h, _, _ => by rw [chain_stop f t i L (.inl h)]; simp
  | x :: St, L, t, i, h, hn, ht => by
    obtain ⟨rfl, h2, h3⟩ := h
    cases t with
    | zero => simp at ht
    | succ t =>
      have hx : i ∉ L := fun hx => by
        have := (List.nodup_append.1 hn).2.2 i hx i (by simp)
        exact this rfl
      rw [chain_go f t i L h2 hx, chain_from f St (L ++ [i]) t (f i) h3 (by simpa using hn) (by simpa using ht)]
      simp
theorem chain_linked (f : Nat → Nat) {n i : Nat} {St : List Nat} (h : Linked f i St) (hn : St.Nodup) (hS : ∀ x, x ∈ St → 1 ≤ x ∧ x ≤ n) : chain f (n + 1) i [] = St := by
  have := few_places hn hS
  rw [chain_from f St [] (n + 1) i h (by simpa using hn) (by omega)]
  simp
set_option maxHeartbeats 800000 in
theorem cPFree (h : PA w p sb pb nb L s) (ho : s.Ok) {St : List Nat} (hL : Linked s.f (idxV s.h).toNat St) (hN : St.Nodup) (hS : ∀ x, x ∈ St → 1 ≤ x ∧ x ≤ s.n) :
    Calls Tryz.prog 34 #[.pointer (some ⟨p, 0, none⟩)] w fun e w' => (∃ a c, e = .returned (.slice a St.length c)) ∧ Turned [] w w' := by
  have c1 := cell_at h.pool 1
  simp at c1
  have ht := ho.top
  have hp := idx_nat ho.h0
  obtain ⟨i0, hi0⟩ : ∃ i0 : Nat, idxV s.h = i0 := ⟨(idxV s.h).toNat, by omega⟩
  have HP := cPlaces h.pile ho.n2 ho.low hi0 (by omega)
  rw [hi0, Int.toNat_natCast] at hL
  rw [chain_linked s.f (n := s.n) hL hN hS] at HP
  go_enter Tryz.func34, Tryz.ntmps34
  go_wp2_with (first
    | (go_at_call 91; refine HP.mono ?_; rintro e w' ⟨v, rfl, hT, hR⟩))
  go_ret
  obtain ⟨a, c, hv⟩ : ∃ a c, v = .slice a St.length c := by
    rcases hR.2 with ⟨rfl, h0⟩ | ⟨g, cap, cur, rfl, -⟩
    · exact ⟨none, 0, by rw [h0]⟩
    · exact ⟨_, _, rfl⟩
  exact ⟨⟨a, c, by rw [hv]; rfl⟩, hT⟩
end
end Go.Proofs.YtjbhnpofdafmbaaGreatDoor
/- What is told of a slot, by contract. -/
namespace Go.Proofs.YtjbhnpofdafmbaaGreatDoor
open Go.RowKit
section
variable {w : World} {b : Nat} {S : Slot}
abbrev toldC (S : Slot) : Array Value := #[.int .i64 S.gen, .int .i64 S.a, .int .i64 S.b, .int .i64 S.c, .int .i64 S.d, .int .i64 S.mark, .int .i64 S.link]
abbrev toldV (S : Slot) : Value := .agg (toldC S)
def nodeV (S : Slot) : Value := .agg #[.int .i64 S.a, .int .i64 S.b, .int .i64 S.c, .int .i64 S.d]
theorem run_lifeField (w : World) (b : Nat) : (Instr.fieldAt 107 (pv b 0) 0).run Tryz.prog w = .ok (pv b 0) w ∧ (Instr.fieldAt 107 (pv b 0) 1).run Tryz.prog w = .ok (pv b 1) w ∧ (Instr.fieldAt 107 (pv b 0) 2).run Tryz.prog w = .ok (pv b 5) w ∧ (Instr.fieldAt 107 (pv b 0) 3).run Tryz.prog w = .ok (pv b 6) w := by
  unfold pv
  refine ⟨?_, ?_, ?_, ?_⟩ <;> go_simp
theorem run_lifeGen (h : w.heap[b]? = some (lifeObj S)) : (Instr.loadAt 3 (pv b 0)).run Tryz.prog w = .ok (.int .i64 S.gen) w := by
  have n0 := cell_at h 0
  simp at n0
  unfold pv
  go_simp
theorem run_lifeNode (h : w.heap[b]? = some (lifeObj S)) : (Instr.loadAt 43 (pv b 1)).run Tryz.prog w = .ok (nodeV S) w := by
  have n1 := cell_at h 1
  have n2 := cell_at h 2
  have n3 := cell_at h 3
  have n4 := cell_at h 4
  simp at n1 n2 n3 n4
  unfold pv nodeV
  go_simp
theorem run_buildTold (w : World) (S : Slot) : (Instr.build 64 #[(0, .int .i64 S.gen), (1, nodeV S), (2, .int .i64 S.mark), (3, .int .i64 S.link)]).run Tryz.prog w = .ok (toldV S) w := by
  unfold nodeV
  go_simp
theorem run_storeTold (w : World) (S : Slot) : (Instr.storeAt 64 (pv w.heap.size 0) (toldV S)).run Tryz.prog (w.alloc (.cells #[.int .i64 0, .int .i64 0, .int .i64 0, .int .i64 0, .int .i64 0, .int .i64 0, .int .i64 0] 64)).drew = .ok () (w.alloc (.cells (toldC S) 64)).drew := by
  unfold pv
  go_simp
set_option maxRecDepth 100000 in
set_option maxHeartbeats 1600000 in
theorem cTold (h : w.heap[b]? = some (lifeObj S)) : Calls Tryz.prog 65 #[.pointer (some ⟨b, 0, none⟩)] w fun e w' => e = .returned (toldV S) ∧ w' = (w.alloc (.cells (toldC S) 64)).drew := by
  have hA : ((w.alloc (.cells #[.int .i64 0, .int .i64 0, .int .i64 0, .int .i64 0, .int .i64 0, .int .i64 0, .int .i64 0] 64)).drew).heap[b]? = some (lifeObj S) := blk_old h _
  have hst := run_storeTold w S
  have n5 := cell_at hA 5
  have n6 := cell_at hA 6
  simp only [List.getElem?_toArray] at n5 n6
  go_enter Tryz.func65, Tryz.ntmps65
  go_wp2
  rename_i K hK
  generalize hw0 : (w.alloc (.cells #[.int .i64 0, .int .i64 0, .int .i64 0, .int .i64 0, .int .i64 0, .int .i64 0, .int .i64 0] 64)) = w0 at *
  have fld := run_lifeField w0.drew b
  have HM : Calls Tryz.prog 67 #[pv b 5] w0.drew fun e w' => e = .returned (.int .i64 S.mark) ∧ w' = w0.drew := cALoad n5
  have HL : Calls Tryz.prog 67 #[pv b 6] w0.drew fun e w' => e = .returned (.int .i64 S.link) ∧ w' = w0.drew := cALoad n6
  refine wp_region_tab (w1 := (w.alloc (.cells (toldC S) 64)).drew) (by kernel_rfl) [some 3, some 4, some 5, some 6, some 7, some 8, some 9, some 10, some 11, some 12, some 13, some 14, some 15, some 16, some 17, some 18, some 19, none] (fun i => match i with
    | 0 => pv b 0 | 1 => pv b 0 | 2 => pv b 0 | 3 => .int .i64 S.gen | 4 => pv b 0 | 5 => pv b 0 | 6 => pv b 1 | 7 => nodeV S | 8 => pv b 0 | 9 => pv b 0 | 10 => pv b 5 | 11 => .int .i64 S.mark | 12 => pv b 0 | 13 => pv b 0 | 14 => pv b 6 | 15 => .int .i64 S.link | 16 => toldV S | _ => undef) (by kernel_rfl) (by decide) ?_ (.inr (by decide +kernel)) ?_ ?_
  · intro i g b' h
    exact (no_guard (by kernel_rfl) h).elim
  · intro i hi o a K ho hd _ hoff hv hK
    rcases (by simp at hi; omega : i = 0 ∨ i = 1 ∨ i = 2 ∨ i = 3 ∨ i = 4 ∨ i = 5 ∨ i = 6 ∨ i = 7 ∨ i = 8 ∨ i = 9 ∨ i = 10 ∨ i = 11 ∨ i = 12 ∨ i = 13 ∨ i = 14 ∨ i = 15 ∨ i = 16 ∨ i = 17) with rfl | rfl | rfl | rfl | rfl | rfl | rfl | rfl | rfl | rfl | rfl | rfl | rfl | rfl | rfl | rfl | rfl | rfl
    · exact l_val hd ((x_move (op_is rfl ho)).trans (by rw [hoff 0 (by decide)]; rfl)) hK
    · exact l_val hd (x_nil (op_is rfl ho) (hv 0 3 rfl (by kernel_rfl))) hK
    · exact l_val hd (x_field (op_is rfl ho) (by rw [hv 1 4 rfl (by kernel_rfl)]; exact fld.1)) hK
    · exact l_val hd (x_load (op_is rfl ho) (by rw [hv 2 5 rfl (by kernel_rfl)]; exact run_lifeGen hA)) hK
    · exact l_val hd ((x_move (op_is rfl ho)).trans (by rw [hoff 0 (by decide)]; rfl)) hK
    · exact l_val hd (x_nil (op_is rfl ho) (hv 4 7 rfl (by kernel_rfl))) hK
    · exact l_val hd (x_field (op_is rfl ho) (by rw [hv 5 8 rfl (by kernel_rfl)]; exact fld.2.1)) hK
    · exact l_val hd (x_load (op_is rfl ho) (by rw [hv 6 9 rfl (by kernel_rfl)]; exact run_lifeNode hA)) hK
    · exact l_val hd ((x_move (op_is rfl ho)).trans (by rw [hoff 0 (by decide)]; rfl)) hK
    · exact l_val hd (x_nil (op_is rfl ho) (hv 8 11 rfl (by kernel_rfl))) hK
    · exact l_val hd (x_field (op_is rfl ho) (by rw [hv 9 12 rfl (by kernel_rfl)]; exact fld.2.2.1)) hK
    · exact l_call hd (op_is rfl ho) (by simp [hv 10 13 rfl (by kernel_rfl)]) Tryz.func67 (by kernel_rfl) (by rfl) HM hK
    · exact l_val hd ((x_move (op_is rfl ho)).trans (by rw [hoff 0 (by decide)]; rfl)) hK
    · exact l_val hd (x_nil (op_is rfl ho) (hv 12 15 rfl (by kernel_rfl))) hK
    · exact l_val hd (x_field (op_is rfl ho) (by rw [hv 13 16 rfl (by kernel_rfl)]; exact fld.2.2.2)) hK
    · exact l_call hd (op_is rfl ho) (by simp [hv 14 17 rfl (by kernel_rfl)]) Tryz.func67 (by kernel_rfl) (by rfl) HL hK
    · exact l_val hd (x_build (op_is rfl ho) (by simp [hv 3 6 rfl (by kernel_rfl), hv 7 10 rfl (by kernel_rfl), hv 11 14 rfl (by kernel_rfl), hv 15 18 rfl (by kernel_rfl)]) (run_buildTold _ S)) hK
    · exact l_skip hd (x_store (op_is rfl ho) (by rw [hoff 2 (by decide), hv 16 19 rfl (by kernel_rfl)]; exact hst)) hK
  · intro a' h1 h2 h3 h4
    refine hK _ _ (wp_ret ?_)
    have e2 : a'.tmps[2]? = some (.pointer (some ⟨w.heap.size, 0, none⟩)) := (h3 2 (by decide)).trans rfl
    refine bodyPost_ret (v := toldV S) ?_ h2 ⟨rfl, rfl⟩
    simp [results, Tryz.results65, go_sem, e2]
end
end Go.Proofs.YtjbhnpofdafmbaaGreatDoor
/- Package pool's Take and Give, by contract. -/
namespace Go.Proofs.YtjbhnpofdafmbaaGreatDoor
open Go.RowKit
def lit60 (c : Nat → Value) : Array Value := #[c 0, c 1, c 2, c 3, c 4, c 5, c 6, c 7, c 8, c 9, c 10, c 11, c 12, c 13, c 14, c 15, c 16, c 17, c 18, c 19, c 20, c 21, c 22, c 23, c 24, c 25, c 26, c 27, c 28, c 29, c 30, c 31, c 32, c 33, c 34, c 35, c 36, c 37, c 38, c 39, c 40, c 41, c 42, c 43, c 44, c 45, c 46, c 47, c 48, c 49, c 50, c 51, c 52, c 53, c 54, c 55, c 56, c 57, c 58, c 59]
set_option maxRecDepth 100000 in
theorem lit60_eq (c : Nat → Value) : lit60 c = ((List.range 60).map c).toArray := by rfl
theorem expand60 {a : Act} (hs : a.tmps.size = 60) (hd : a.defers = []) : ∃ c : Nat → Value, a = ⟨lit60 c, []⟩ ∧ ∀ s, c s = a.eval (.tmp s) := by
  refine ⟨fun s => a.tmps.getD s undef, ?_, fun s => rfl⟩
  obtain ⟨t, d⟩ := a
  simp only at hs hd
  subst hd
  congr 1
  rw [lit60_eq]
  refine Array.ext (by simp [hs]) fun i h1 h2 => ?_
  simp [Array.getD, h1]
def lit57 (c : Nat → Value) : Array Value := #[c 0, c 1, c 2, c 3, c 4, c 5, c 6, c 7, c 8, c 9, c 10, c 11, c 12, c 13, c 14, c 15, c 16, c 17, c 18, c 19, c 20, c 21, c 22, c 23, c 24, c 25, c 26, c 27, c 28, c 29, c 30, c 31, c 32, c 33, c 34, c 35, c 36, c 37, c 38, c 39, c 40, c 41, c 42, c 43, c 44, c 45, c 46, c 47, c 48, c 49, c 50, c 51, c 52, c 53, c 54, c 55, c 56]
set_option maxRecDepth 100000 in
theorem lit57_eq (c : Nat → Value) : lit57 c = ((List.range 57).map c).toArray := by rfl
theorem expand57 {a : Act} (hs : a.tmps.size = 57) (hd : a.defers = []) : ∃ c : Nat → Value, a = ⟨lit57 c, []⟩ ∧ ∀ s, c s = a.eval (.tmp s) := by
  refine ⟨fun s => a.tmps.getD s undef, ?_, fun s => rfl⟩
  obtain ⟨t, d⟩ := a
  simp only at hs hd
  subst hd
  congr 1
  rw [lit57_eq]
  refine Array.ext (by simp [hs]) fun i h1 h2 => ?_
  simp [Array.getD, h1]
theorem run_poolField (w : World) (b : Nat) : (Instr.fieldAt 104 (pv b 0) 0).run Tryz.prog w = .ok (pv b 0) w := by
  unfold pv
  go_simp
theorem run_loadSlots {w : World} {p sb pb n : Nat} {fa : Int} (h : w.heap[p]? = some (poolObj sb pb n fa)) : (Instr.loadAt 97 (pv p 0)).run Tryz.prog w = .ok (.slice (some ⟨sb, 0, none⟩) (n + 1) (n + 1)) w := by
  have c0 := cell_at h 0
  simp at c0
  unfold pv
  go_simp
theorem run_indexSlots (w : World) (sb n i : Nat) (h : i ≤ n) : (Instr.indexAt 97 (.slice (some ⟨sb, 0, none⟩) (n + 1) (n + 1)) (.int .i64 i)).run Tryz.prog w = .ok (pv sb i) w := by
  have hlt : (i : Int) < (n : Int) + 1 := by omega
  unfold pv
  go_simp
theorem run_loadNode {w : World} {b : Nat} {a e c d : Int} (h : w.heap[b]? = some (nodeObj a e c d)) : (Instr.loadAt 43 (pv b 0)).run Tryz.prog w = .ok (.agg #[.int .i64 a, .int .i64 e, .int .i64 c, .int .i64 d]) w := by
  have n0 := cell_at h 0
  have n1 := cell_at h 1
  have n2 := cell_at h 2
  have n3 := cell_at h 3
  simp at n0 n1 n2 n3
  unfold pv
  go_simp
theorem x_add1 {ρ : Operand → Value} {o : Oper} {w : World} {x y : Operand} {t : TypeId} {a : Int} (h : o.op = .binOp .add 3 x y t) (hx : ρ x = .int .i64 a) (hy : ρ y = .int .i64 1) (h0 : 0 ≤ a) (h1 : a ≤ 1099511627774) : (execOp ρ o).run Tryz.prog w = .ok (.value (.int .i64 (a + 1))) w := by
  have hw : IntKind.i64.wrap (a + 1) = a + 1 := by simp [IntKind.wrap, IntKind.bits, IntKind.signed]; omega
  refine x_bin h hx hy (by simp [eqGuard]) ?_
  simp [binOp, Op.intArith, hw]
section
variable {w : World} {p sb pb nb : Nat} {L : Nat → Nat} {s : PSt} {i : Nat} {g : Int}
/-- What a slot's new life, and its lead there, leave. -/
def ledW (w : World) (sb i : Nat) (gen a b c d mark link : Int) : World := (lifeW w gen a b c d mark link).setCell ⟨sb, i, none⟩ (.pointer (some ⟨w.heap.size + 1, 0, none⟩))
theorem PA.led (h : PA w p sb pb nb L s) (hi : i ≤ s.n) (gen a b c d mark link : Int) : PA (ledW w sb i gen a b c d mark link) p sb pb nb (upd L i (w.heap.size + 1)) { s with slot := upd s.slot i ⟨gen, mark, link, a, b, c, d⟩ } :=
  (h.keep (lifeW_turned [] w gen a b c d mark link) (by simp)).lead hi (lifeW_new w gen a b c d mark link) (fun k hk => by have := lt_of_heap (h.life k hk); omega)
theorem ledW_turned {l : List Nat} (hl : sb ∈ l) (w : World) (i : Nat) (gen a b c d mark link : Int) : Turned l w (ledW w sb i gen a b c d mark link) := (lifeW_turned l w gen a b c d mark link).set (.inl hl) _ _
theorem cLed (h : PA w p sb pb nb L s) (hi : i ≤ s.n) (gen a b c d mark link : Int) : Calls Tryz.prog 59 #[pv sb i, pv (L i) 0, pv (w.heap.size + 1) 0] (lifeW w gen a b c d mark link) fun e w' => e = .returned (.bool true) ∧ w' = ledW w sb i gen a b c d mark link := by
  have h1 := h.keep (lifeW_turned [] w gen a b c d mark link) (by simp)
  exact cPCas (ptr_cell h1.slots hi) (froz_at h1.slots i) (h1.life i hi) rfl (lifeW_new w gen a b c d mark link) rfl
set_option maxHeartbeats 800000 in
theorem cPTakeFull (h : PA w p sb pb nb L s) (hi : idxV s.h = 0) (a b c d link : Int) :
    Calls Tryz.prog 12 #[.pointer (some ⟨p, 0, none⟩), .pointer none, .agg #[.int .i64 a, .int .i64 b, .int .i64 c, .int .i64 d], .int .i64 link] w fun e w' => e = .returned (.tuple #[.int .i64 0, .int .i64 102]) ∧ Turned [] w w' ∧ PA w' p sb pb nb L s := by
  have hA := h.alloc (.cells #[.int .i64 a, .int .i64 b, .int .i64 c, .int .i64 d] 43)
  have c1 := cell_at h.pool 1
  simp at c1
  have hpl := lt_of_heap h.pool
  have hne : ¬ p = w.heap.size := by omega
  go_enter Tryz.func12, Tryz.ntmps12
  go_wp2_with (go_at_call 57; refine (cPopEmpty hA.pile.head hi).mono ?_; rintro e w' ⟨rfl, hw⟩; obtain rfl := hw.symm)
  go_ret2
  exact ⟨rfl, (Turned.refl _ _).alloc _, hA⟩
set_option maxRecDepth 100000 in
set_option maxHeartbeats 1600000 in
theorem cPTake (h : PA w p sb pb nb L s) (ho : s.Ok) (hi : idxV s.h = i) (h0 : i ≠ 0) (hg0 : 0 ≤ (s.slot i).gen) (hg1 : (s.slot i).gen ≤ 1099511627774) (a b c d link : Int) :
    Calls Tryz.prog 12 #[.pointer (some ⟨p, 0, none⟩), .pointer none, .agg #[.int .i64 a, .int .i64 b, .int .i64 c, .int .i64 d], .int .i64 link] w fun e w' => e = .returned (.tuple #[.int .i64 (hnd i ((s.slot i).gen + 1)), .int .i64 0]) ∧ Turned (blocks p sb pb nb L s.n) w w' ∧ ∃ b', w.heap.size ≤ b' ∧ PA w' p sb pb nb (upd L i b') (s.take i a b c d link) := by
  have hA := h.alloc (.cells #[.int .i64 a, .int .i64 b, .int .i64 c, .int .i64 d] 43)
  have hin : i ≤ s.n := by have := ho.top; omega
  have hn2 := ho.n2
  have hB := hA.pop (nextV s.h (s.f i))
  have c1 := cell_at h.pool 1
  simp at c1
  have hpl := lt_of_heap h.pool
  have hne : ¬ p = w.heap.size := by omega
  have hlt : (i : Int) < (s.n : Int) + 1 := by omega
  have hN : ((w.alloc (.cells #[.int .i64 a, .int .i64 b, .int .i64 c, .int .i64 d] 43)).setCell ⟨pb, 0, none⟩ (.int .i64 (nextV s.h (s.f i)))).heap[w.heap.size]? = some (nodeObj a b c d) := by
    have := lt_of_heap h.pile.head
    rw [blk_other (by omega)]
    exact blk_new w _
  have hT : Turned (blocks p sb pb nb L s.n) w ((w.alloc (.cells #[.int .i64 a, .int .i64 b, .int .i64 c, .int .i64 d] 43)).setCell ⟨pb, 0, none⟩ (.int .i64 (nextV s.h (s.f i)))) := ((Turned.refl _ _).alloc _).set (.inl (by simp [blocks])) _ _
  have HPk := fun w => cPack i ((s.slot i).gen + 1) w
  rw [(pack_ok i ((s.slot i).gen + 1) (by omega) (by omega) (by omega) (by omega)).1, (pack_ok i ((s.slot i).gen + 1) (by omega) (by omega) (by omega) (by omega)).2] at HPk
  go_enter Tryz.func12, Tryz.ntmps12
  go_wp2_with (go_at_call 57; refine (cPop hA.pile hi h0 hin).mono ?_; rintro e w' ⟨rfl, rfl⟩)
  refine wp_loop_once ?_
  generalize ((w.alloc (.cells #[.int .i64 a, .int .i64 b, .int .i64 c, .int .i64 d] 43)).setCell ⟨pb, 0, none⟩ (.int .i64 (nextV s.h (s.f i)))) = W at *
  have c0 := cell_at hB.pool 0
  simp at c0
  have HLd := cPLoad (ptr_cell hB.slots hin) (hB.life i hin) rfl
  have HB : Hid _ := hB
  have HN : Hid _ := hN
  have HT : Hid _ := hT
  clear hA hB hN hT c1 h
  go_wp2_with (go_at_call 58; refine HLd.mono ?_; rintro e w' ⟨rfl, hw⟩; obtain rfl := hw.symm)
  rename_i K hK
  clear c0 HLd
  have hB := HB.out
  have hBd : PA W.drew p sb pb nb L { s with h := nextV s.h (s.f i) } := hB.keep ((Turned.refl [] W).drew) (by simp)
  have HNL := cNewLife W.drew ((s.slot i).gen + 1) a b c d 0 link
  have HC := cLed hBd hin ((s.slot i).gen + 1) a b c d 0 link
  have tL : Turned [] W.drew (lifeW W.drew ((s.slot i).gen + 1) a b c d 0 link) := lifeW_turned [] _ _ _ _ _ _ _ _
  have tP : ∀ (o : Obj) (r : Nat), W.heap[r]? = some o → r ≠ sb → (W.drew.heap[r]? = some o ∧ (lifeW W.drew ((s.slot i).gen + 1) a b c d 0 link).heap[r]? = some o ∧ (ledW W.drew sb i ((s.slot i).gen + 1) a b c d 0 link).heap[r]? = some o) := fun o r hr hne => ⟨hr, tL.heap hr (by simp), (blk_other hne _ _).trans (tL.heap hr (by simp))⟩
  have fP := tP _ _ hB.pool hB.d1
  have fL := tP _ _ (hB.life i hin) (hB.l2 hin)
  have fN := tP _ _ HN.out (other_type HN.out hB.slots (by decide))
  refine wp_region_two (w1 := lifeW W.drew ((s.slot i).gen + 1) a b c d 0 link) (w2 := ledW W.drew sb i ((s.slot i).gen + 1) a b c d 0 link) (by kernel_rfl) [some 33, some 34, some 35, some 36, some 37, some 38, some 39, some 40, some 41, some 42, some 43, some 44, some 45, some 46, some 47, some 48] (fun k => match k with
    | 0 => pv p 0 | 1 => pv p 0 | 2 => pv p 0 | 3 => .slice (some ⟨sb, 0, none⟩) (s.n + 1) (s.n + 1) | 4 => .int .i64 i | 5 => pv sb i | 6 => pv (L i) 0 | 7 => pv (L i) 0 | 8 => pv (L i) 0 | 9 => pv (L i) 0 | 10 => .int .i64 (s.slot i).gen | 11 => .int .i64 ((s.slot i).gen + 1) | 12 => .agg #[.int .i64 a, .int .i64 b, .int .i64 c, .int .i64 d] | 13 => .int .i64 link | 14 => pv (W.drew.heap.size + 1) 0 | _ => .bool true) (by kernel_rfl) 14 15 (by decide) (by decide) (by decide) (by decide +kernel) ?_ ?_ ?_
  · intro k g b' h
    exact (no_guard (by kernel_rfl) h).elim
  · intro k hk o ac wa wb K ho hd _ hoff hv hL hK
    rcases (by simp at hk; omega : k = 0 ∨ k = 1 ∨ k = 2 ∨ k = 3 ∨ k = 4 ∨ k = 5 ∨ k = 6 ∨ k = 7 ∨ k = 8 ∨ k = 9 ∨ k = 10 ∨ k = 11 ∨ k = 12 ∨ k = 13 ∨ k = 14 ∨ k = 15) with rfl | rfl | rfl | rfl | rfl | rfl | rfl | rfl | rfl | rfl | rfl | rfl | rfl | rfl | rfl | rfl
    case inr.inr.inr.inr.inr.inr.inr.inr.inr.inr.inr.inr.inr.inr.inl =>
      obtain ⟨rfl, rfl⟩ : wa = W.drew ∧ wb = lifeW W.drew ((s.slot i).gen + 1) a b c d 0 link := by
        rcases hL with ⟨-, h2, h3⟩ | ⟨h1, -⟩ | ⟨h1, -⟩
        · exact ⟨h2, h3⟩
        · exact absurd h1 (by decide)
        · exact absurd rfl h1
      exact l_call hd (op_is rfl ho) (by simp [hv 11 44 rfl (by kernel_rfl), hv 12 45 rfl (by kernel_rfl), hv 13 46 rfl (by kernel_rfl)]; rfl) Tryz.func60 (by kernel_rfl) (by rfl) HNL hK
    case inr.inr.inr.inr.inr.inr.inr.inr.inr.inr.inr.inr.inr.inr.inr =>
      obtain ⟨rfl, rfl⟩ : wa = lifeW W.drew ((s.slot i).gen + 1) a b c d 0 link ∧ wb = ledW W.drew sb i ((s.slot i).gen + 1) a b c d 0 link := by
        rcases hL with ⟨h1, -⟩ | ⟨-, h2, h3⟩ | ⟨-, h1, -⟩
        · exact absurd h1 (by decide)
        · exact ⟨h2, h3⟩
        · exact absurd rfl h1
      exact l_call hd (op_is rfl ho) (by simp [hv 5 38 rfl (by kernel_rfl), hv 6 39 rfl (by kernel_rfl), hv 14 47 rfl (by kernel_rfl)]) Tryz.func59 (by kernel_rfl) (by rfl) HC hK
    all_goals
      obtain ⟨rfl, hw3⟩ : wb = wa ∧ (wa = W.drew ∨ wa = lifeW W.drew ((s.slot i).gen + 1) a b c d 0 link ∨ wa = ledW W.drew sb i ((s.slot i).gen + 1) a b c d 0 link) := by
        rcases hL with ⟨h1, -⟩ | ⟨h1, -⟩ | ⟨-, -, h2, h3 | ⟨-, h3⟩ | ⟨-, -, h3⟩⟩
        · exact absurd h1 (by decide)
        · exact absurd h1 (by decide)
        · exact ⟨h2, .inl h3⟩
        · exact ⟨h2, .inr (.inl h3)⟩
        · exact ⟨h2, .inr (.inr h3)⟩
      have three : ∀ {o : Obj} {r : Nat}, (W.drew.heap[r]? = some o ∧ (lifeW W.drew ((s.slot i).gen + 1) a b c d 0 link).heap[r]? = some o ∧ (ledW W.drew sb i ((s.slot i).gen + 1) a b c d 0 link).heap[r]? = some o) → wb.heap[r]? = some o := fun {o r} f => by
        rcases hw3 with e | e | e
        · rw [e]; exact f.1
        · rw [e]; exact f.2.1
        · rw [e]; exact f.2.2
      have gP := three fP
      have gL := three fL
      have gN := three fN
    · exact l_val hd ((x_move (op_is rfl ho)).trans (by rw [hoff 0 (by decide)]; rfl)) hK
    · exact l_val hd (x_nil (op_is rfl ho) (hv 0 33 rfl (by kernel_rfl))) hK
    · exact l_val hd (x_field (op_is rfl ho) (by rw [hv 1 34 rfl (by kernel_rfl)]; exact run_poolField _ p)) hK
    · exact l_val hd (x_load (op_is rfl ho) (by rw [hv 2 35 rfl (by kernel_rfl)]; exact run_loadSlots gP)) hK
    · exact l_val hd ((x_move (op_is rfl ho)).trans (by rw [hoff 10 (by decide)]; rfl)) hK
    · exact l_val hd (x_index (op_is rfl ho) (by rw [hv 3 36 rfl (by kernel_rfl), hv 4 37 rfl (by kernel_rfl)]; exact run_indexSlots _ sb s.n i hin)) hK
    · exact l_val hd ((x_move (op_is rfl ho)).trans (by rw [hoff 12 (by decide)]; rfl)) hK
    · exact l_val hd ((x_move (op_is rfl ho)).trans (by rw [hoff 12 (by decide)]; rfl)) hK
    · exact l_val hd (x_nil (op_is rfl ho) (hv 7 40 rfl (by kernel_rfl))) hK
    · exact l_val hd (x_field (op_is rfl ho) (by rw [hv 8 41 rfl (by kernel_rfl)]; exact (run_lifeField _ (L i)).1)) hK
    · exact l_val hd (x_load (op_is rfl ho) (by rw [hv 9 42 rfl (by kernel_rfl)]; exact run_lifeGen gL)) hK
    · exact l_val hd (x_add1 (op_is rfl ho) (hv 10 43 rfl (by kernel_rfl)) rfl hg0 hg1) hK
    · exact l_val hd (x_load (op_is rfl ho) (by rw [hoff 6 (by decide)]; exact run_loadNode gN)) hK
    · exact l_val hd ((x_move (op_is rfl ho)).trans (by rw [hoff 3 (by decide)]; rfl)) hK
  · intro a' h1 h2 h3 h4
    obtain ⟨cc, rfl, hcc⟩ := expand60 h1 h2
    have x10 : cc 10 = .int .i64 i := (hcc 10).trans ((ev_same (h3 10 (by decide))).trans rfl)
    have x12 : cc 12 = .pointer (some ⟨L i, 0, none⟩) := (hcc 12).trans ((ev_same (h3 12 (by decide))).trans rfl)
    have x48 : cc 48 = .bool true := (hcc 48).trans (h4 15 48 rfl)
    have hLed := hBd.led hin ((s.slot i).gen + 1) a b c d 0 link
    have l0 := cell_at fL.2.2 0
    simp at l0
    have HLed : Hid _ := hLed
    have hTW : Turned (blocks p sb pb nb L s.n) w (ledW W.drew sb i ((s.slot i).gen + 1) a b c d 0 link) := HT.out.drew.inner (ledW_turned (l := blocks p sb pb nb L s.n) (by simp [blocks]) W.drew i _ _ _ _ _ _ _) (fun x hx => .inl hx)
    have hsz := HT.out.size
    clear h1 h2 h3 h4 hcc hLed fP fL fN tP tL HC HNL hBd hB HB HN HT
    refine hK _ _ ?_
    unfold lit60
    simp only [x10, x12, x48]
    clear x10 x12 x48
    generalize hW2 : ledW W.drew sb i ((s.slot i).gen + 1) a b c d 0 link = W2 at *
    go_wp2_with (go_at_call 11; refine (HPk _).mono ?_; rintro e w' ⟨rfl, hw⟩; obtain rfl := hw.symm)
    go_ret2
    exact ⟨rfl, hTW, W.drew.heap.size + 1, (by show w.heap.size ≤ W.heap.size + 1; omega), HLed.out⟩
end
end Go.Proofs.YtjbhnpofdafmbaaGreatDoor
