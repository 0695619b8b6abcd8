/- A pool in memory: its slots lead each to what it is in one generation. -/
import Derived.Test.YtfebndolnnaiiabPoolRow
import Derived.Test.YtfebndolnnaiiabPileWalk
import Derived.Test.YtfebndolnnaiiabAtom2
namespace Go.Proofs.Ytfebndolnnaiiab
open Go.RowKit
abbrev lifeObj (S : Slot) : Obj := .cells #[.int .i64 S.gen, .int .i64 S.a, .int .i64 S.b, .int .i64 S.c, .int .i64 S.d, .int .i64 S.mark, .int .i64 S.link] 66 (0, 0)
abbrev ptrObj (L : Nat → Nat) (n : Nat) : Obj := .cells ((List.range (n + 1)).map fun k => Value.pointer (some ⟨L k, 0, none⟩)).toArray 70 (0, 0)
abbrev poolObj (sb pb n : Nat) (fa : Int) : Obj := .cells #[.slice (some ⟨sb, 0, none⟩) (n + 1) (n + 1), .pointer (some ⟨pb, 0, none⟩), .int .i64 fa] 63 (0, 0)
structure PA (w : World) (p sb pb nb : Nat) (L : Nat → Nat) (s : PSt) : Prop where
  pool : w.heap[p]? = some (poolObj sb pb s.n s.faults)
  slots : w.heap[sb]? = some (ptrObj L s.n)
  life : ∀ i, i ≤ s.n → w.heap[L i]? = some (lifeObj (s.slot i))
  pile : PileAt w pb nb s.n s.h (fun k => (s.f k : Int))
  once : ∀ i j, i ≤ s.n → j ≤ s.n → i ≠ j → L i = L j → (s.slot i).gen = 0
theorem ptr_cell {w : World} {sb n : Nat} {L : Nat → Nat} (h : w.heap[sb]? = some (ptrObj L n)) {k : Nat} (hk : k ≤ n) : w.cell? ⟨sb, k, none⟩ = some (.pointer (some ⟨L k, 0, none⟩)) := by
  rw [cell_at h, List.getElem?_toArray, List.getElem?_map, List.getElem?_range (by omega)]; rfl
theorem ptr_put {w : World} {sb n : Nat} {L : Nat → Nat} (h : w.heap[sb]? = some (ptrObj L n)) {k : Nat} (v : Nat) : (w.setCell ⟨sb, k, none⟩ (.pointer (some ⟨v, 0, none⟩))).heap[sb]? = some (ptrObj (upd L k v) n) := by
  rw [blk_set h]
  congr 2
  apply Array.ext
  · simp
  · intro i h1 h2
    simp only [List.size_toArray, List.length_map, List.length_range] at h2
    by_cases e : i = k
    · subst e; simp [upd]
    · have e' : ¬ k = i := fun x => e x.symm
      simp [upd, e, e']
theorem other_type {w : World} {a b : Nat} {x y : Array Value} {S T : TypeId} (ha : w.heap[a]? = some (.cells x S (0, 0))) (hb : w.heap[b]? = some (.cells y T (0, 0))) (h : S ≠ T) : a ≠ b := fun e => by
  subst e
  rw [ha] at hb
  injection hb with hb
  injection hb with _ hb
  exact h hb
section
variable {w : World} {p sb pb nb : Nat} {L : Nat → Nat} {s : PSt} {i : Nat}
theorem PA.d1 (h : PA w p sb pb nb L s) : p ≠ sb := other_type h.pool h.slots (by decide)
theorem PA.d2 (h : PA w p sb pb nb L s) : p ≠ pb := other_type h.pool h.pile.head (by decide)
theorem PA.d3 (h : PA w p sb pb nb L s) : p ≠ nb := other_type h.pool h.pile.next (by decide)
theorem PA.d4 (h : PA w p sb pb nb L s) : sb ≠ pb := other_type h.slots h.pile.head (by decide)
theorem PA.d5 (h : PA w p sb pb nb L s) : sb ≠ nb := other_type h.slots h.pile.next (by decide)
theorem PA.l1 (h : PA w p sb pb nb L s) (hi : i ≤ s.n) : L i ≠ p := other_type (h.life i hi) h.pool (by decide)
theorem PA.l2 (h : PA w p sb pb nb L s) (hi : i ≤ s.n) : L i ≠ sb := other_type (h.life i hi) h.slots (by decide)
theorem PA.l3 (h : PA w p sb pb nb L s) (hi : i ≤ s.n) : L i ≠ pb := other_type (h.life i hi) h.pile.head (by decide)
theorem PA.l4 (h : PA w p sb pb nb L s) (hi : i ≤ s.n) : L i ≠ nb := other_type (h.life i hi) h.pile.next (by decide)
def blocks (p sb pb nb : Nat) (L : Nat → Nat) (n : Nat) : List Nat := [p, sb, pb, nb] ++ (List.range (n + 1)).map L
theorem mem_life {n : Nat} (hi : i ≤ n) : L i ∈ blocks p sb pb nb L n := List.mem_append_right _ (List.mem_map.2 ⟨i, List.mem_range.2 (by omega), rfl⟩)
theorem mem_blocks {n x : Nat} (h : x ∈ blocks p sb pb nb L n) : x = p ∨ x = sb ∨ x = pb ∨ x = nb ∨ ∃ k, k ≤ n ∧ x = L k := by
  rcases List.mem_append.1 h with h | h
  · simp at h
    rcases h with h | h | h | h
    · exact .inl h
    · exact .inr (.inl h)
    · exact .inr (.inr (.inl h))
    · exact .inr (.inr (.inr (.inl h)))
  · obtain ⟨k, hk, rfl⟩ := List.mem_map.1 h
    exact .inr (.inr (.inr (.inr ⟨k, by have := List.mem_range.1 hk; omega, rfl⟩)))
/-- What isn't the pool's turned. -/
theorem PA.keep (h : PA w p sb pb nb L s) {l : List Nat} {w' : World} (ht : Turned l w w') (hl : ∀ x, x ∈ l → x ∉ blocks p sb pb nb L s.n) : PA w' p sb pb nb L s := by
  have m : ∀ x, x ∈ blocks p sb pb nb L s.n → x ∉ l := fun x hx hxl => hl x hxl hx
  exact ⟨ht.heap h.pool (m _ (by simp [blocks])), ht.heap h.slots (m _ (by simp [blocks])), fun i hi => ht.heap (h.life i hi) (m _ (mem_life hi)), ⟨ht.heap h.pile.head (m _ (by simp [blocks])), ht.heap h.pile.next (m _ (by simp [blocks])), h.pile.ne⟩, h.once⟩
theorem PA.lt (h : PA w p sb pb nb L s) : ∀ x, x ∈ blocks p sb pb nb L s.n → x < w.heap.size := fun x hx => by
  rcases mem_blocks hx with rfl | rfl | rfl | rfl | ⟨k, hk, rfl⟩
  · exact lt_of_heap h.pool
  · exact lt_of_heap h.slots
  · exact lt_of_heap h.pile.head
  · exact lt_of_heap h.pile.next
  · exact lt_of_heap (h.life k hk)
theorem PA.alien (h : PA w p sb pb nb L s) : ∀ x, x ∈ blocks p sb pb nb L s.n → ∀ cur : Array Value, w.heap[x]? ≠ some (.cells cur 33 (0, 0)) := fun x hx cur hc => by
  rcases mem_blocks hx with rfl | rfl | rfl | rfl | ⟨k, hk, rfl⟩
  · exact other_type h.pool hc (by decide) rfl
  · exact other_type h.slots hc (by decide) rfl
  · exact other_type h.pile.head hc (by decide) rfl
  · exact other_type h.pile.next hc (by decide) rfl
  · exact other_type (h.life k hk) hc (by decide) rfl
theorem PA.alloc (h : PA w p sb pb nb L s) (o : Obj) : PA (w.alloc o) p sb pb nb L s := h.keep ((Turned.refl [] w).alloc o) (by simp)
theorem PA.fault (h : PA w p sb pb nb L s) : PA (w.setCell ⟨p, 2, none⟩ (.int .i64 (s.faults + 1))) p sb pb nb L s.fault :=
  ⟨(blk_set h.pool 2 _).trans (by simp [PSt.fault]), (blk_other h.d1.symm _ _).trans h.slots, fun i hi => (blk_other (h.l1 hi) _ _).trans (h.life i hi), ⟨(blk_other h.d2.symm _ _).trans h.pile.head, (blk_other h.d3.symm _ _).trans h.pile.next, h.pile.ne⟩, h.once⟩
/-- A slot's life is written. -/
theorem PA.put (h : PA w p sb pb nb L s) (hi : i ≤ s.n) (hg : (s.slot i).gen ≠ 0) {j : Nat} {v : Value} {S : Slot} (hS : (w.setCell ⟨L i, j, none⟩ v).heap[L i]? = some (lifeObj S)) (hgS : S.gen = (s.slot i).gen) : PA (w.setCell ⟨L i, j, none⟩ v) p sb pb nb L { s with slot := upd s.slot i S } := by
  refine ⟨(blk_other (h.l1 hi).symm _ _).trans h.pool, (blk_other (h.l2 hi).symm _ _).trans h.slots, fun k hk => ?_, ⟨(blk_other (h.l3 hi).symm _ _).trans h.pile.head, (blk_other (h.l4 hi).symm _ _).trans h.pile.next, h.pile.ne⟩, fun a b ha hb hab he => ?_⟩
  · by_cases e : k = i
    · subst e
      show _ = some (lifeObj (upd s.slot k S k))
      rw [upd_same]
      exact hS
    · show _ = some (lifeObj (upd s.slot i S k))
      rw [upd_other _ _ e, blk_other (fun x => hg (h.once i k hi hk (fun y => e y.symm) x.symm))]
      exact h.life k hk
  · show (upd s.slot i S a).gen = 0
    by_cases e : a = i
    · subst e
      exact absurd (h.once a b ha hb hab he) hg
    · rw [upd_other _ _ e]
      exact h.once a b ha hb hab he
theorem PA.putMark (h : PA w p sb pb nb L s) (hi : i ≤ s.n) (hg : (s.slot i).gen ≠ 0) (v : Int) : PA (w.setCell ⟨L i, 5, none⟩ (.int .i64 v)) p sb pb nb L (s.putMark i v) :=
  h.put hi hg (S := { s.slot i with mark := v }) ((blk_set (h.life i hi) 5 _).trans (by simp)) rfl
theorem PA.putLink (h : PA w p sb pb nb L s) (hi : i ≤ s.n) (hg : (s.slot i).gen ≠ 0) (v : Int) : PA (w.setCell ⟨L i, 6, none⟩ (.int .i64 v)) p sb pb nb L (s.putLink i v) :=
  h.put hi hg (S := { s.slot i with link := v }) ((blk_set (h.life i hi) 6 _).trans (by simp)) rfl
/-- A slot gets another life. -/
theorem PA.lead (h : PA w p sb pb nb L s) {b : Nat} {S : Slot} (hi : i ≤ s.n) (hb : w.heap[b]? = some (lifeObj S)) (hn : ∀ k, k ≤ s.n → L k ≠ b) : PA (w.setCell ⟨sb, i, none⟩ (.pointer (some ⟨b, 0, none⟩))) p sb pb nb (upd L i b) { s with slot := upd s.slot i S } := by
  have hbs : b ≠ sb := other_type hb h.slots (by decide)
  refine ⟨(blk_other h.d1 _ _).trans h.pool, ptr_put h.slots b, fun k hk => ?_, ⟨(blk_other h.d4.symm _ _).trans h.pile.head, (blk_other h.d5.symm _ _).trans h.pile.next, h.pile.ne⟩, fun a c ha hc hac he => ?_⟩
  · by_cases e : k = i
    · subst e
      show _ = some (lifeObj (upd s.slot k S k))
      rw [upd_same, upd_same, blk_other hbs]
      exact hb
    · show _ = some (lifeObj (upd s.slot i S k))
      rw [upd_other _ _ e, upd_other _ _ e, blk_other (h.l2 hk)]
      exact h.life k hk
  · show (upd s.slot i S a).gen = 0
    by_cases e : a = i
    · subst e
      rw [upd_same, upd_other _ _ (fun x => hac x.symm)] at he
      exact absurd he.symm (hn c hc)
    · rw [upd_other _ _ e] at he ⊢
      by_cases e2 : c = i
      · subst e2
        rw [upd_same] at he
        exact absurd he (hn a ha)
      · rw [upd_other _ _ e2] at he
        exact h.once a c ha hc hac he
theorem PA.pop (h : PA w p sb pb nb L s) (v : Int) : PA (w.setCell ⟨pb, 0, none⟩ (.int .i64 v)) p sb pb nb L { s with h := v } :=
  ⟨(blk_other h.d2 _ _).trans h.pool, (blk_other h.d4 _ _).trans h.slots, fun i hi => (blk_other (h.l3 hi) _ _).trans (h.life i hi), ⟨(blk_set h.pile.head 0 _).trans (by simp), (blk_other h.pile.ne.symm _ _).trans h.pile.next, h.pile.ne⟩, h.once⟩
theorem PA.push (h : PA w p sb pb nb L s) (hi : i ≤ s.n) (h0 : 0 ≤ s.h) (v : Int) : PA ((w.drew.setCell ⟨nb, i, none⟩ (.int .i64 (idxV s.h))).setCell ⟨pb, 0, none⟩ (.int .i64 v)) p sb pb nb L { s with h := v, f := upd s.f i (idxV s.h).toNat } := by
  refine ⟨(blk_other h.d2 _ _).trans ((blk_other h.d3 _ _).trans h.pool), (blk_other h.d4 _ _).trans ((blk_other h.d5 _ _).trans h.slots), fun k hk => (blk_other (h.l3 hk) _ _).trans ((blk_other (h.l4 hk) _ _).trans (h.life k hk)), ⟨(blk_set ((blk_other h.pile.ne _ _).trans h.pile.head) 0 _).trans (by simp), ?_, h.pile.ne⟩, h.once⟩
  rw [blk_other h.pile.ne.symm, next_put (w := w.drew) h.pile.next hi]
  have := idx_nat h0
  congr 2
  congr 1
  congr 1
  funext k
  show upd (fun k => (s.f k : Int)) i (idxV s.h) k = ((upd s.f i (idxV s.h).toNat k : Nat) : Int)
  unfold upd
  by_cases e : k = i
  · simp only [e, if_true]; omega
  · simp only [e, if_false]
/-- With another life the pool's memory is wider by it. -/
theorem wider_lead {b : Nat} {w0 : World} {n : Nat} (hb : w0.heap.size ≤ b) : Wider (blocks p sb pb nb L n) (blocks p sb pb nb (upd L i b) n) w0 := fun x hx => by
  rcases mem_blocks hx with rfl | rfl | rfl | rfl | ⟨k, hk, rfl⟩
  · exact .inl (by simp [blocks])
  · exact .inl (by simp [blocks])
  · exact .inl (by simp [blocks])
  · exact .inl (by simp [blocks])
  · by_cases e : k = i
    · subst e; rw [upd_same]; exact .inr hb
    · rw [upd_other _ _ e]; exact .inl (mem_life hk)
end
end Go.Proofs.Ytfebndolnnaiiab
