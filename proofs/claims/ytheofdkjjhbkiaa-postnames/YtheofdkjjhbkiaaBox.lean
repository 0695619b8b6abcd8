/- A box in memory: its lock, its channel, whether it is closed, how often it was changed. -/
import Derived.Test.YtheofdkjjhbkiaaRows
import Derived.Test.YtheofdkjjhbkiaaLocks
import Derived.Test.YtheofdkjjhbkiaaComm
import Derived.Conc.MuLone
import Derived.Laws.LoneSync
import Derived.WalkKit
namespace Go.Proofs.Ytheofdkjjhbkiaa
open Go.RowKit Go.Conc

theorem cell_setChan (w : World) (c cap : Nat) (buf : Array Value) (cl : Bool) (s r : Nat) (tm : Bool) (b i : Nat) (h : c ≠ b) :
    (w.setChan c cap buf cl s r tm).cell? ⟨b, i, none⟩ = w.cell? ⟨b, i, none⟩ := by
  simp [World.cell?, World.setChan, Array.getElem?_setIfInBounds_ne h]
theorem frozen_setChan (w : World) (c cap : Nat) (buf : Array Value) (cl : Bool) (s r : Nat) (tm : Bool) (b i : Nat) (h : c ≠ b) :
    (w.setChan c cap buf cl s r tm).frozen? ⟨b, i, none⟩ = w.frozen? ⟨b, i, none⟩ := by
  simp [World.frozen?, World.setChan, Array.getElem?_setIfInBounds_ne h]

structure Box (w : World) (lk : Int) (b c cap : Nat) (buf : Array Value) (cl : Bool) (s r : Nat) (n : Int) : Prop where
  ne : c ≠ b
  h0 : w.cell? ⟨b, 0, none⟩ = some (.int .i32 lk)
  h2 : w.cell? ⟨b, 2, none⟩ = some (.chan (some c))
  h3 : w.cell? ⟨b, 3, none⟩ = some (.bool cl)
  h4 : w.cell? ⟨b, 4, none⟩ = some (.int .i64 n)
  z0 : w.frozen? ⟨b, 0, none⟩ = false
  z4 : w.frozen? ⟨b, 4, none⟩ = false
  hc : w.heap[c]? = some (.chan cap buf cl s r false)

section
variable {w : World} {lk : Int} {b c cap : Nat} {buf : Array Value} {cl : Bool} {s r : Nat} {n : Int}
theorem Box.lock (h : Box w lk b c cap buf cl s r n) (k : Int) : Box (w.setCell ⟨b, 0, none⟩ (.int .i32 k)) k b c cap buf cl s r n :=
  ⟨h.ne, World.cell?_setCell_same _ _ _ h.h0, (World.cell?_setCell_other _ _ _ _ (by simp)).trans h.h2, (World.cell?_setCell_other _ _ _ _ (by simp)).trans h.h3, (World.cell?_setCell_other _ _ _ _ (by simp)).trans h.h4,
    by simp [h.z0], by simp [h.z4], (Below.heap_setCell _ _ _ _ h.ne).trans h.hc⟩
theorem Box.count (h : Box w lk b c cap buf cl s r n) (k : Int) : Box (w.setCell ⟨b, 4, none⟩ (.int .i64 k)) lk b c cap buf cl s r k :=
  ⟨h.ne, (World.cell?_setCell_other _ _ _ _ (by simp)).trans h.h0, (World.cell?_setCell_other _ _ _ _ (by simp)).trans h.h2, (World.cell?_setCell_other _ _ _ _ (by simp)).trans h.h3, World.cell?_setCell_same _ _ _ h.h4,
    by simp [h.z0], by simp [h.z4], (Below.heap_setCell _ _ _ _ h.ne).trans h.hc⟩
theorem Box.chan (h : Box w lk b c cap buf cl s r n) (buf' : Array Value) (s' r' : Nat) : Box (w.setChan c cap buf' cl s' r' false) lk b c cap buf' cl s' r' n :=
  ⟨h.ne, (cell_setChan _ _ _ _ _ _ _ _ _ _ h.ne).trans h.h0, (cell_setChan _ _ _ _ _ _ _ _ _ _ h.ne).trans h.h2, (cell_setChan _ _ _ _ _ _ _ _ _ _ h.ne).trans h.h3, (cell_setChan _ _ _ _ _ _ _ _ _ _ h.ne).trans h.h4,
    (frozen_setChan _ _ _ _ _ _ _ _ _ _ h.ne).trans h.z0, (frozen_setChan _ _ _ _ _ _ _ _ _ _ h.ne).trans h.z4, heap_setChan _ _ _ _ _ _ _ _ (by
      have := h.hc
      rcases Nat.lt_or_ge c w.heap.size with hlt | hge
      · exact hlt
      · rw [Array.getElem?_eq_none hge] at this; cases this)⟩
end
end Go.Proofs.Ytheofdkjjhbkiaa
