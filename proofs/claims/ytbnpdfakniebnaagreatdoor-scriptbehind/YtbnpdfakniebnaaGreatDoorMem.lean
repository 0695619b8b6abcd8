/-
  What is said of memory: which blocks alone may have turned; objects in the order in which they were made; slices that grow beside each other.
-/
import Derived.WalkKit
import Derived.WalkSpells
import Derived.WalkLawsBesides
import Derived.Deep.OwnRows
import Derived.Laws.AppendOwnNone
namespace Go.Proofs.YtbnpdfakniebnaaGreatDoor
open Go.RowKit

/-- Of what was there, the blocks of l alone may have turned. -/
structure Turned (l : List Nat) (w w' : World) : Prop where
  os : w'.os = w.os
  tape : w'.tape = w.tape
  output : w'.output = w.output
  size : w.heap.size ≤ w'.heap.size
  block : ∀ k, k < w.heap.size → k ∉ l → w'.heap[k]? = w.heap[k]?
theorem Turned.refl (l : List Nat) (w : World) : Turned l w w := ⟨rfl, rfl, rfl, Nat.le_refl _, fun _ _ _ => rfl⟩
theorem Turned.trans {l : List Nat} {a b c : World} (h : Turned l a b) (k : Turned l b c) : Turned l a c :=
  ⟨k.os.trans h.os, k.tape.trans h.tape, k.output.trans h.output, Nat.le_trans h.size k.size, fun i hi hn => (k.block i (Nat.lt_of_lt_of_le hi h.size) hn).trans (h.block i hi hn)⟩
theorem Turned.mono {l m : List Nat} {a b : World} (h : Turned l a b) (hl : ∀ x, x ∈ l → x ∈ m) : Turned m a b :=
  ⟨h.os, h.tape, h.output, h.size, fun i hi hn => h.block i hi (fun e => hn (hl i e))⟩
/-- What was new to the caller need not be told. -/
theorem Turned.inner {l m : List Nat} {a b c : World} (h : Turned l a b) (k : Turned m b c) (hm : ∀ x, x ∈ m → x ∈ l ∨ a.heap.size ≤ x) : Turned l a c :=
  ⟨k.os.trans h.os, k.tape.trans h.tape, k.output.trans h.output, Nat.le_trans h.size k.size, fun i hi hn => (k.block i (Nat.lt_of_lt_of_le hi h.size) (fun e => by rcases hm i e with h1 | h1; exact hn h1; omega)).trans (h.block i hi hn)⟩
theorem Turned.of {l : List Nat} {a b : World} (h : Below a.heap.size a b) : Turned l a b := ⟨h.os, h.tape, h.output, h.size, fun i hi _ => h.block i hi⟩
theorem Turned.set {l : List Nat} {a w : World} (h : Turned l a w) {r : Nat} (hr : r ∈ l ∨ a.heap.size ≤ r) (o : Nat) (v : Value) : Turned l a (w.setCell ⟨r, o, none⟩ v) :=
  h.inner (m := [r]) ⟨rfl, rfl, rfl, by simp [World.setCell], fun k _ hn => Below.heap_setCell _ _ _ _ (by simpa using hn)⟩ (fun x hx => by simp at hx; subst hx; exact hr)
theorem Turned.alloc {l : List Nat} {a w : World} (h : Turned l a w) (o : Obj) : Turned l a (w.alloc o) :=
  h.trans ⟨rfl, rfl, rfl, by simp, fun k hk _ => Below.heap_alloc _ _ _ hk⟩
theorem Turned.drew {l : List Nat} {a w : World} (h : Turned l a w) : Turned l a w.drew := ⟨h.os, h.tape, h.output, h.size, h.block⟩
theorem Turned.below {l : List Nat} {B : Nat} {W a b : World} (h : Turned l a b) (hW : Below B W a) (hB : ∀ x, x ∈ l → B ≤ x) (hs : B ≤ a.heap.size) : Below B W b :=
  hW.trans ⟨h.os, h.tape, h.output, h.size, fun k hk => h.block k (by omega) (fun e => by have := hB k e; omega)⟩
theorem Turned.heap {l : List Nat} {a b : World} (h : Turned l a b) {r : Nat} {o : Obj} (ho : a.heap[r]? = some o) (hr : r ∉ l) : b.heap[r]? = some o :=
  (h.block r (Array.getElem?_eq_some_iff.1 ho).1 hr).trans ho
theorem Turned.cell {l : List Nat} {a b : World} (h : Turned l a b) {p : Addr} {v : Value} (hp : a.cell? p = some v) (hr : p.block ∉ l) : b.cell? p = some v :=
  (World.cell?_of_block (h.block p.block (World.block_lt_of_cell? a p hp) hr)).trans hp
theorem lt_of_heap {w : World} {r : Nat} {o : Obj} (ho : w.heap[r]? = some o) : r < w.heap.size := (Array.getElem?_eq_some_iff.1 ho).1

/-- A block's cells. -/
theorem cell_at {w : World} {b : Nat} {cs : Array Value} {T : TypeId} (h : w.heap[b]? = some (.cells cs T (0, 0))) (i : Nat) : w.cell? ⟨b, i, none⟩ = cs[i]? := by
  simp [World.cell?, h]
theorem froz_at {w : World} {b : Nat} {cs : Array Value} {T : TypeId} (h : w.heap[b]? = some (.cells cs T (0, 0))) (i : Nat) : w.frozen? ⟨b, i, none⟩ = false := by
  simp [World.frozen?, h]
theorem blk_set {w : World} {b : Nat} {cs : Array Value} {T : TypeId} (h : w.heap[b]? = some (.cells cs T (0, 0))) (i : Nat) (v : Value) : (w.setCell ⟨b, i, none⟩ v).heap[b]? = some (.cells (cs.setIfInBounds i v) T (0, 0)) := by
  simp [World.setCell, Array.getElem?_modify, h]
theorem blk_other {w : World} {b r : Nat} (hr : b ≠ r) (i : Nat) (v : Value) : (w.setCell ⟨r, i, none⟩ v).heap[b]? = w.heap[b]? := Below.heap_setCell _ _ _ _ hr
theorem blk_new (w : World) (o : Obj) : (w.alloc o).heap[w.heap.size]? = some o := heap_alloc_new w o
theorem blk_old {w : World} {b : Nat} {o : Obj} (h : w.heap[b]? = some o) (p : Obj) : (w.alloc p).heap[b]? = some o := (Below.heap_alloc _ _ _ (lt_of_heap h)).trans h

/-- Objects made one behind the other, and slices that grow beside them. -/
structure Bld (B : Nat) (et : Nat → TypeId) (w : World) (N : Nat) (E : Nat → Nat) (obj : Nat → Obj) (vs : Nat → Value) (xs : Nat → List Value) : Prop where
  obj : ∀ m, m < N → w.heap[E m]? = some (obj m)
  mono : ∀ m k, m < k → k < N → E m < E k
  low : ∀ m, m < N → B ≤ E m
  base : B ≤ w.heap.size
  row : ∀ s, w.ownsRow B (et s) 1 (vs s) (xs s).length (xs s)
  apart : ∀ s t, s ≠ t → (vs s).ownBlock = none ∨ (vs s).ownBlock ≠ (vs t).ownBlock
  off : ∀ s m, m < N → (vs s).ownBlock ≠ some (E m)
def upd {α : Type} (f : Nat → α) (n : Nat) (x : α) : Nat → α := fun k => if k = n then x else f k
theorem upd_same {α : Type} (f : Nat → α) (n : Nat) (x : α) : upd f n x n = x := by simp [upd]
theorem upd_other {α : Type} (f : Nat → α) {n k : Nat} (x : α) (h : k ≠ n) : upd f n x k = f k := by simp [upd, h]
section
variable {B : Nat} {et : Nat → TypeId} {w : World} {N : Nat} {E : Nat → Nat} {obj : Nat → Obj} {vs : Nat → Value} {xs : Nat → List Value}
theorem Bld.inj (h : Bld B et w N E obj vs xs) {m k : Nat} (hm : m < N) (hk : k < N) (he : E m = E k) : m = k := by
  rcases Nat.lt_trichotomy m k with h1 | h1 | h1
  · have := h.mono m k h1 hk; omega
  · exact h1
  · have := h.mono k m h1 hm; omega
theorem Bld.lt (h : Bld B et w N E obj vs xs) {m : Nat} (hm : m < N) : E m < w.heap.size := lt_of_heap (h.obj m hm)
/-- Something else is made. -/
theorem Bld.more (h : Bld B et w N E obj vs xs) {w' : World} (hb : Below w.heap.size w w') : Bld B et w' N E obj vs xs :=
  ⟨fun m hm => (hb.block _ (h.lt hm)).trans (h.obj m hm), h.mono, h.low, Nat.le_trans h.base hb.size,
   fun s => (h.row s).kept (row := none) ⟨hb.os, hb.tape, hb.output, hb.size, fun k hk _ => hb.block k hk⟩ (by cases hv : (vs s).ownBlock <;> simp), h.apart, h.off⟩
theorem Bld.drew (h : Bld B et w N E obj vs xs) : Bld B et w.drew N E obj vs xs := h.more (Below.refl _ _).drew
/-- The next object is made. -/
theorem Bld.next (h : Bld B et w N E obj vs xs) (o : Obj) : Bld B et (w.alloc o) (N + 1) (upd E N w.heap.size) (upd obj N o) vs xs := by
  have hm := h.more (w' := w.alloc o) ((Below.refl _ _).alloc (Nat.le_refl _) _)
  refine ⟨fun m hlt => ?_, fun m k hmk hk => ?_, fun m hlt => ?_, hm.base, hm.row, hm.apart, fun s m hlt => ?_⟩
  · by_cases e : m = N
    · subst e; rw [upd_same, upd_same]; exact blk_new w o
    · rw [upd_other _ _ e, upd_other _ _ e]; exact hm.obj m (by omega)
  · rw [upd_other _ _ (by omega : m ≠ N)]
    by_cases e : k = N
    · subst e; rw [upd_same]; exact h.lt (by omega)
    · rw [upd_other _ _ e]; exact h.mono m k hmk (by omega)
  · by_cases e : m = N
    · subst e; rw [upd_same]; exact h.base
    · rw [upd_other _ _ e]; exact h.low m (by omega)
  · by_cases e : m = N
    · subst e; rw [upd_same]
      intro hx
      have := ((h.row s).lt _ hx).2
      omega
    · rw [upd_other _ _ e]; exact h.off s m (by omega)
/-- An object turns. -/
theorem Bld.put (h : Bld B et w N E obj vs xs) {m : Nat} (hm : m < N) {w' : World} (ht : Turned [E m] w w') {o : Obj} (ho : w'.heap[E m]? = some o) : Bld B et w' N E (upd obj m o) vs xs := by
  refine ⟨fun k hk => ?_, h.mono, h.low, Nat.le_trans h.base ht.size, fun s => ?_, h.apart, h.off⟩
  · by_cases e : k = m
    · subst e; rw [upd_same]; exact ho
    · rw [upd_other _ _ e]
      exact ht.heap (h.obj k hk) (by simp; exact fun he => e (h.inj hk hm he))
  · exact (h.row s).kept (row := some (E m)) ⟨ht.os, ht.tape, ht.output, ht.size, fun k hk hn => ht.block k hk (by simp; exact fun he => hn (by rw [he]))⟩ (.inr (h.off s m hm))
/-- What an append of one does to its slice. -/
def Grew (w w' : World) (v v' : Value) : Prop := w.grownBy w' v.ownBlock ∧ (v'.ownBlock = v.ownBlock ∨ ∃ g, v'.ownBlock = some g ∧ w.heap.size ≤ g)
theorem Bld.push (h : Bld B et w N E obj vs xs) {s : Nat} {w' : World} {v' : Value} {u : Value} (hg : Grew w w' (vs s) v') (ho : w'.ownsRow B (et s) 1 v' ((xs s).length + 1) (xs s ++ [u])) :
    Bld B et w' N E obj (upd vs s v') (upd xs s (xs s ++ [u])) := by
  obtain ⟨hg, hn⟩ := hg
  have fresh : ∀ {t : Nat} {x g : Nat}, (vs t).ownBlock = some x → w.heap.size ≤ g → g ≠ x := fun {t} {x} {g} hx hge => by
    have := ((h.row t).lt _ hx).2
    omega
  refine ⟨fun m hm => ?_, h.mono, h.low, Nat.le_trans h.base hg.size, fun t => ?_, fun t r htr => ?_, fun t m hm => ?_⟩
  · exact (hg.block _ (h.lt hm) (fun e => h.off s m hm e.symm)).trans (h.obj m hm)
  · by_cases e : t = s
    · subst e; rw [upd_same, upd_same, List.length_append]; exact ho
    · rw [upd_other _ _ e, upd_other _ _ e]; exact (h.row t).kept hg (h.apart t s e)
  · by_cases e : t = s
    · subst e
      have e' : r ≠ t := fun e => htr e.symm
      rw [upd_same, upd_other _ _ e']
      rcases hn with hn | ⟨g, hn, hge⟩
      · rw [hn]; exact h.apart t r htr
      · rw [hn]; refine .inr fun hx => ?_
        exact fresh hx.symm hge rfl
    · rw [upd_other _ _ e]
      by_cases e' : r = s
      · subst e'
        rw [upd_same]
        rcases hn with hn | ⟨g, hn, hge⟩
        · rw [hn]; exact h.apart t r htr
        · rw [hn]
          cases hv : (vs t).ownBlock with
          | none => exact .inl rfl
          | some x => refine .inr fun hx => ?_; cases hx; exact fresh hv hge rfl
      · rw [upd_other _ _ e']; exact h.apart t r htr
  · by_cases e : t = s
    · subst e
      rw [upd_same]
      rcases hn with hn | ⟨g, hn, hge⟩
      · rw [hn]; exact h.off t m hm
      · rw [hn]; intro hx; cases hx; have := h.lt hm; omega
    · rw [upd_other _ _ e]; exact h.off t m hm
end
/-- 'append(s, u)': the row of s grows in its place, or a new one is made. -/
theorem run_push {P : Program} {w : World} (B : Nat) (t ty e : TypeId) (i : TypeInfo) (z : Value) (bytes : Nat) (ht : P.underlying t = some (.slice e)) (hi : P.info? e = some i) (hz : i.zero = some z)
    (hsize : i.size = 1) (hby : i.bytes = bytes) (hzs : z.cells.size = 1) (v : Value) (n : Nat) (xs : List Value) (hown : w.ownsRow B e 1 v n xs)
    (a : Addr) (c : Nat) (u : Value) (hu : w.cell? a = some u) (h1 : u.oneCell' = true) (h63 : n + 1 ≤ maxLen) (hbytes : (n + 1) * bytes ≤ 140737488355328) (hbase : B ≤ w.heap.size) :
    ∃ v' w', (Builtin.append_ #[t, t] ty #[v, .slice (some a) 1 c]).run P w = .ok v' w' ∧ w'.ownsRow B e 1 v' (n + 1) (xs ++ [u]) ∧ Grew w w' v v' := by
  have hnews : ∀ (j : Nat) (y : Value), [u][j]? = some y → w.cell? (a.add j) = some y := fun j y hy => by
    cases j with
    | zero => simp at hy; subst hy; simpa [Addr.add] using hu
    | succ j => simp at hy
  obtain ⟨v', w', hr, h2, h3, -⟩ := run_append_own (P := P) w B t ty e i z 1 bytes ht hi hz hsize hby hzs (by decide) v n xs hown a 1 c [u] rfl hnews (by simpa using h1) h63 hbytes hbase
  refine ⟨v', w', hr, h2, h3, ?_⟩
  rcases hown.2 with ⟨rfl, rfl⟩ | ⟨g, cap, cur, rfl, hbg, hg, hnc, hcm, hcs, htake⟩
  · obtain ⟨v2, w2, hr2, h22, -, -⟩ := run_append_own (P := P) w w.heap.size t ty e i z 1 bytes ht hi hz hsize hby hzs (by decide) (.slice none 0 0) 0 [] (World.ownsRow_nil _ _ _ _) a 1 c [u] rfl hnews (by simpa using h1) h63 hbytes (Nat.le_refl _)
    rw [hr] at hr2
    cases hr2
    rcases h22.2 with ⟨-, hx⟩ | ⟨g, cap, cur, rfl, hbg, -⟩
    · simp at hx
    · exact .inr ⟨g, rfl, hbg⟩
  · by_cases hroom : n + 1 ≤ cap
    · have hr2 := run_append_room (P := P) w t ty e i ht hi g n cap cur hg a 1 c [u] (by simp [hsize]) hnews (by simpa using h1) hroom (by simp [hsize, hcs]; omega)
      rw [hr] at hr2
      cases hr2
      exact .inl rfl
    · have hr2 := run_append_grow (P := P) w t ty e i z ht hi hz ⟨g, 0, none⟩ n cap xs (by rw [hown.1, hsize]) (hown.cells (g := g) rfl) a 1 c [u] (by simp [hsize]) hnews (by omega) (by simp only [maxLen] at h63; omega) (growslice_fits (by omega) (by rw [hby]; exact hbytes))
      rw [hr] at hr2
      cases hr2
      exact .inr ⟨_, rfl, Nat.le_refl _⟩
end Go.Proofs.YtbnpdfakniebnaaGreatDoor
