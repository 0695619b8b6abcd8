/- The region of three pushes, in whatever order. -/
import Derived.Test.YtogcjdbggihbpaaOrders
import Derived.BigRegion
namespace Go.Proofs.Ytogcjdbggihbpaa
open Go.RowKit Go.Conc Go.MuLone
def t3 {α : Type} (f : Nat → α) (p0 p1 p2 : α) : Nat → α := fun s => if s = 0 then p0 else if s = 1 then p1 else if s = 2 then p2 else f s
theorem t3_self {α : Type} (f : Nat → α) : t3 f (f 0) (f 1) (f 2) = f := by
  funext s; simp only [t3]; split
  · simp_all
  · split
    · simp_all
    · split <;> simp_all
theorem t3_0 {α : Type} (f : Nat → α) (p0 p1 p2 v : α) : upd (t3 f p0 p1 p2) 0 v = t3 f v p1 p2 := by
  funext s; simp only [t3, upd]; split <;> simp_all
theorem t3_1 {α : Type} (f : Nat → α) (p0 p1 p2 v : α) : upd (t3 f p0 p1 p2) 1 v = t3 f p0 v p2 := by
  funext s; simp only [t3, upd]; split
  · simp_all
  · split <;> simp_all
theorem t3_2 {α : Type} (f : Nat → α) (p0 p1 p2 v : α) : upd (t3 f p0 p1 p2) 2 v = t3 f p0 p1 v := by
  funext s; simp only [t3, upd]; split
  · simp_all
  · split
    · simp_all
    · split <;> simp_all
theorem t3_at0 {α : Type} (f : Nat → α) (p0 p1 p2 : α) : t3 f p0 p1 p2 0 = p0 := rfl
theorem t3_at1 {α : Type} (f : Nat → α) (p0 p1 p2 : α) : t3 f p0 p1 p2 1 = p1 := rfl
theorem t3_at2 {α : Type} (f : Nat → α) (p0 p1 p2 : α) : t3 f p0 p1 p2 2 = p2 := rfl
theorem t3_upd {α : Type} (f : Nat → α) (p0 p1 p2 : α) : t3 f p0 p1 p2 = upd (upd (upd f 0 p0) 1 p1) 2 p2 := by
  funext s; simp only [t3, upd]
  by_cases h0 : s = 0
  · subst h0; simp
  · by_cases h1 : s = 1
    · subst h1; simp
    · simp [h0, h1]
structure Pm where
  W : World
  z : Nat
  k : Nat
  N : Nat
  e : Nat → Nat → Nat
  ob : Nat → Nat → Obj
  nb : Nat → Nat
  no : Nat → Obj
  vs : Nat → Value
  xs : Nat → List Value
  x : Nat
  y : Nat
  t : Nat
  a0 : Act
def on (l : Array Bool) (i : Nat) : Bool := l.getD i false
def D13 : List Nat := [71, 72, 73, 74, 75, 76, 77, 78, 79, 80, 81, 82, 7, 8]
/-- A slice of one that was just laid, and what lies in it. -/
def Tmp1 (N : Nat) (w : World) (v u : Value) : Prop := ∃ b, N ≤ b ∧ v = .slice (some ⟨b, 0, none⟩) 1 1 ∧ w.cell? ⟨b, 0, none⟩ = some u
def pk (b : Bool) {α : Type} (x y : α) : α := if b then x else y
theorem pk_t {α : Type} (x y : α) : pk true x y = x := rfl
theorem pk_f {α : Type} (x y : α) : pk false x y = y := rfl
structure I13 (p : Pm) (l : Array Bool) (a : Act) (w : World) : Prop where
  size : l.size = 15
  tsize : a.tmps.size = p.a0.tmps.size
  defers : a.defers = p.a0.defers
  off : ∀ s, s ∉ D13 → a.tmps[s]? = p.a0.tmps[s]?
  m0 : on l 0 = true → a.eval (.tmp 71) = p.vs 0
  m1 : on l 1 = true → a.eval (.tmp 72) = ptr p.x
  m4 : on l 4 = true → a.eval (.tmp 75) = p.vs 1
  m5 : on l 5 = true → a.eval (.tmp 76) = ptr p.y
  m8 : on l 8 = true → a.eval (.tmp 79) = p.vs 2
  m9 : on l 9 = true → a.eval (.tmp 80) = ptr p.t
  b2 : on l 2 = true → Tmp1 p.N w (a.eval (.tmp 73)) (ptr p.x)
  b6 : on l 6 = true → Tmp1 p.N w (a.eval (.tmp 77)) (ptr p.y)
  b10 : on l 10 = true → Tmp1 p.N w (a.eval (.tmp 81)) (ptr p.t)
  s7 : on l 12 = false → a.eval (.tmp 7) = p.vs 0
  s8 : on l 13 = false → a.eval (.tmp 8) = p.vs 1
  d12 : on l 12 = true → on l 0 = true ∧ on l 3 = true
  d13 : on l 13 = true → on l 4 = true ∧ on l 7 = true
  d14 : on l 14 = true → on l 8 = true ∧ on l 11 = true
  big : p.N ≤ w.heap.size
  mid : ∃ v0 v1 v2, (on l 3 = true → a.eval (.tmp 74) = v0) ∧ (on l 7 = true → a.eval (.tmp 78) = v1) ∧ (on l 11 = true → a.eval (.tmp 82) = v2) ∧ (on l 12 = true → a.eval (.tmp 7) = v0) ∧ (on l 13 = true → a.eval (.tmp 8) = v1) ∧
    Mid p.W (p.z + 1) p.z (pk (on l 14) v2 (p.vs 2)) w p.k 3 (updK p.e p.k p.nb) (updK p.ob p.k p.no) (t3 p.vs (pk (on l 3) v0 (p.vs 0)) (pk (on l 7) v1 (p.vs 1)) (pk (on l 11) v2 (p.vs 2))) (t3 p.xs (pk (on l 3) (p.xs 0 ++ [ptr p.x]) (p.xs 0)) (pk (on l 7) (p.xs 1 ++ [ptr p.y]) (p.xs 1)) (pk (on l 11) (p.xs 2 ++ [ptr p.t]) (p.xs 2)))
theorem on_set {l : Array Bool} (i j : Nat) (hl : l.size = 15) (hi : i < 15) : on (l.setIfInBounds i true) j = if i = j then true else on l j := by
  unfold on
  by_cases h : i = j
  · subst h; simp [Array.getD, hl, hi]
  · rw [if_neg h]; simp [Array.getD_eq_getD_getElem?, h]
theorem ev_put {a : Act} (d s : Nat) (v : Value) (hd : d < a.tmps.size) : (a.put (some d) v).eval (.tmp s) = if d = s then v else a.eval (.tmp s) := by
  by_cases h : d = s
  · subst h; simp [Act.put, Act.eval, Array.getD, hd]
  · rw [if_neg h]; simp [Act.put, Act.eval, Array.getD_eq_getD_getElem?, h]
theorem off_put {a a0 : Act} {d : Nat} {v : Value} (h : ∀ s, s ∉ D13 → a.tmps[s]? = a0.tmps[s]?) (hd : d ∈ D13) : ∀ s, s ∉ D13 → (a.put (some d) v).tmps[s]? = a0.tmps[s]? := fun s hs => by
  have : d ≠ s := fun e => hs (e ▸ hd)
  simp only [Act.put, Array.getElem?_setIfInBounds, this, if_false]
  exact h s hs
theorem put_size {a : Act} {d : Nat} {v : Value} : (a.put (some d) v).tmps.size = a.tmps.size := by simp [Act.put]
theorem Tmp1.keep {N : Nat} {w w' : World} {v u : Value} (h : Tmp1 N w v u) (hw : ∀ b o y, N ≤ b → w.cell? ⟨b, o, none⟩ = some y → w'.cell? ⟨b, o, none⟩ = some y) : Tmp1 N w' v u := by
  obtain ⟨b, h1, h2, h3⟩ := h
  exact ⟨b, h1, h2, hw b 0 u h1 h3⟩
theorem keep_alloc (N : Nat) (w : World) (o : Obj) : ∀ b f (y : Value), N ≤ b → w.cell? ⟨b, f, none⟩ = some y → (w.alloc o).cell? ⟨b, f, none⟩ = some y := fun _ _ _ _ h => cold h
section
variable {p : Pm} {l : Array Bool} {a : Act} {w : World}
theorem I13.hd (h : I13 p l a w) (hs : p.a0.tmps.size = 369) {d : Nat} (hd : d < 369) : d < a.tmps.size := by rw [h.tsize, hs]; exact hd
variable {Q : Exit → Act → World → Prop}
theorem st0 (h : I13 p l a w) (hs : p.a0.tmps.size = 369) (h12 : on l 12 = false) : ∀ o : Oper, o.op = .move (.tmp 7) → o.dst = (some 71) → Oper.wp Try.prog o a w (fun a' w' => I13 p (l.setIfInBounds 0 true) a' w') Q := by
  intro o hop hdst
  have onS := fun j => on_set (l := l) 0 j h.size (by omega)
  have hdd := h.hd hs (d := 71) (by omega)
  have evS := fun s v => ev_put (a := a) 71 s v hdd
  obtain ⟨v0, v1, v2, c3, c7, c11, c12, c13, hM⟩ := h.mid
  unfold Oper.wp
  rw [BigFrame.run_move (.tmp 7) hop]
  simp only [Oper.upon, hdst]
  exact ⟨by simp [h.size], by rw [put_size]; exact h.tsize, h.defers, off_put h.off (by decide), by simpa [onS, evS] using h.s7 h12, by first | (simp [onS]; done) | simpa [onS, evS] using h.m1, by first | (simp [onS]; done) | simpa [onS, evS] using h.m4, by first | (simp [onS]; done) | simpa [onS, evS] using h.m5, by first | (simp [onS]; done) | simpa [onS, evS] using h.m8, by first | (simp [onS]; done) | simpa [onS, evS] using h.m9, by first | (simp [onS]; done) | simpa [onS, evS] using h.b2, by first | (simp [onS]; done) | simpa [onS, evS] using h.b6, by first | (simp [onS]; done) | simpa [onS, evS] using h.b10, by first | (simp [onS]; done) | simpa [onS, evS] using h.s7, by first | (simp [onS]; done) | simpa [onS, evS] using h.s8, fun hh => by simp [onS, h.d12 (by simpa [onS] using hh)], fun hh => by simp [onS, h.d13 (by simpa [onS] using hh)], fun hh => by simp [onS, h.d14 (by simpa [onS] using hh)], h.big, ⟨v0, v1, v2, by simpa [onS, evS] using c3, by simpa [onS, evS] using c7, by simpa [onS, evS] using c11, by simpa [onS, evS] using c12, by simpa [onS, evS] using c13, by simpa [onS] using hM⟩⟩
theorem st1 (h : I13 p l a w) (hs : p.a0.tmps.size = 369) (h14 : a.eval (.tmp 14) = ptr p.x) : ∀ o : Oper, o.op = .move (.tmp 14) → o.dst = (some 72) → Oper.wp Try.prog o a w (fun a' w' => I13 p (l.setIfInBounds 1 true) a' w') Q := by
  intro o hop hdst
  have onS := fun j => on_set (l := l) 1 j h.size (by omega)
  have hdd := h.hd hs (d := 72) (by omega)
  have evS := fun s v => ev_put (a := a) 72 s v hdd
  obtain ⟨v0, v1, v2, c3, c7, c11, c12, c13, hM⟩ := h.mid
  unfold Oper.wp
  rw [BigFrame.run_move (.tmp 14) hop]
  simp only [Oper.upon, hdst]
  exact ⟨by simp [h.size], by rw [put_size]; exact h.tsize, h.defers, off_put h.off (by decide), by first | (simp [onS]; done) | simpa [onS, evS] using h.m0, by simpa [onS, evS] using h14, by first | (simp [onS]; done) | simpa [onS, evS] using h.m4, by first | (simp [onS]; done) | simpa [onS, evS] using h.m5, by first | (simp [onS]; done) | simpa [onS, evS] using h.m8, by first | (simp [onS]; done) | simpa [onS, evS] using h.m9, by first | (simp [onS]; done) | simpa [onS, evS] using h.b2, by first | (simp [onS]; done) | simpa [onS, evS] using h.b6, by first | (simp [onS]; done) | simpa [onS, evS] using h.b10, by first | (simp [onS]; done) | simpa [onS, evS] using h.s7, by first | (simp [onS]; done) | simpa [onS, evS] using h.s8, fun hh => by simp [onS, h.d12 (by simpa [onS] using hh)], fun hh => by simp [onS, h.d13 (by simpa [onS] using hh)], fun hh => by simp [onS, h.d14 (by simpa [onS] using hh)], h.big, ⟨v0, v1, v2, by simpa [onS, evS] using c3, by simpa [onS, evS] using c7, by simpa [onS, evS] using c11, by simpa [onS, evS] using c12, by simpa [onS, evS] using c13, by simpa [onS] using hM⟩⟩
theorem st4 (h : I13 p l a w) (hs : p.a0.tmps.size = 369) (h13 : on l 13 = false) : ∀ o : Oper, o.op = .move (.tmp 8) → o.dst = (some 75) → Oper.wp Try.prog o a w (fun a' w' => I13 p (l.setIfInBounds 4 true) a' w') Q := by
  intro o hop hdst
  have onS := fun j => on_set (l := l) 4 j h.size (by omega)
  have hdd := h.hd hs (d := 75) (by omega)
  have evS := fun s v => ev_put (a := a) 75 s v hdd
  obtain ⟨v0, v1, v2, c3, c7, c11, c12, c13, hM⟩ := h.mid
  unfold Oper.wp
  rw [BigFrame.run_move (.tmp 8) hop]
  simp only [Oper.upon, hdst]
  exact ⟨by simp [h.size], by rw [put_size]; exact h.tsize, h.defers, off_put h.off (by decide), by first | (simp [onS]; done) | simpa [onS, evS] using h.m0, by first | (simp [onS]; done) | simpa [onS, evS] using h.m1, by simpa [onS, evS] using h.s8 h13, by first | (simp [onS]; done) | simpa [onS, evS] using h.m5, by first | (simp [onS]; done) | simpa [onS, evS] using h.m8, by first | (simp [onS]; done) | simpa [onS, evS] using h.m9, by first | (simp [onS]; done) | simpa [onS, evS] using h.b2, by first | (simp [onS]; done) | simpa [onS, evS] using h.b6, by first | (simp [onS]; done) | simpa [onS, evS] using h.b10, by first | (simp [onS]; done) | simpa [onS, evS] using h.s7, by first | (simp [onS]; done) | simpa [onS, evS] using h.s8, fun hh => by simp [onS, h.d12 (by simpa [onS] using hh)], fun hh => by simp [onS, h.d13 (by simpa [onS] using hh)], fun hh => by simp [onS, h.d14 (by simpa [onS] using hh)], h.big, ⟨v0, v1, v2, by simpa [onS, evS] using c3, by simpa [onS, evS] using c7, by simpa [onS, evS] using c11, by simpa [onS, evS] using c12, by simpa [onS, evS] using c13, by simpa [onS] using hM⟩⟩
theorem st5 (h : I13 p l a w) (hs : p.a0.tmps.size = 369) (h15 : a.eval (.tmp 15) = ptr p.y) : ∀ o : Oper, o.op = .move (.tmp 15) → o.dst = (some 76) → Oper.wp Try.prog o a w (fun a' w' => I13 p (l.setIfInBounds 5 true) a' w') Q := by
  intro o hop hdst
  have onS := fun j => on_set (l := l) 5 j h.size (by omega)
  have hdd := h.hd hs (d := 76) (by omega)
  have evS := fun s v => ev_put (a := a) 76 s v hdd
  obtain ⟨v0, v1, v2, c3, c7, c11, c12, c13, hM⟩ := h.mid
  unfold Oper.wp
  rw [BigFrame.run_move (.tmp 15) hop]
  simp only [Oper.upon, hdst]
  exact ⟨by simp [h.size], by rw [put_size]; exact h.tsize, h.defers, off_put h.off (by decide), by first | (simp [onS]; done) | simpa [onS, evS] using h.m0, by first | (simp [onS]; done) | simpa [onS, evS] using h.m1, by first | (simp [onS]; done) | simpa [onS, evS] using h.m4, by simpa [onS, evS] using h15, by first | (simp [onS]; done) | simpa [onS, evS] using h.m8, by first | (simp [onS]; done) | simpa [onS, evS] using h.m9, by first | (simp [onS]; done) | simpa [onS, evS] using h.b2, by first | (simp [onS]; done) | simpa [onS, evS] using h.b6, by first | (simp [onS]; done) | simpa [onS, evS] using h.b10, by first | (simp [onS]; done) | simpa [onS, evS] using h.s7, by first | (simp [onS]; done) | simpa [onS, evS] using h.s8, fun hh => by simp [onS, h.d12 (by simpa [onS] using hh)], fun hh => by simp [onS, h.d13 (by simpa [onS] using hh)], fun hh => by simp [onS, h.d14 (by simpa [onS] using hh)], h.big, ⟨v0, v1, v2, by simpa [onS, evS] using c3, by simpa [onS, evS] using c7, by simpa [onS, evS] using c11, by simpa [onS, evS] using c12, by simpa [onS, evS] using c13, by simpa [onS] using hM⟩⟩
theorem st9 (h : I13 p l a w) (hs : p.a0.tmps.size = 369) (h16 : a.eval (.tmp 16) = ptr p.t) : ∀ o : Oper, o.op = .move (.tmp 16) → o.dst = (some 80) → Oper.wp Try.prog o a w (fun a' w' => I13 p (l.setIfInBounds 9 true) a' w') Q := by
  intro o hop hdst
  have onS := fun j => on_set (l := l) 9 j h.size (by omega)
  have hdd := h.hd hs (d := 80) (by omega)
  have evS := fun s v => ev_put (a := a) 80 s v hdd
  obtain ⟨v0, v1, v2, c3, c7, c11, c12, c13, hM⟩ := h.mid
  unfold Oper.wp
  rw [BigFrame.run_move (.tmp 16) hop]
  simp only [Oper.upon, hdst]
  exact ⟨by simp [h.size], by rw [put_size]; exact h.tsize, h.defers, off_put h.off (by decide), by first | (simp [onS]; done) | simpa [onS, evS] using h.m0, by first | (simp [onS]; done) | simpa [onS, evS] using h.m1, by first | (simp [onS]; done) | simpa [onS, evS] using h.m4, by first | (simp [onS]; done) | simpa [onS, evS] using h.m5, by first | (simp [onS]; done) | simpa [onS, evS] using h.m8, by simpa [onS, evS] using h16, by first | (simp [onS]; done) | simpa [onS, evS] using h.b2, by first | (simp [onS]; done) | simpa [onS, evS] using h.b6, by first | (simp [onS]; done) | simpa [onS, evS] using h.b10, by first | (simp [onS]; done) | simpa [onS, evS] using h.s7, by first | (simp [onS]; done) | simpa [onS, evS] using h.s8, fun hh => by simp [onS, h.d12 (by simpa [onS] using hh)], fun hh => by simp [onS, h.d13 (by simpa [onS] using hh)], fun hh => by simp [onS, h.d14 (by simpa [onS] using hh)], h.big, ⟨v0, v1, v2, by simpa [onS, evS] using c3, by simpa [onS, evS] using c7, by simpa [onS, evS] using c11, by simpa [onS, evS] using c12, by simpa [onS, evS] using c13, by simpa [onS] using hM⟩⟩
theorem st2 (h : I13 p l a w) (hs : p.a0.tmps.size = 369) (hm : on l 1 = true) : ∀ o : Oper, o.op = .buildSlice 27 1 #[(0, .tmp 72)] → o.dst = (some 73) → Oper.wp Try.prog o a w (fun a' w' => I13 p (l.setIfInBounds 2 true) a' w') Q := by
  intro o hop hdst
  have onS := fun j => on_set (l := l) 2 j h.size (by omega)
  have hdd := h.hd hs (d := 73) (by omega)
  have evS := fun s v => ev_put (a := a) 73 s v hdd
  obtain ⟨v0, v1, v2, c3, c7, c11, c12, c13, hM⟩ := h.mid
  unfold Oper.wp
  have hr : ∀ ρ : Operand → Value, ρ (.tmp 72) = ptr p.x → (execOp ρ o).run Try.prog w = .ok (.value (.slice (some ⟨w.heap.size, 0, none⟩) 1 1)) (w.alloc (.cells #[ptr p.x] 29)) := by
    intro ρ hρ
    unfold execOp
    rw [hop]
    simp [go_sem, hρ]
  rw [hr _ (h.m1 hm)]
  simp only [Oper.upon, hdst]
  exact ⟨by simp [h.size], by rw [put_size]; exact h.tsize, h.defers, off_put h.off (by decide), by first | (simp [onS]; done) | simpa [onS, evS] using h.m0, by first | (simp [onS]; done) | simpa [onS, evS] using h.m1, by first | (simp [onS]; done) | simpa [onS, evS] using h.m4, by first | (simp [onS]; done) | simpa [onS, evS] using h.m5, by first | (simp [onS]; done) | simpa [onS, evS] using h.m8, by first | (simp [onS]; done) | simpa [onS, evS] using h.m9, by simpa [onS, evS] using ⟨w.heap.size, h.big, rfl, cnew _ _ _ _ rfl⟩, by simpa [onS, evS] using fun hh => (h.b6 hh).keep (keep_alloc _ _ _), by simpa [onS, evS] using fun hh => (h.b10 hh).keep (keep_alloc _ _ _), by first | (simp [onS]; done) | simpa [onS, evS] using h.s7, by first | (simp [onS]; done) | simpa [onS, evS] using h.s8, fun hh => by simp [onS, h.d12 (by simpa [onS] using hh)], fun hh => by simp [onS, h.d13 (by simpa [onS] using hh)], fun hh => by simp [onS, h.d14 (by simpa [onS] using hh)], by have := h.big; simp; omega, ⟨v0, v1, v2, by simpa [onS, evS] using c3, by simpa [onS, evS] using c7, by simpa [onS, evS] using c11, by simpa [onS, evS] using c12, by simpa [onS, evS] using c13, by simpa [onS] using hM.alloc _⟩⟩
theorem st6 (h : I13 p l a w) (hs : p.a0.tmps.size = 369) (hm : on l 5 = true) : ∀ o : Oper, o.op = .buildSlice 27 1 #[(0, .tmp 76)] → o.dst = (some 77) → Oper.wp Try.prog o a w (fun a' w' => I13 p (l.setIfInBounds 6 true) a' w') Q := by
  intro o hop hdst
  have onS := fun j => on_set (l := l) 6 j h.size (by omega)
  have hdd := h.hd hs (d := 77) (by omega)
  have evS := fun s v => ev_put (a := a) 77 s v hdd
  obtain ⟨v0, v1, v2, c3, c7, c11, c12, c13, hM⟩ := h.mid
  unfold Oper.wp
  have hr : ∀ ρ : Operand → Value, ρ (.tmp 76) = ptr p.y → (execOp ρ o).run Try.prog w = .ok (.value (.slice (some ⟨w.heap.size, 0, none⟩) 1 1)) (w.alloc (.cells #[ptr p.y] 29)) := by
    intro ρ hρ
    unfold execOp
    rw [hop]
    simp [go_sem, hρ]
  rw [hr _ (h.m5 hm)]
  simp only [Oper.upon, hdst]
  exact ⟨by simp [h.size], by rw [put_size]; exact h.tsize, h.defers, off_put h.off (by decide), by first | (simp [onS]; done) | simpa [onS, evS] using h.m0, by first | (simp [onS]; done) | simpa [onS, evS] using h.m1, by first | (simp [onS]; done) | simpa [onS, evS] using h.m4, by first | (simp [onS]; done) | simpa [onS, evS] using h.m5, by first | (simp [onS]; done) | simpa [onS, evS] using h.m8, by first | (simp [onS]; done) | simpa [onS, evS] using h.m9, by simpa [onS, evS] using fun hh => (h.b2 hh).keep (keep_alloc _ _ _), by simpa [onS, evS] using ⟨w.heap.size, h.big, rfl, cnew _ _ _ _ rfl⟩, by simpa [onS, evS] using fun hh => (h.b10 hh).keep (keep_alloc _ _ _), by first | (simp [onS]; done) | simpa [onS, evS] using h.s7, by first | (simp [onS]; done) | simpa [onS, evS] using h.s8, fun hh => by simp [onS, h.d12 (by simpa [onS] using hh)], fun hh => by simp [onS, h.d13 (by simpa [onS] using hh)], fun hh => by simp [onS, h.d14 (by simpa [onS] using hh)], by have := h.big; simp; omega, ⟨v0, v1, v2, by simpa [onS, evS] using c3, by simpa [onS, evS] using c7, by simpa [onS, evS] using c11, by simpa [onS, evS] using c12, by simpa [onS, evS] using c13, by simpa [onS] using hM.alloc _⟩⟩
theorem st10 (h : I13 p l a w) (hs : p.a0.tmps.size = 369) (hm : on l 9 = true) : ∀ o : Oper, o.op = .buildSlice 27 1 #[(0, .tmp 80)] → o.dst = (some 81) → Oper.wp Try.prog o a w (fun a' w' => I13 p (l.setIfInBounds 10 true) a' w') Q := by
  intro o hop hdst
  have onS := fun j => on_set (l := l) 10 j h.size (by omega)
  have hdd := h.hd hs (d := 81) (by omega)
  have evS := fun s v => ev_put (a := a) 81 s v hdd
  obtain ⟨v0, v1, v2, c3, c7, c11, c12, c13, hM⟩ := h.mid
  unfold Oper.wp
  have hr : ∀ ρ : Operand → Value, ρ (.tmp 80) = ptr p.t → (execOp ρ o).run Try.prog w = .ok (.value (.slice (some ⟨w.heap.size, 0, none⟩) 1 1)) (w.alloc (.cells #[ptr p.t] 29)) := by
    intro ρ hρ
    unfold execOp
    rw [hop]
    simp [go_sem, hρ]
  rw [hr _ (h.m9 hm)]
  simp only [Oper.upon, hdst]
  exact ⟨by simp [h.size], by rw [put_size]; exact h.tsize, h.defers, off_put h.off (by decide), by first | (simp [onS]; done) | simpa [onS, evS] using h.m0, by first | (simp [onS]; done) | simpa [onS, evS] using h.m1, by first | (simp [onS]; done) | simpa [onS, evS] using h.m4, by first | (simp [onS]; done) | simpa [onS, evS] using h.m5, by first | (simp [onS]; done) | simpa [onS, evS] using h.m8, by first | (simp [onS]; done) | simpa [onS, evS] using h.m9, by simpa [onS, evS] using fun hh => (h.b2 hh).keep (keep_alloc _ _ _), by simpa [onS, evS] using fun hh => (h.b6 hh).keep (keep_alloc _ _ _), by simpa [onS, evS] using ⟨w.heap.size, h.big, rfl, cnew _ _ _ _ rfl⟩, by first | (simp [onS]; done) | simpa [onS, evS] using h.s7, by first | (simp [onS]; done) | simpa [onS, evS] using h.s8, fun hh => by simp [onS, h.d12 (by simpa [onS] using hh)], fun hh => by simp [onS, h.d13 (by simpa [onS] using hh)], fun hh => by simp [onS, h.d14 (by simpa [onS] using hh)], by have := h.big; simp; omega, ⟨v0, v1, v2, by simpa [onS, evS] using c3, by simpa [onS, evS] using c7, by simpa [onS, evS] using c11, by simpa [onS, evS] using c12, by simpa [onS, evS] using c13, by simpa [onS] using hM.alloc _⟩⟩
theorem st8 (h : I13 p l a w) (hs : p.a0.tmps.size = 369) (h9 : a.eval (.tmp 9) = ptr p.z) (h14 : on l 14 = false) : ∀ o : Oper, o.op = .load 27 (.tmp 9) → o.dst = (some 79) → Oper.wp Try.prog o a w (fun a' w' => I13 p (l.setIfInBounds 8 true) a' w') Q := by
  intro o hop hdst
  have onS := fun j => on_set (l := l) 8 j h.size (by omega)
  have hdd := h.hd hs (d := 79) (by omega)
  have evS := fun s v => ev_put (a := a) 79 s v hdd
  obtain ⟨v0, v1, v2, c3, c7, c11, c12, c13, hM⟩ := h.mid
  have hc := hM.box_cell
  rw [h14, pk_f] at hc
  unfold Oper.wp
  have hr : ∀ ρ : Operand → Value, ρ (.tmp 9) = ptr p.z → (execOp ρ o).run Try.prog w = .ok (.value (p.vs 2)) w := by
    intro ρ hρ
    unfold execOp
    rw [hop]
    simp [go_sem, hρ, hc]
  rw [hr _ h9]
  simp only [Oper.upon, hdst]
  exact ⟨by simp [h.size], by rw [put_size]; exact h.tsize, h.defers, off_put h.off (by decide), by first | (simp [onS]; done) | simpa [onS, evS] using h.m0, by first | (simp [onS]; done) | simpa [onS, evS] using h.m1, by first | (simp [onS]; done) | simpa [onS, evS] using h.m4, by first | (simp [onS]; done) | simpa [onS, evS] using h.m5, by simp [onS, evS], by first | (simp [onS]; done) | simpa [onS, evS] using h.m9, by first | (simp [onS]; done) | simpa [onS, evS] using h.b2, by first | (simp [onS]; done) | simpa [onS, evS] using h.b6, by first | (simp [onS]; done) | simpa [onS, evS] using h.b10, by first | (simp [onS]; done) | simpa [onS, evS] using h.s7, by first | (simp [onS]; done) | simpa [onS, evS] using h.s8, fun hh => by simp [onS, h.d12 (by simpa [onS] using hh)], fun hh => by simp [onS, h.d13 (by simpa [onS] using hh)], fun hh => by simp [onS, h.d14 (by simpa [onS] using hh)], h.big, ⟨v0, v1, v2, by simpa [onS, evS] using c3, by simpa [onS, evS] using c7, by simpa [onS, evS] using c11, by simpa [onS, evS] using c12, by simpa [onS, evS] using c13, by simpa [onS] using hM⟩⟩
theorem st12 (h : I13 p l a w) (hs : p.a0.tmps.size = 369) (h3 : on l 3 = true) (h0 : on l 0 = true) : ∀ o : Oper, o.op = .assign (.tmp 74) → o.dst = (some 7) → Oper.wp Try.prog o a w (fun a' w' => I13 p (l.setIfInBounds 12 true) a' w') Q := by
  intro o hop hdst
  have onS := fun j => on_set (l := l) 12 j h.size (by omega)
  have hdd := h.hd hs (d := 7) (by omega)
  have evS := fun s v => ev_put (a := a) 7 s v hdd
  obtain ⟨v0, v1, v2, c3, c7, c11, c12, c13, hM⟩ := h.mid
  unfold Oper.wp
  rw [BigFrame.run_assign (.tmp 74) hop]
  simp only [Oper.upon, hdst]
  exact ⟨by simp [h.size], by rw [put_size]; exact h.tsize, h.defers, off_put h.off (by decide), by first | (simp [onS]; done) | simpa [onS, evS] using h.m0, by first | (simp [onS]; done) | simpa [onS, evS] using h.m1, by first | (simp [onS]; done) | simpa [onS, evS] using h.m4, by first | (simp [onS]; done) | simpa [onS, evS] using h.m5, by first | (simp [onS]; done) | simpa [onS, evS] using h.m8, by first | (simp [onS]; done) | simpa [onS, evS] using h.m9, by first | (simp [onS]; done) | simpa [onS, evS] using h.b2, by first | (simp [onS]; done) | simpa [onS, evS] using h.b6, by first | (simp [onS]; done) | simpa [onS, evS] using h.b10, by simp [onS], by first | (simp [onS]; done) | simpa [onS, evS] using h.s8, by simp [onS, h0, h3], fun hh => by simp [onS, h.d13 (by simpa [onS] using hh)], fun hh => by simp [onS, h.d14 (by simpa [onS] using hh)], h.big, ⟨v0, v1, v2, by simpa [onS, evS] using c3, by simpa [onS, evS] using c7, by simpa [onS, evS] using c11, by simpa [onS, evS] using c3 h3, by simpa [onS, evS] using c13, by simpa [onS] using hM⟩⟩
theorem st13 (h : I13 p l a w) (hs : p.a0.tmps.size = 369) (h7 : on l 7 = true) (h4 : on l 4 = true) : ∀ o : Oper, o.op = .assign (.tmp 78) → o.dst = (some 8) → Oper.wp Try.prog o a w (fun a' w' => I13 p (l.setIfInBounds 13 true) a' w') Q := by
  intro o hop hdst
  have onS := fun j => on_set (l := l) 13 j h.size (by omega)
  have hdd := h.hd hs (d := 8) (by omega)
  have evS := fun s v => ev_put (a := a) 8 s v hdd
  obtain ⟨v0, v1, v2, c3, c7, c11, c12, c13, hM⟩ := h.mid
  unfold Oper.wp
  rw [BigFrame.run_assign (.tmp 78) hop]
  simp only [Oper.upon, hdst]
  exact ⟨by simp [h.size], by rw [put_size]; exact h.tsize, h.defers, off_put h.off (by decide), by first | (simp [onS]; done) | simpa [onS, evS] using h.m0, by first | (simp [onS]; done) | simpa [onS, evS] using h.m1, by first | (simp [onS]; done) | simpa [onS, evS] using h.m4, by first | (simp [onS]; done) | simpa [onS, evS] using h.m5, by first | (simp [onS]; done) | simpa [onS, evS] using h.m8, by first | (simp [onS]; done) | simpa [onS, evS] using h.m9, by first | (simp [onS]; done) | simpa [onS, evS] using h.b2, by first | (simp [onS]; done) | simpa [onS, evS] using h.b6, by first | (simp [onS]; done) | simpa [onS, evS] using h.b10, by first | (simp [onS]; done) | simpa [onS, evS] using h.s7, by simp [onS], fun hh => by simp [onS, h.d12 (by simpa [onS] using hh)], by simp [onS, h4, h7], fun hh => by simp [onS, h.d14 (by simpa [onS] using hh)], h.big, ⟨v0, v1, v2, by simpa [onS, evS] using c3, by simpa [onS, evS] using c7, by simpa [onS, evS] using c11, by simpa [onS, evS] using c12, by simpa [onS, evS] using c7 h7, by simpa [onS] using hM⟩⟩
theorem st3 (h : I13 p l a w) (hs : p.a0.tmps.size = 369) (hk : p.k ≤ 1000) (hun : on l 3 = false) (hm : on l 0 = true) (hb : on l 2 = true) (hlen : (p.xs 0).length = p.k) (hOwn : ∀ q, (p.vs 0).ownBlock = some q → q < p.N) (h12 : on l 12 = false) : ∀ o : Oper, o.op = .call { callee := .builtin .append, args := #[.tmp 71, .tmp 73], argTypes := #[27, 27] } → o.dst = (some 74) → Oper.wp Try.prog o a w (fun a' w' => I13 p (l.setIfInBounds 3 true) a' w') Q := by
  intro o hop hdst
  have onS := fun j => on_set (l := l) 3 j h.size (by omega)
  have hdd := h.hd hs (d := 74) (by omega)
  have evS := fun s v => ev_put (a := a) 74 s v hdd
  obtain ⟨v0, v1, v2, c3, c7, c11, c12, c13, hM⟩ := h.mid
  obtain ⟨b, hNb, hsl, hcl⟩ := h.b2 hb
  have hz : p.z + 1 ≤ w.heap.size := hM.base
  rw [hun] at hM
  simp only [pk_f] at hM
  have hrow := hM.row' 0 (n := p.k) hlen
  refine wp_push (.tmp 71) (.tmp 73) 27 hop (p.z + 1) 29 (.pointer none) 8 Try.underlying27 Try.info29 rfl (p.vs 0) p.k (p.xs 0) (h.m0 hm) hrow ⟨b, 0, none⟩ 1 (ptr p.x) hsl hcl rfl (by unfold maxLen; omega) (by omega) hz ?_
  intro v' w' ho' hg'
  rw [hdst]
  have hK := keepc hg' hOwn
  have hM2 := hM.push' 0 (n := p.k) hlen ho' hg'
  rw [t3_0, t3_0] at hM2
  exact ⟨by simp [h.size], by rw [put_size]; exact h.tsize, h.defers, off_put h.off (by decide), by first | (simp [onS]; done) | simpa [onS, evS] using h.m0, by first | (simp [onS]; done) | simpa [onS, evS] using h.m1, by first | (simp [onS]; done) | simpa [onS, evS] using h.m4, by first | (simp [onS]; done) | simpa [onS, evS] using h.m5, by first | (simp [onS]; done) | simpa [onS, evS] using h.m8, by first | (simp [onS]; done) | simpa [onS, evS] using h.m9, by simpa [onS, evS] using fun hh => (h.b2 hh).keep hK, by simpa [onS, evS] using fun hh => (h.b6 hh).keep hK, by simpa [onS, evS] using fun hh => (h.b10 hh).keep hK, by first | (simp [onS]; done) | simpa [onS, evS] using h.s7, by first | (simp [onS]; done) | simpa [onS, evS] using h.s8, fun hh => by simp [onS, h.d12 (by simpa [onS] using hh)], fun hh => by simp [onS, h.d13 (by simpa [onS] using hh)], fun hh => by simp [onS, h.d14 (by simpa [onS] using hh)], Nat.le_trans h.big hg'.1.size, ⟨v', v1, v2, by simp [onS, evS], by simpa [onS, evS] using c7, by simpa [onS, evS] using c11, by simp [onS, h12], by simpa [onS, evS] using c13, by simpa [onS, pk, t3_at0] using hM2⟩⟩
theorem st7 (h : I13 p l a w) (hs : p.a0.tmps.size = 369) (hk : p.k ≤ 1000) (hun : on l 7 = false) (hm : on l 4 = true) (hb : on l 6 = true) (hlen : (p.xs 1).length = p.k) (hOwn : ∀ q, (p.vs 1).ownBlock = some q → q < p.N) (h13 : on l 13 = false) : ∀ o : Oper, o.op = .call { callee := .builtin .append, args := #[.tmp 75, .tmp 77], argTypes := #[27, 27] } → o.dst = (some 78) → Oper.wp Try.prog o a w (fun a' w' => I13 p (l.setIfInBounds 7 true) a' w') Q := by
  intro o hop hdst
  have onS := fun j => on_set (l := l) 7 j h.size (by omega)
  have hdd := h.hd hs (d := 78) (by omega)
  have evS := fun s v => ev_put (a := a) 78 s v hdd
  obtain ⟨v0, v1, v2, c3, c7, c11, c12, c13, hM⟩ := h.mid
  obtain ⟨b, hNb, hsl, hcl⟩ := h.b6 hb
  have hz : p.z + 1 ≤ w.heap.size := hM.base
  rw [hun] at hM
  simp only [pk_f] at hM
  have hrow := hM.row' 1 (n := p.k) hlen
  refine wp_push (.tmp 75) (.tmp 77) 27 hop (p.z + 1) 29 (.pointer none) 8 Try.underlying27 Try.info29 rfl (p.vs 1) p.k (p.xs 1) (h.m4 hm) hrow ⟨b, 0, none⟩ 1 (ptr p.y) hsl hcl rfl (by unfold maxLen; omega) (by omega) hz ?_
  intro v' w' ho' hg'
  rw [hdst]
  have hK := keepc hg' hOwn
  have hM2 := hM.push' 1 (n := p.k) hlen ho' hg'
  rw [t3_1, t3_1] at hM2
  exact ⟨by simp [h.size], by rw [put_size]; exact h.tsize, h.defers, off_put h.off (by decide), by first | (simp [onS]; done) | simpa [onS, evS] using h.m0, by first | (simp [onS]; done) | simpa [onS, evS] using h.m1, by first | (simp [onS]; done) | simpa [onS, evS] using h.m4, by first | (simp [onS]; done) | simpa [onS, evS] using h.m5, by first | (simp [onS]; done) | simpa [onS, evS] using h.m8, by first | (simp [onS]; done) | simpa [onS, evS] using h.m9, by simpa [onS, evS] using fun hh => (h.b2 hh).keep hK, by simpa [onS, evS] using fun hh => (h.b6 hh).keep hK, by simpa [onS, evS] using fun hh => (h.b10 hh).keep hK, by first | (simp [onS]; done) | simpa [onS, evS] using h.s7, by first | (simp [onS]; done) | simpa [onS, evS] using h.s8, fun hh => by simp [onS, h.d12 (by simpa [onS] using hh)], fun hh => by simp [onS, h.d13 (by simpa [onS] using hh)], fun hh => by simp [onS, h.d14 (by simpa [onS] using hh)], Nat.le_trans h.big hg'.1.size, ⟨v0, v', v2, by simpa [onS, evS] using c3, by simp [onS, evS], by simpa [onS, evS] using c11, by simpa [onS, evS] using c12, by simp [onS, h13], by simpa [onS, pk, t3_at1] using hM2⟩⟩
theorem st11 (h : I13 p l a w) (hs : p.a0.tmps.size = 369) (hk : p.k ≤ 1000) (hun : on l 11 = false) (hm : on l 8 = true) (hb : on l 10 = true) (hlen : (p.xs 2).length = p.k) (hOwn : ∀ q, (p.vs 2).ownBlock = some q → q < p.N) (h14 : on l 14 = false) : ∀ o : Oper, o.op = .call { callee := .builtin .append, args := #[.tmp 79, .tmp 81], argTypes := #[27, 27] } → o.dst = (some 82) → Oper.wp Try.prog o a w (fun a' w' => I13 p (l.setIfInBounds 11 true) a' w') Q := by
  intro o hop hdst
  have onS := fun j => on_set (l := l) 11 j h.size (by omega)
  have hdd := h.hd hs (d := 82) (by omega)
  have evS := fun s v => ev_put (a := a) 82 s v hdd
  obtain ⟨v0, v1, v2, c3, c7, c11, c12, c13, hM⟩ := h.mid
  obtain ⟨b, hNb, hsl, hcl⟩ := h.b10 hb
  have hz : p.z + 1 ≤ w.heap.size := hM.base
  rw [hun] at hM
  simp only [pk_f] at hM
  have hrow := hM.row' 2 (n := p.k) hlen
  refine wp_push (.tmp 79) (.tmp 81) 27 hop (p.z + 1) 29 (.pointer none) 8 Try.underlying27 Try.info29 rfl (p.vs 2) p.k (p.xs 2) (h.m8 hm) hrow ⟨b, 0, none⟩ 1 (ptr p.t) hsl hcl rfl (by unfold maxLen; omega) (by omega) hz ?_
  intro v' w' ho' hg'
  rw [hdst]
  have hK := keepc hg' hOwn
  have hM2 := hM.push' 2 (n := p.k) hlen ho' hg'
  rw [t3_2, t3_2] at hM2
  exact ⟨by simp [h.size], by rw [put_size]; exact h.tsize, h.defers, off_put h.off (by decide), by first | (simp [onS]; done) | simpa [onS, evS] using h.m0, by first | (simp [onS]; done) | simpa [onS, evS] using h.m1, by first | (simp [onS]; done) | simpa [onS, evS] using h.m4, by first | (simp [onS]; done) | simpa [onS, evS] using h.m5, by first | (simp [onS]; done) | simpa [onS, evS] using h.m8, by first | (simp [onS]; done) | simpa [onS, evS] using h.m9, by simpa [onS, evS] using fun hh => (h.b2 hh).keep hK, by simpa [onS, evS] using fun hh => (h.b6 hh).keep hK, by simpa [onS, evS] using fun hh => (h.b10 hh).keep hK, by first | (simp [onS]; done) | simpa [onS, evS] using h.s7, by first | (simp [onS]; done) | simpa [onS, evS] using h.s8, fun hh => by simp [onS, h.d12 (by simpa [onS] using hh)], fun hh => by simp [onS, h.d13 (by simpa [onS] using hh)], fun hh => by simp [onS, h.d14 (by simpa [onS] using hh)], Nat.le_trans h.big hg'.1.size, ⟨v0, v1, v', by simpa [onS, evS] using c3, by simpa [onS, evS] using c7, by simp [onS, evS], by simpa [onS, evS] using c12, by simpa [onS, evS] using c13, by simpa [onS, pk, h14, t3_at2] using hM2⟩⟩
theorem st14 (h : I13 p l a w) (h9 : a.eval (.tmp 9) = ptr p.z) (h11 : on l 11 = true) (h8 : on l 8 = true) (hzN : p.z < p.N) : ∀ o : Oper, o.op = .store 27 (.tmp 9) (.tmp 82) → o.dst = none → Oper.wp Try.prog o a w (fun a' w' => I13 p (l.setIfInBounds 14 true) a' w') Q := by
  intro o hop hdst
  have onS := fun j => on_set (l := l) 14 j h.size (by omega)
  obtain ⟨v0, v1, v2, c3, c7, c11, c12, c13, hM⟩ := h.mid
  have hv := c11 h11
  have hrow := hM.row 2
  have hform := own_form hrow
  have e2 : t3 p.vs (pk (on l 3) v0 (p.vs 0)) (pk (on l 7) v1 (p.vs 1)) (pk (on l 11) v2 (p.vs 2)) 2 = v2 := by simp [t3, h11, pk]
  rw [e2] at hform
  obtain ⟨ao, cap, hf⟩ := hform
  have hc := hM.box_cell
  have hz := hM.box_froz
  have hM2 := hM.store v2
  have hk8 : ∀ b o (y : Value), p.N ≤ b → w.cell? ⟨b, o, none⟩ = some y → (w.setCell ⟨p.z, 0, none⟩ v2).cell? ⟨b, o, none⟩ = some y := fun b o y hb hy => by
    have ht : Turned [p.z] w (w.setCell ⟨p.z, 0, none⟩ v2) := (Turned.refl _ _).set (.inl (by simp)) 0 v2
    exact ht.cell hy (by simp; omega)
  unfold Oper.wp
  have hr : ∀ ρ : Operand → Value, ρ (.tmp 9) = ptr p.z → ρ (.tmp 82) = v2 → (execOp ρ o).run Try.prog w = .ok .skip (w.setCell ⟨p.z, 0, none⟩ v2) := by
    intro ρ hρ hρ2
    unfold execOp
    rw [hop]
    rw [hf] at hρ2 ⊢
    simp [go_sem, hρ, hρ2, hc, hz]
  rw [hr _ h9 hv]
  simp only [Oper.upon, hdst, Act.put]
  exact ⟨by simp [h.size], h.tsize, h.defers, h.off, by first | (simp [onS]; done) | simpa [onS] using h.m0, by first | (simp [onS]; done) | simpa [onS] using h.m1, by first | (simp [onS]; done) | simpa [onS] using h.m4, by first | (simp [onS]; done) | simpa [onS] using h.m5, by first | (simp [onS]; done) | simpa [onS] using h.m8, by first | (simp [onS]; done) | simpa [onS] using h.m9, by simpa [onS] using fun hh => (h.b2 hh).keep hk8, by simpa [onS] using fun hh => (h.b6 hh).keep hk8, by simpa [onS] using fun hh => (h.b10 hh).keep hk8, by first | (simp [onS]; done) | simpa [onS] using h.s7, by first | (simp [onS]; done) | simpa [onS] using h.s8, fun hh => by simp [onS, h.d12 (by simpa [onS] using hh)], fun hh => by simp [onS, h.d13 (by simpa [onS] using hh)], by simp [onS, h8, h11], by simpa [World.setCell] using h.big, ⟨v0, v1, v2, by simpa [onS] using c3, by simpa [onS] using c7, by simpa [onS] using c11, by simpa [onS] using c12, by simpa [onS] using c13, by simpa [onS, pk] using hM2⟩⟩
theorem op13_0 : ((opsOf 13 Try.f3.body)[0]?).map (fun o => (o.op, o.dst, o.guard)) = some (.move (.tmp 7), some 71, none) := by kernel_rfl
theorem op13_1 : ((opsOf 13 Try.f3.body)[1]?).map (fun o => (o.op, o.dst, o.guard)) = some (.move (.tmp 14), some 72, none) := by kernel_rfl
theorem op13_2 : ((opsOf 13 Try.f3.body)[2]?).map (fun o => (o.op, o.dst, o.guard)) = some (.buildSlice 27 1 #[(0, .tmp 72)], some 73, none) := by kernel_rfl
theorem op13_3 : ((opsOf 13 Try.f3.body)[3]?).map (fun o => (o.op, o.dst, o.guard)) = some (.call { callee := .builtin .append, args := #[.tmp 71, .tmp 73], argTypes := #[27, 27] }, some 74, none) := by kernel_rfl
theorem op13_4 : ((opsOf 13 Try.f3.body)[4]?).map (fun o => (o.op, o.dst, o.guard)) = some (.move (.tmp 8), some 75, none) := by kernel_rfl
theorem op13_5 : ((opsOf 13 Try.f3.body)[5]?).map (fun o => (o.op, o.dst, o.guard)) = some (.move (.tmp 15), some 76, none) := by kernel_rfl
theorem op13_6 : ((opsOf 13 Try.f3.body)[6]?).map (fun o => (o.op, o.dst, o.guard)) = some (.buildSlice 27 1 #[(0, .tmp 76)], some 77, none) := by kernel_rfl
theorem op13_7 : ((opsOf 13 Try.f3.body)[7]?).map (fun o => (o.op, o.dst, o.guard)) = some (.call { callee := .builtin .append, args := #[.tmp 75, .tmp 77], argTypes := #[27, 27] }, some 78, none) := by kernel_rfl
theorem op13_8 : ((opsOf 13 Try.f3.body)[8]?).map (fun o => (o.op, o.dst, o.guard)) = some (.load 27 (.tmp 9), some 79, none) := by kernel_rfl
theorem op13_9 : ((opsOf 13 Try.f3.body)[9]?).map (fun o => (o.op, o.dst, o.guard)) = some (.move (.tmp 16), some 80, none) := by kernel_rfl
theorem op13_10 : ((opsOf 13 Try.f3.body)[10]?).map (fun o => (o.op, o.dst, o.guard)) = some (.buildSlice 27 1 #[(0, .tmp 80)], some 81, none) := by kernel_rfl
theorem op13_11 : ((opsOf 13 Try.f3.body)[11]?).map (fun o => (o.op, o.dst, o.guard)) = some (.call { callee := .builtin .append, args := #[.tmp 79, .tmp 81], argTypes := #[27, 27] }, some 82, none) := by kernel_rfl
theorem op13_12 : ((opsOf 13 Try.f3.body)[12]?).map (fun o => (o.op, o.dst, o.guard)) = some (.assign (.tmp 74), some 7, none) := by kernel_rfl
theorem op13_13 : ((opsOf 13 Try.f3.body)[13]?).map (fun o => (o.op, o.dst, o.guard)) = some (.assign (.tmp 78), some 8, none) := by kernel_rfl
theorem op13_14 : ((opsOf 13 Try.f3.body)[14]?).map (fun o => (o.op, o.dst, o.guard)) = some (.store 27 (.tmp 9) (.tmp 82), none, none) := by kernel_rfl
theorem un_of {i : Nat} (hl : l.size = 15) (h15 : i < 15) (hi : i ∈ Region.ready .any (opsOf 13 Try.f3.body) l) : on l i = false := by
  have h1 := (mem_ready.1 hi).1
  simp only [on, Array.getD, hl, h15, dite_true] at h1 ⊢
  exact h1
theorem ev_off (h : I13 p l a w) {s : Nat} (hs : s ∉ D13) : a.eval (.tmp s) = p.a0.eval (.tmp s) := by
  simp only [Act.eval, Array.getD_eq_getD_getElem?, h.off s hs]
theorem acy13 : ∀ i o, (opsOf 13 Try.f3.body)[i]? = some o → ∀ e ∈ o.after, Region.binds .any e = true → e.on < i := by
  intro i o ho e he hb
  have hi : i < 15 := by rw [← size13]; exact (Array.getElem?_eq_some_iff.1 ho).1
  have h1 := List.all_eq_true.1 ac13 i (List.mem_range.2 hi)
  rw [ho] at h1
  simp only [Option.map_some, Option.getD_some, Array.all_eq_true] at h1
  obtain ⟨n, hn, rfl⟩ := Array.getElem_of_mem he
  have h2 := h1 n hn
  rw [hb] at h2
  simpa using h2
/-- The three pushes, in whatever order. -/
theorem reg13 {id : Nat} (hs : p.a0.tmps.size = 369) (h7 : p.a0.eval (.tmp 7) = p.vs 0) (h8 : p.a0.eval (.tmp 8) = p.vs 1) (h9 : p.a0.eval (.tmp 9) = ptr p.z) (h14 : p.a0.eval (.tmp 14) = ptr p.x) (h15 : p.a0.eval (.tmp 15) = ptr p.y) (h16 : p.a0.eval (.tmp 16) = ptr p.t)
    (hk : p.k ≤ 1000) (hl0 : (p.xs 0).length = p.k) (hl1 : (p.xs 1).length = p.k) (hl2 : (p.xs 2).length = p.k) (hN : p.N = w.heap.size)
    (hM : Mid p.W (p.z + 1) p.z (p.vs 2) w p.k 3 (updK p.e p.k p.nb) (updK p.ob p.k p.no) p.vs p.xs)
    (hend : ∀ a' w', a'.tmps.size = p.a0.tmps.size → a'.defers = p.a0.defers → (∀ s, s ∉ D13 → a'.tmps[s]? = p.a0.tmps[s]?) → P13 p.W p.z w' p.k p.e p.ob p.vs p.xs p.nb p.no p.x p.y p.t (a'.eval (.tmp 7)) (a'.eval (.tmp 8)) → Q .normal a' w') :
    (Code.region id (opsOf 13 Try.f3.body) true).wp Try.prog Q p.a0 w := by
  have hO : ∀ t q, (p.vs t).ownBlock = some q → q < p.N := fun t q hq => by rw [hN]; exact (hM.own_lt hq).2
  have hzN : p.z < p.N := by rw [hN]; exact lt_of_heap hM.box
  refine wp_region_inv (by kernel_rfl) acy13 (I13 p) (fun l a w h => by rw [size13]; exact h.size) ?_ ?_ ?_
  · have hf : ∀ i, on (Array.replicate (opsOf 13 Try.f3.body).size false) i = false := fun i => by
      simp only [on, Array.getD_eq_getD_getElem?, Array.getElem?_replicate]
      split <;> rfl
    refine ⟨by simp [size13], rfl, rfl, fun _ _ => rfl, ?_, ?_, ?_, ?_, ?_, ?_, ?_, ?_, ?_, fun _ => h7, fun _ => h8, ?_, ?_, ?_, Nat.le_of_eq hN, ⟨p.vs 0, p.vs 1, p.vs 2, ?_, ?_, ?_, ?_, ?_, ?_⟩⟩
    all_goals first
      | (intro hh; rw [hf] at hh; cases hh)
      | (simp only [hf, pk_f, t3_self]; exact hM.drew)
  · intro l a w h i hi
    have hi15 : i < 15 := by
      obtain ⟨_, o, ho, _⟩ := mem_ready.1 hi
      rw [← size13]; exact (Array.getElem?_eq_some_iff.1 ho).1
    have hun := un_of h.size hi15 hi
    have e9 : a.eval (.tmp 9) = ptr p.z := (ev_off h (by decide)).trans h9
    have e14 : a.eval (.tmp 14) = ptr p.x := (ev_off h (by decide)).trans h14
    have e15 : a.eval (.tmp 15) = ptr p.y := (ev_off h (by decide)).trans h15
    have e16 : a.eval (.tmp 16) = ptr p.t := (ev_off h (by decide)).trans h16
    have n12 : (on l 0 = false ∨ on l 3 = false) → on l 12 = false := fun hh => by
      cases h12 : on l 12 with
      | false => rfl
      | true => have := h.d12 h12; simp_all
    have n13 : (on l 4 = false ∨ on l 7 = false) → on l 13 = false := fun hh => by
      cases h12 : on l 13 with
      | false => rfl
      | true => have := h.d13 h12; simp_all
    have n14 : (on l 8 = false ∨ on l 11 = false) → on l 14 = false := fun hh => by
      cases h12 : on l 14 with
      | false => rfl
      | true => have := h.d14 h12; simp_all
    rcases (by omega : i = 0 ∨ i = 1 ∨ i = 2 ∨ i = 3 ∨ i = 4 ∨ i = 5 ∨ i = 6 ∨ i = 7 ∨ i = 8 ∨ i = 9 ∨ i = 10 ∨ i = 11 ∨ i = 12 ∨ i = 13 ∨ i = 14) with rfl | rfl | rfl | rfl | rfl | rfl | rfl | rfl | rfl | rfl | rfl | rfl | rfl | rfl | rfl
    · obtain ⟨o, ho, h1, h2, h3⟩ := op_of op13_0
      exact wpOp_of ho h3 (st0 h hs (n12 (.inl hun)) o h1 h2)
    · obtain ⟨o, ho, h1, h2, h3⟩ := op_of op13_1
      exact wpOp_of ho h3 (st1 h hs e14 o h1 h2)
    · obtain ⟨o, ho, h1, h2, h3⟩ := op_of op13_2
      exact wpOp_of ho h3 (st2 h hs (dep_of hi (j := 1) (by kernel_rfl)) o h1 h2)
    · obtain ⟨o, ho, h1, h2, h3⟩ := op_of op13_3
      exact wpOp_of ho h3 (st3 h hs hk hun (dep_of hi (j := 0) (by kernel_rfl)) (dep_of hi (j := 2) (by kernel_rfl)) hl0 (hO 0) (n12 (.inr hun)) o h1 h2)
    · obtain ⟨o, ho, h1, h2, h3⟩ := op_of op13_4
      exact wpOp_of ho h3 (st4 h hs (n13 (.inl hun)) o h1 h2)
    · obtain ⟨o, ho, h1, h2, h3⟩ := op_of op13_5
      exact wpOp_of ho h3 (st5 h hs e15 o h1 h2)
    · obtain ⟨o, ho, h1, h2, h3⟩ := op_of op13_6
      exact wpOp_of ho h3 (st6 h hs (dep_of hi (j := 5) (by kernel_rfl)) o h1 h2)
    · obtain ⟨o, ho, h1, h2, h3⟩ := op_of op13_7
      exact wpOp_of ho h3 (st7 h hs hk hun (dep_of hi (j := 4) (by kernel_rfl)) (dep_of hi (j := 6) (by kernel_rfl)) hl1 (hO 1) (n13 (.inr hun)) o h1 h2)
    · obtain ⟨o, ho, h1, h2, h3⟩ := op_of op13_8
      exact wpOp_of ho h3 (st8 h hs e9 (n14 (.inl hun)) o h1 h2)
    · obtain ⟨o, ho, h1, h2, h3⟩ := op_of op13_9
      exact wpOp_of ho h3 (st9 h hs e16 o h1 h2)
    · obtain ⟨o, ho, h1, h2, h3⟩ := op_of op13_10
      exact wpOp_of ho h3 (st10 h hs (dep_of hi (j := 9) (by kernel_rfl)) o h1 h2)
    · obtain ⟨o, ho, h1, h2, h3⟩ := op_of op13_11
      exact wpOp_of ho h3 (st11 h hs hk hun (dep_of hi (j := 8) (by kernel_rfl)) (dep_of hi (j := 10) (by kernel_rfl)) hl2 (hO 2) (n14 (.inr hun)) o h1 h2)
    · obtain ⟨o, ho, h1, h2, h3⟩ := op_of op13_12
      exact wpOp_of ho h3 (st12 h hs (dep_of hi (j := 3) (by kernel_rfl)) (dep_of hi (j := 0) (by kernel_rfl)) o h1 h2)
    · obtain ⟨o, ho, h1, h2, h3⟩ := op_of op13_13
      exact wpOp_of ho h3 (st13 h hs (dep_of hi (j := 7) (by kernel_rfl)) (dep_of hi (j := 4) (by kernel_rfl)) o h1 h2)
    · obtain ⟨o, ho, h1, h2, h3⟩ := op_of op13_14
      exact wpOp_of ho h3 (st14 h e9 (dep_of hi (j := 11) (by kernel_rfl)) (dep_of hi (j := 8) (by kernel_rfl)) hzN o h1 h2)
  · intro l a w h hall
    have hon : ∀ i, i < 15 → on l i = true := fun i hi => by
      have := hall i (by rw [size13]; exact hi)
      simp only [on, Array.getD, h.size, hi, dite_true] at this ⊢
      exact this
    obtain ⟨v0, v1, v2, c3, c7, c11, c12, c13, hM2⟩ := h.mid
    simp only [hon 3 (by omega), hon 7 (by omega), hon 11 (by omega), hon 14 (by omega), pk_t, t3_upd] at hM2
    refine hend a w h.tsize h.defers h.off ⟨v2, ?_⟩
    rw [c12 (hon 12 (by omega)), c13 (hon 13 (by omega))]
    exact hM2
end
end Go.Proofs.Ytogcjdbggihbpaa
