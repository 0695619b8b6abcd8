/- Steps of the law's first loop. -/
import Derived.Test.YtogcjdbggihbpaaPairs
namespace Go.Proofs.Ytogcjdbggihbpaa
open Go.RowKit Go.Conc Go.MuLone
theorem Try.info29 : (Try.prog.info? 29).map (fun i => (i.zero, i.size, i.bytes)) = some (some (.pointer none), 1, 8) := by kernel_rfl
theorem Try.info38 : (Try.prog.info? 38).map (fun i => (i.zero, i.size, i.bytes)) = some (some (.pointer none), 1, 8) := by kernel_rfl
theorem Try.info40 : (Try.prog.info? 40).map (fun i => (i.zero, i.size, i.bytes)) = some (some (.pointer none), 1, 8) := by kernel_rfl
/-- What holds at the head of the first loop. -/
def HeadAt (W : World) (z : Nat) (wx : World) (k : Nat) (F : Nat → Int) (L : Nat → Bool) (V : Nat → Int) (s5 s6 s7 s8 s10 s11 s12 : Value) : Prop :=
  ∃ e ob vs xs, vs 0 = s7 ∧ vs 1 = s8 ∧ vs 3 = s5 ∧ vs 4 = s6 ∧ vs 5 = s10 ∧ vs 6 = s11 ∧ vs 7 = s12 ∧ Head W (z + 1) z wx k F L V e ob vs xs
section
variable {W : World} {B b3 : Nat} {u : Value} {w : World} {i m : Nat} {e : Nat → Nat → Nat} {ob : Nat → Nat → Obj} {vs : Nat → Value} {xs : Nat → List Value}
theorem Mid.next' {nb : Nat → Nat} {no : Nat → Obj} (h : Mid W B b3 u w i m (updK e i nb) (updK ob i no) vs xs) (o : Obj) (M : Nat) (hM : w.heap.size = M) :
    Mid W B b3 u (w.alloc o) i (m + 1) (updK e i (upd nb m M)) (updK ob i (upd no m o)) vs xs := by subst hM; exact h.next o
theorem Mid.box_cell (h : Mid W B b3 u w i m e ob vs xs) : w.cell? ⟨b3, 0, none⟩ = some u := cell_at h.box 0
theorem Mid.box_froz (h : Mid W B b3 u w i m e ob vs xs) : w.frozen? ⟨b3, 0, none⟩ = false := froz_at h.box 0
theorem Mid.alloc (h : Mid W B b3 u w i m e ob vs xs) (o : Obj) : Mid W B b3 u (w.alloc o) i m e ob vs xs := h.more ((Below.refl _ _).alloc (Nat.le_refl _) _)
/-- A push of one pointer. -/
theorem Mid.push' (h : Mid W B b3 u w i m e ob vs xs) (s : Nat) {n : Nat} (hn : (xs s).length = n) {w' : World} {v' y : Value} (ho : w'.ownsRow B (et s) 1 v' (n + 1) (xs s ++ [y])) (hg : Grew w w' (vs s) v') :
    Mid W B b3 u w' i m e ob (upd vs s v') (upd xs s (xs s ++ [y])) := h.push s hg (by rw [hn]; exact ho)
theorem Mid.row' (h : Mid W B b3 u w i m e ob vs xs) (s : Nat) {n : Nat} (hn : (xs s).length = n) : w.ownsRow B (et s) 1 (vs s) n (xs s) := by rw [← hn]; exact h.row s
theorem Head.next' {F : Nat → Int} {L : Nat → Bool} {V : Nat → Int} (h : Head W B b3 w i F L V e ob vs xs) {w' : World} {nb : Nat → Nat} {no : Nat → Obj} {vs' : Nat → Value} {xs' : Nat → List Value} (hm : Mid W B b3 u w' i 10 (updK e i nb) (updK ob i no) vs' xs') (hu : vs' 2 = u)
    (ho : Obs (F i) (L i) (V i) nb no) (hx : ∀ t, t < 8 → xs' t = xs t ++ [ptr (nb (sl t))]) : Head W B b3 w' (i + 1) F L V (updK e i nb) (updK ob i no) vs' xs' := by subst hu; exact h.next hm ho hx
theorem keepc {w' : World} {v v' : Value} (hg : Grew w w' v v') {N : Nat} (hN : ∀ b, v.ownBlock = some b → b < N) : ∀ b o (y : Value), N ≤ b → w.cell? ⟨b, o, none⟩ = some y → w'.cell? ⟨b, o, none⟩ = some y := fun b o y h1 h2 =>
  (World.cell?_of_block (hg.1.block b (World.block_lt_of_cell? w _ h2) (fun he => by have := hN b he.symm; omega))).trans h2
theorem cnew (w : World) (y : Value) (T b : Nat) (hb : b = w.heap.size) : (w.alloc (.cells #[y] T (0, 0))).cell? ⟨b, 0, none⟩ = some y := by subst hb; exact cell_at (blk_new w _) 0
theorem cold {b o : Nat} {y : Value} {p : Obj} (h : w.cell? ⟨b, o, none⟩ = some y) : (w.alloc p).cell? ⟨b, o, none⟩ = some y :=
  (((Below.refl w.heap.size w).alloc (Nat.le_refl _) p).cell (p := ⟨b, o, none⟩) (World.block_lt_of_cell? w _ h)).trans h
theorem cdrew {b o : Nat} {y : Value} (h : w.cell? ⟨b, o, none⟩ = some y) : w.drew.cell? ⟨b, o, none⟩ = some y := h
/-- The state behind the three makers are made. -/
def P3 (W : World) (z : Nat) (wx : World) (k : Nat) (e : Nat → Nat → Nat) (ob : Nat → Nat → Obj) (vs : Nat → Value) (xs : Nat → List Value) (o : Obj) (s14 s15 s16 : Value) : Prop :=
  ∃ x y t, s14 = ptr x ∧ s15 = ptr y ∧ s16 = ptr t ∧ Mid W (z + 1) z (vs 2) wx k 3 (updK e k (upd (upd (upd (fun s => e s k) 0 x) 1 y) 2 t)) (updK ob k (upd (upd (upd (fun s => ob s k) 0 o) 1 o) 2 o)) vs xs
theorem p3_start {z k : Nat} {wr : World} {s14 s15 s16 : Value} {o : Obj} (h : Mid W (z + 1) z (vs 2) wr k 0 e ob vs xs) (x y t : Nat) (h1 : s14 = ptr x) (h2 : s15 = ptr y) (h3 : s16 = ptr t) (hx : wr.heap.size ≤ x ∧ x < wr.heap.size + 3) (hy : wr.heap.size ≤ y ∧ y < wr.heap.size + 3) (hz : wr.heap.size ≤ t ∧ t < wr.heap.size + 3) (hxy : x ≠ y) (hxz : x ≠ t) (hyz : y ≠ t) :
    P3 W z (((wr.alloc o).alloc o).alloc o).drew k e ob vs xs o s14 s15 s16 :=
  ⟨x, y, t, h1, h2, h3, (h.begin.three o hx hy hz hxy hxz hyz).drew⟩
/-- The state behind the three pushes. -/
def P13 (W : World) (z : Nat) (wx : World) (k : Nat) (e : Nat → Nat → Nat) (ob : Nat → Nat → Obj) (vs : Nat → Value) (xs : Nat → List Value) (nb : Nat → Nat) (no : Nat → Obj) (x y t : Nat) (s7 s8 : Value) : Prop :=
  ∃ v2, Mid W (z + 1) z v2 wx k 3 (updK e k nb) (updK ob k no) (upd (upd (upd vs 0 s7) 1 s8) 2 v2) (upd (upd (upd xs 0 (xs 0 ++ [ptr x])) 1 (xs 1 ++ [ptr y])) 2 (xs 2 ++ [ptr t]))
end
theorem idx (a : Int) (n : Nat) (hn : 1 ≤ n) : ∃ j : Nat, j < n ∧ ((a.tmod n = j ∧ ¬ a.tmod n < 0) ∨ (a.tmod n < 0 ∧ a.tmod n + n = j)) := by
  have h1 : a.tmod n < n := Int.tmod_lt_of_pos a (by omega)
  have h2 : -(n : Int) < a.tmod n := by
    have := Int.lt_tmod_of_pos a (b := (n : Int)) (by omega)
    omega
  by_cases h : a.tmod n < 0
  · exact ⟨(a.tmod n + n).toNat, by omega, .inr ⟨h, by omega⟩⟩
  · exact ⟨(a.tmod n).toNat, by omega, .inl ⟨by omega, h⟩⟩
theorem good_upd {n i k : Nat} {σ : Nat → Sta} {τ : Sta} (h : ∀ j, j < n → Good (σ j) i) (hτ : Good τ (i + 1)) : ∀ j, j < n → Good (upd σ k τ j) (i + 1) := fun j hj => by
  by_cases e : j = k
  · subst e; rw [upd_same]; exact hτ
  · rw [upd_other _ _ e]; exact (h j hj).up
theorem reads' {wB w : World} {n N : Nat} {E : Nat → Nat → Nat} {F : Nat → Int} {L : Nat → Bool} {V : Nat → Int} {σ : Nat → Sta} {i k : Nat} (h : St wB w n N E F L V σ) (hk : k < n) (hg : Good (σ k) i) : Reads w E (F k) k (σ k) :=
  reads (h.same (k := k) (σ k) rfl) hk hg
end Go.Proofs.Ytogcjdbggihbpaa
