/- What the law lays ahead of its calls: ten objects a maker, eight slices that grow beside them, one of them in a box. -/
import Derived.Test.YtogcjdbggihbpaaKnown
namespace Go.Proofs.Ytogcjdbggihbpaa
open Go.RowKit Go.Conc Go.MuLone

def et (t : Nat) : TypeId := if t < 3 then 29 else if t = 3 then 34 else if t = 4 then 38 else 40
def Dom (i m s k : Nat) : Prop := (k < i ∧ s < 10) ∨ (k = i ∧ s < m)
def updK {α : Type} (f : Nat → Nat → α) (i : Nat) (g : Nat → α) : Nat → Nat → α := fun s k => if k = i then g s else f s k
theorem updK_old {α : Type} (f : Nat → Nat → α) {i k : Nat} (g : Nat → α) (s : Nat) (h : k < i) : updK f i g s k = f s k := by simp [updK, Nat.ne_of_lt h]
theorem updK_new {α : Type} (f : Nat → Nat → α) (i : Nat) (g : Nat → α) (s : Nat) : updK f i g s i = g s := by simp [updK]
structure Mid (W : World) (B b3 : Nat) (u : Value) (w : World) (i m : Nat) (e : Nat → Nat → Nat) (ob : Nat → Nat → Obj) (vs : Nat → Value) (xs : Nat → List Value) : Prop where
  obj : ∀ s k, Dom i m s k → w.heap[e s k]? = some (ob s k)
  inj : ∀ s k s' k', Dom i m s k → Dom i m s' k' → e s k = e s' k' → s = s' ∧ k = k'
  low : ∀ s k, Dom i m s k → B ≤ e s k
  base : B ≤ w.heap.size
  row : ∀ t, w.ownsRow B (et t) 1 (vs t) (xs t).length (xs t)
  apart : ∀ s t, s ≠ t → (vs s).ownBlock = none ∨ (vs s).ownBlock ≠ (vs t).ownBlock
  off : ∀ t s k, Dom i m s k → (vs t).ownBlock ≠ some (e s k)
  box : w.heap[b3]? = some (.cells #[u] 27 (0, 0))
  bl : b3 < B
  wb : W.heap.size ≤ b3
  below : Below W.heap.size W w
section
variable {W : World} {B b3 : Nat} {u : Value} {w : World} {i m : Nat} {e : Nat → Nat → Nat} {ob : Nat → Nat → Obj} {vs : Nat → Value} {xs : Nat → List Value}
theorem Mid.lt (h : Mid W B b3 u w i m e ob vs xs) {s k : Nat} (hd : Dom i m s k) : e s k < w.heap.size := lt_of_heap (h.obj s k hd)
theorem Mid.own_lt (h : Mid W B b3 u w i m e ob vs xs) {t b : Nat} (hb : (vs t).ownBlock = some b) : B ≤ b ∧ b < w.heap.size := (h.row t).lt b hb
/-- Something else is made. -/
theorem Mid.more (h : Mid W B b3 u w i m e ob vs xs) {w' : World} (hb : Below w.heap.size w w') : Mid W B b3 u w' i m e ob vs xs :=
  ⟨fun s k hd => (hb.block _ (h.lt hd)).trans (h.obj s k hd), h.inj, h.low, Nat.le_trans h.base hb.size, fun t => own_below (h.row t) hb, h.apart, h.off, (hb.block _ (lt_of_heap h.box)).trans h.box, h.bl, h.wb, h.below.trans (hb.mono h.below.size)⟩
theorem Mid.drew (h : Mid W B b3 u w i m e ob vs xs) : Mid W B b3 u w.drew i m e ob vs xs := h.more (Below.refl _ _).drew
/-- A block that is there is the next object. -/
theorem Mid.add {nb : Nat → Nat} {no : Nat → Obj} (h : Mid W B b3 u w i m (updK e i nb) (updK ob i no) vs xs) {b : Nat} {o : Obj} (hb : w.heap[b]? = some o) (hB : B ≤ b) (hne : ∀ s k, Dom i m s k → updK e i nb s k ≠ b) (hno : ∀ t, (vs t).ownBlock ≠ some b) :
    Mid W B b3 u w i (m + 1) (updK e i (upd nb m b)) (updK ob i (upd no m o)) vs xs := by
  have part : ∀ {s k}, Dom i (m + 1) s k → (Dom i m s k ∧ updK e i (upd nb m b) s k = updK e i nb s k ∧ updK ob i (upd no m o) s k = updK ob i no s k) ∨ (s = m ∧ k = i ∧ updK e i (upd nb m b) s k = b ∧ updK ob i (upd no m o) s k = o) := fun {s k} hd => by
    rcases hd with ⟨h1, h2⟩ | ⟨h1, h2⟩
    · exact .inl ⟨.inl ⟨h1, h2⟩, by rw [updK_old _ _ _ h1, updK_old _ _ _ h1], by rw [updK_old _ _ _ h1, updK_old _ _ _ h1]⟩
    · subst h1
      by_cases e2 : s = m
      · subst e2; exact .inr ⟨rfl, rfl, by rw [updK_new, upd_same], by rw [updK_new, upd_same]⟩
      · exact .inl ⟨.inr ⟨rfl, by omega⟩, by rw [updK_new, updK_new, upd_other _ _ e2], by rw [updK_new, updK_new, upd_other _ _ e2]⟩
  refine ⟨fun s k hd => ?_, fun s k s' k' hd hd' he => ?_, fun s k hd => ?_, h.base, h.row, h.apart, fun t s k hd => ?_, h.box, h.bl, h.wb, h.below⟩
  · rcases part hd with ⟨h1, h2, h3⟩ | ⟨rfl, rfl, h2, h3⟩
    · rw [h2, h3]; exact h.obj s k h1
    · rw [h2, h3]; exact hb
  · rcases part hd with ⟨h1, h2, h3⟩ | ⟨rfl, rfl, h2, h3⟩
    · rcases part hd' with ⟨h1', h2', h3'⟩ | ⟨rfl, rfl, h2', h3'⟩
      · rw [h2, h2'] at he; exact h.inj s k s' k' h1 h1' he
      · rw [h2, h2'] at he; exact absurd he (hne s k h1)
    · rcases part hd' with ⟨h1', h2', h3'⟩ | ⟨rfl, rfl, h2', h3'⟩
      · rw [h2, h2'] at he; exact absurd he.symm (hne s' k' h1')
      · exact ⟨rfl, rfl⟩
  · rcases part hd with ⟨h1, h2, h3⟩ | ⟨rfl, rfl, h2, h3⟩
    · rw [h2]; exact h.low s k h1
    · rw [h2]; exact hB
  · rcases part hd with ⟨h1, h2, h3⟩ | ⟨rfl, rfl, h2, h3⟩
    · rw [h2]; exact h.off t s k h1
    · rw [h2]; exact hno t
/-- The next object is made. -/
theorem Mid.next {nb : Nat → Nat} {no : Nat → Obj} (h : Mid W B b3 u w i m (updK e i nb) (updK ob i no) vs xs) (o : Obj) :
    Mid W B b3 u (w.alloc o) i (m + 1) (updK e i (upd nb m w.heap.size)) (updK ob i (upd no m o)) vs xs :=
  (h.more ((Below.refl _ _).alloc (Nat.le_refl _) _)).add (blk_new w o) h.base (fun s k hd he => by have := h.lt hd; omega) (fun t he => by have := (h.own_lt he).2; omega)
/-- Three are made, in whatever order. -/
theorem Mid.three {nb : Nat → Nat} {no : Nat → Obj} (h : Mid W B b3 u w i 0 (updK e i nb) (updK ob i no) vs xs) (o : Obj) {x y z : Nat} (hx : w.heap.size ≤ x ∧ x < w.heap.size + 3) (hy : w.heap.size ≤ y ∧ y < w.heap.size + 3) (hz : w.heap.size ≤ z ∧ z < w.heap.size + 3) (hxy : x ≠ y) (hxz : x ≠ z) (hyz : y ≠ z) :
    Mid W B b3 u (((w.alloc o).alloc o).alloc o) i 3 (updK e i (upd (upd (upd nb 0 x) 1 y) 2 z)) (updK ob i (upd (upd (upd no 0 o) 1 o) 2 o)) vs xs := by
  have hat : ∀ b, w.heap.size ≤ b ∧ b < w.heap.size + 3 → (((w.alloc o).alloc o).alloc o).heap[b]? = some o := fun b hb => by
    have e1 : (w.alloc o).heap.size = w.heap.size + 1 := by simp
    have e2 : ((w.alloc o).alloc o).heap.size = w.heap.size + 2 := by simp
    rcases (by omega : b = w.heap.size ∨ b = w.heap.size + 1 ∨ b = w.heap.size + 2) with rfl | rfl | rfl
    · exact blk_old (blk_old (blk_new _ _) _) _
    · rw [← e1]; exact blk_old (blk_new _ _) _
    · rw [← e2]; exact blk_new _ _
  have hbase := h.base
  have h0 := h.more (w' := ((w.alloc o).alloc o).alloc o) ((((Below.refl _ _).alloc (Nat.le_refl _) _).alloc (by simp) _).alloc (by simp; omega) _)
  have old : ∀ {s k b}, Dom i 0 s k → w.heap.size ≤ b → updK e i nb s k ≠ b := fun {s k b} hd hb he => by have := h.lt hd; omega
  have olo : ∀ {t b}, w.heap.size ≤ b → (vs t).ownBlock ≠ some b := fun {t b} hb he => by have := (h.own_lt he).2; omega
  have h1 := h0.add (hat x hx) (by omega) (fun s k hd => old hd hx.1) (fun t => olo hx.1)
  have h2 := h1.add (hat y hy) (by omega) (fun s k hd => by
    rcases hd with ⟨g1, g2⟩ | ⟨g1, g2⟩
    · rw [updK_old _ _ _ g1, ← updK_old e nb s g1]; exact old (.inl ⟨g1, g2⟩) hy.1
    · have : s = 0 := by omega
      subst g1; subst this; rw [updK_new, upd_same]; exact hxy) (fun t => olo hy.1)
  exact h2.add (hat z hz) (by omega) (fun s k hd => by
    rcases hd with ⟨g1, g2⟩ | ⟨g1, g2⟩
    · rw [updK_old _ _ _ g1, ← updK_old e nb s g1]; exact old (.inl ⟨g1, g2⟩) hz.1
    · subst g1
      rcases (by omega : s = 0 ∨ s = 1) with rfl | rfl
      · rw [updK_new, upd_other _ _ (by omega), upd_same]; exact hxz
      · rw [updK_new, upd_same]; exact hyz) (fun t => olo hz.1)
/-- The box takes another value. -/
theorem Mid.store (h : Mid W B b3 u w i m e ob vs xs) (v : Value) : Mid W B b3 v (w.setCell ⟨b3, 0, none⟩ v) i m e ob vs xs := by
  have hbl := h.bl
  have ht : Turned [b3] w (w.setCell ⟨b3, 0, none⟩ v) := (Turned.refl _ _).set (.inl (by simp)) 0 v
  refine ⟨fun s k hd => ht.heap (h.obj s k hd) (by have := h.low s k hd; simp; omega), h.inj, h.low, Nat.le_trans h.base ht.size, fun t => ?_, h.apart, h.off, (blk_set h.box 0 v).trans (by simp), h.bl, h.wb, ht.below h.below (by have := h.wb; simpa using this) h.below.size⟩
  exact (h.row t).kept (row := some b3) ⟨ht.os, ht.tape, ht.output, ht.size, fun k hk hn => ht.block k hk (by simp; exact fun he => hn (by rw [he]))⟩ (by
    cases hv : (vs t).ownBlock with
    | none => exact .inl rfl
    | some b => exact .inr (fun he => by cases he; have := (h.own_lt hv).1; omega))
/-- A slice grows by one. -/
theorem Mid.push (h : Mid W B b3 u w i m e ob vs xs) (s : Nat) {w' : World} {v' : Value} {y : Value} (hg : Grew w w' (vs s) v') (ho : w'.ownsRow B (et s) 1 v' ((xs s).length + 1) (xs s ++ [y])) :
    Mid W B b3 u w' i m e ob (upd vs s v') (upd xs s (xs s ++ [y])) := by
  obtain ⟨hg, hn⟩ := hg
  have hbl := h.bl
  have fresh : ∀ {t : Nat} {x g : Nat}, (vs t).ownBlock = some x → w.heap.size ≤ g → g ≠ x := fun {t} {x} {g} hx hge => by
    have := (h.own_lt hx).2
    omega
  have lowrow : ∀ k, k < B → some k ≠ (vs s).ownBlock := fun k hk he => by have := (h.own_lt he.symm).1; omega
  refine ⟨fun s' k hd => ?_, h.inj, h.low, Nat.le_trans h.base hg.size, fun t => ?_, fun t r htr => ?_, fun t s' k hd => ?_, ?_, h.bl, h.wb, ?_⟩
  · exact (hg.block _ (h.lt hd) (fun e => h.off s s' k hd e.symm)).trans (h.obj s' k hd)
  · by_cases e : t = s
    · subst e; rw [upd_same, upd_same, List.length_append]; exact ho
    · rw [upd_other _ _ e, upd_other _ _ e]; exact (h.row t).kept hg (h.apart t s e)
  · by_cases e : t = s
    · subst e
      have e' : r ≠ t := fun e => htr e.symm
      rw [upd_same, upd_other _ _ e']
      rcases hn with hn | ⟨g, hn, hge⟩
      · rw [hn]; exact h.apart t r htr
      · rw [hn]; refine .inr fun hx => ?_
        exact fresh hx.symm hge rfl
    · rw [upd_other _ _ e]
      by_cases e' : r = s
      · subst e'
        rw [upd_same]
        rcases hn with hn | ⟨g, hn, hge⟩
        · rw [hn]; exact h.apart t r htr
        · rw [hn]
          cases hv : (vs t).ownBlock with
          | none => exact .inl rfl
          | some x => refine .inr fun hx => ?_; cases hx; exact fresh hv hge rfl
      · rw [upd_other _ _ e']; exact h.apart t r htr
  · by_cases e : t = s
    · subst e
      rw [upd_same]
      rcases hn with hn | ⟨g, hn, hge⟩
      · rw [hn]; exact h.off t s' k hd
      · rw [hn]; intro hx; cases hx; have := h.lt hd; omega
    · rw [upd_other _ _ e]; exact h.off t s' k hd
  · exact (hg.block _ (lt_of_heap h.box) (lowrow b3 hbl)).trans h.box
  · exact h.below.grown hg h.below.size (fun k hk => by have := (h.own_lt hk).1; have := h.wb; omega)
/-- The round is over. -/
theorem Mid.over (h : Mid W B b3 u w i 10 e ob vs xs) : Mid W B b3 u w (i + 1) 0 e ob vs xs := by
  have hd : ∀ {s k}, Dom (i + 1) 0 s k → Dom i 10 s k := fun {s k} hd => by
    rcases hd with ⟨h1, h2⟩ | ⟨h1, h2⟩
    · rcases Nat.lt_or_ge k i with h3 | h3
      · exact .inl ⟨h3, h2⟩
      · exact .inr ⟨by omega, h2⟩
    · omega
  exact ⟨fun s k h1 => h.obj s k (hd h1), fun s k s' k' h1 h2 => h.inj s k s' k' (hd h1) (hd h2), fun s k h1 => h.low s k (hd h1), h.base, h.row, h.apart, fun t s k h1 => h.off t s k (hd h1), h.box, h.bl, h.wb, h.below⟩
end
def sl (t : Nat) : Nat := if t < 3 then t else if t = 3 then 4 else if t = 4 then 6 else t + 2
abbrev ptr (b : Nat) : Value := .pointer (some ⟨b, 0, none⟩)
abbrev pbox (b : Nat) : Obj := .cells #[.pointer (some ⟨b, 0, none⟩)] 29 (0, 0)
abbrev mk32 (b : Nat) : Value := .func (.func 32) #[] #[.pointer (some ⟨b, 0, none⟩)]
/-- A maker's ten objects, as they were made. -/
structure Obs (F : Int) (L : Bool) (V : Int) (e : Nat → Nat) (ob : Nat → Obj) : Prop where
  o0 : ob 0 = oneObj F L V 0
  o1 : ob 1 = oneObj F L V 0
  o2 : ob 2 = oneObj F L V 0
  o3 : ob 3 = pbox (e 0)
  o4 : ob 4 = onceObj 0 0 (mk32 (e 3)) 0 0 0
  o5 : ob 5 = pbox (e 1)
  o6 : ob 6 = retryObj 0 (mk32 (e 5)) none
  o7 : ob 7 = cellObj F L V true 0 false false 0 0
  o8 : ob 8 = cellObj F L V false 0 false false 0 0
  o9 : ob 9 = cellObj F L V true 0 false false 0 0
structure Head (W : World) (B b3 : Nat) (w : World) (i : Nat) (F : Nat → Int) (L : Nat → Bool) (V : Nat → Int) (e : Nat → Nat → Nat) (ob : Nat → Nat → Obj) (vs : Nat → Value) (xs : Nat → List Value) : Prop where
  mid : Mid W B b3 (vs 2) w i 0 e ob vs xs
  obs : ∀ k, k < i → Obs (F k) (L k) (V k) (fun s => e s k) (fun s => ob s k)
  rows : ∀ t, t < 8 → xs t = (List.range i).map fun k => ptr (e (sl t) k)
section
variable {W : World} {B b3 : Nat} {w : World} {i : Nat} {F : Nat → Int} {L : Nat → Bool} {V : Nat → Int} {e : Nat → Nat → Nat} {ob : Nat → Nat → Obj} {vs : Nat → Value} {xs : Nat → List Value}
theorem Mid.begin {u : Value} {m : Nat} (h : Mid W B b3 u w i m e ob vs xs) : Mid W B b3 u w i m (updK e i fun s => e s i) (updK ob i fun s => ob s i) vs xs := by
  have h1 : (updK e i fun s => e s i) = e := by funext s k; simp only [updK]; split <;> simp_all
  have h2 : (updK ob i fun s => ob s i) = ob := by funext s k; simp only [updK]; split <;> simp_all
  rw [h1, h2]; exact h
theorem Head.next (h : Head W B b3 w i F L V e ob vs xs) {w' : World} {nb : Nat → Nat} {no : Nat → Obj} {vs' : Nat → Value} {xs' : Nat → List Value} (hm : Mid W B b3 (vs' 2) w' i 10 (updK e i nb) (updK ob i no) vs' xs')
    (ho : Obs (F i) (L i) (V i) nb no) (hx : ∀ t, t < 8 → xs' t = xs t ++ [ptr (nb (sl t))]) : Head W B b3 w' (i + 1) F L V (updK e i nb) (updK ob i no) vs' xs' := by
  refine ⟨hm.over, fun k hk => ?_, fun t ht => ?_⟩
  · rcases Nat.lt_or_ge k i with h1 | h1
    · have e1 : (fun s => updK e i nb s k) = fun s => e s k := by funext s; exact updK_old _ _ _ h1
      have e2 : (fun s => updK ob i no s k) = fun s => ob s k := by funext s; exact updK_old _ _ _ h1
      rw [e1, e2]; exact h.obs k h1
    · have : k = i := by omega
      subst this
      have e1 : (fun s => updK e k nb s k) = nb := by funext s; exact updK_new _ _ _ _
      have e2 : (fun s => updK ob k no s k) = no := by funext s; exact updK_new _ _ _ _
      rw [e1, e2]; exact ho
  · rw [hx t ht, h.rows t ht, List.range_succ, List.map_append]
    congr 1
    · refine List.map_congr_left fun k hk => ?_
      rw [updK_old _ _ _ (List.mem_range.1 hk)]
    · simp [updK_new]
theorem Head.len (h : Head W B b3 w i F L V e ob vs xs) {t : Nat} (ht : t < 8) : (xs t).length = i := by rw [h.rows t ht]; simp
theorem head_start (W w : World) (hb : Below W.heap.size W w) (F : Nat → Int) (L : Nat → Bool) (V : Nat → Int) : Head W (w.heap.size + 1) w.heap.size (w.alloc (.cells #[.slice none 0 0] 27)) 0 F L V (fun _ _ => 0) (fun _ _ => intBox 0) (fun _ => .slice none 0 0) (fun _ => []) := by
  refine ⟨⟨fun s k hd => ?_, fun s k s' k' hd => ?_, fun s k hd => ?_, by simp, fun t => World.ownsRow_nil _ _ _ _, fun s t _ => .inl rfl, fun t s k hd => ?_, blk_new _ _, by omega, hb.size, hb.alloc hb.size _⟩, fun k hk => absurd hk (Nat.not_lt_zero _), fun t _ => rfl⟩
  all_goals (rcases hd with ⟨h1, h2⟩ | ⟨h1, h2⟩ <;> omega)
end
end Go.Proofs.Ytogcjdbggihbpaa
