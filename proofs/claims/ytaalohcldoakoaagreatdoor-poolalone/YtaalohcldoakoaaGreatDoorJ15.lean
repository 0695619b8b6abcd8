/- One kind of lists in the book. -/
import Derived.Test.YtaalohcldoakoaaGreatDoorJ14
import Derived.Test.YtaalohcldoakoaaGreatDoorJ13
import Derived.Test.YtaalohcldoakoaaGreatDoorJ12
namespace Go.Proofs.YtaalohcldoakoaaGreatDoor
open Go.RowKit
/-- A list that was handed out and marked, and what it must hold. -/
structure Ot where
  o : Value
  c : Value
  n : Nat
  zs : List Int
  id : Nat
/-- A list that waits. -/
structure Wt where
  l : Value
  c : Value
  n : Nat
  zs : List Int
  mark : Int
  due : Int
  id : Nat
/-- A list that is marked and not laid on yet. -/
structure Fh where
  l : Value
  n : Nat
  zs : List Int
  mark : Int
  id : Nat
/-- A kind: its number, its elements' type and size, the type of its lists, its first cell in the book. -/
structure KC where
  κ : Nat
  e : TypeId
  sz : Nat
  ls : TypeId
  b : Nat
def small (z : Int) : Prop := -2000000 ≤ z ∧ z ≤ 2000000
structure KRows (C : Own) (w : World) (kc : KC) (ot : List Ot) (wn : List Wt) (fr : List Fh) : Prop where
  pO : ∀ q ∈ ot, IRow w kc.e kc.sz q.o q.n q.zs ∧ IRow w kc.e kc.sz q.c q.n q.zs ∧ q.n ≤ 5000 ∧ Has C kc.κ (.lst q.id) q.o ∧ Has C kc.κ .kept q.c ∧ ∀ x ∈ wn, x.id ≠ q.id
  pW : ∀ q ∈ wn, IRow w kc.e kc.sz q.l q.n q.zs ∧ IRow w kc.e kc.sz q.c q.n q.zs ∧ q.n ≤ 4500 ∧ Has C kc.κ (.lst q.id) q.l ∧ Has C kc.κ .kept q.c ∧ small q.mark ∧ small q.due
  pF : ∀ q ∈ fr, IRow w kc.e kc.sz q.l q.n q.zs ∧ q.n ≤ 4500 ∧ Has C kc.κ (.lst q.id) q.l ∧ small q.mark
  ids : (wn.map (·.id) ++ fr.map (·.id)).Nodup
  link : ∀ q ∈ ot, ∀ x ∈ fr, x.id = q.id → q.o = x.l ∧ q.n = x.n ∧ q.zs = x.zs
/-- One of the book's own slices. -/
def RowAt (C : Own) (w : World) (κ : Nat) (tg : Tg) (ty : TypeId) (v : Value) (xs : List Value) : Prop := w.ownsRow 0 ty 1 v xs.length xs ∧ Has C κ tg v
structure KOut (C : Own) (w : World) (kc : KC) (f : Nat → Value) (xo xt xw xn xf xm xd xr : List Value) : Prop where
  rO : RowAt C w kc.κ .tO kc.ls (f kc.b) xo
  rT : RowAt C w kc.κ .tT kc.ls (f (kc.b + 1)) xt
  rW : RowAt C w kc.κ .tW kc.ls (f (kc.b + 2)) xw
  rN : RowAt C w kc.κ .tN kc.ls (f (kc.b + 3)) xn
  rF : RowAt C w kc.κ .tF kc.ls (f (kc.b + 4)) xf
  rM : RowAt C w kc.κ .tM 3 (f (kc.b + 5)) xm
  rD : RowAt C w kc.κ .tD 3 (f (kc.b + 6)) xd
  rR : RowAt C w kc.κ .tR 3 (f (kc.b + 7)) xr
section
variable {S : Nat × Tg → Prop} {bb : Nat} {C C' : Own} {w w' : World} {kc : KC} {f f' : Nat → Value} {ot : List Ot} {wn : List Wt} {fr : List Fh} {xo xt xw xn xf xm xd xr : List Value}
theorem RowAt.nil (C : Own) (w : World) (κ : Nat) (tg : Tg) (ty : TypeId) : RowAt C w κ tg ty (.slice none 0 0) [] := ⟨World.ownsRow_nil _ _ _ _, Has.nil _ _ _⟩
theorem RowAt.step {κ : Nat} {tg : Tg} {ty : TypeId} {v : Value} {xs : List Value} (h : RowAt C w κ tg ty v xs) (hF : Fit C w bb) (k : Stp S bb C w C' w') (hk : tg ≠ .bk) (hS : ¬ S (κ, tg)) : RowAt C' w' κ tg ty v xs := ⟨k.row hF h.1 h.2 hk hS, k.has hF h.2⟩
/-- The lists are there still where their tags are not among those that turned. -/
theorem KRows.step (h : KRows C w kc ot wn fr) (hF : Fit C w bb) (k : Stp S bb C w C' w') (hS : ¬ S (kc.κ, .kept)) (hI : ∀ id, ¬ S (kc.κ, .lst id)) : KRows C' w' kc ot wn fr := by
  refine ⟨fun q hq => ?_, fun q hq => ?_, fun q hq => ?_, h.ids, h.link⟩
  · obtain ⟨h1, h2, h3, h4, h5, h6⟩ := h.pO q hq
    exact ⟨k.row hF h1 h4 (by simp) (hI _), k.row hF h2 h5 (by simp) hS, h3, k.has hF h4, k.has hF h5, h6⟩
  · obtain ⟨h1, h2, h3, h4, h5, h6⟩ := h.pW q hq
    exact ⟨k.row hF h1 h4 (by simp) (hI _), k.row hF h2 h5 (by simp) hS, h3, k.has hF h4, k.has hF h5, h6⟩
  · obtain ⟨h1, h2, h3, h4⟩ := h.pF q hq
    exact ⟨k.row hF h1 h3 (by simp) (hI _), h2, k.has hF h3, h4⟩
theorem KOut.step (h : KOut C w kc f xo xt xw xn xf xm xd xr) (hF : Fit C w bb) (k : Stp S bb C w C' w') (hS : ∀ tg : Tg, ¬ S (kc.κ, tg) ∨ tg = .bk ∨ tg = .kept ∨ tg = .old ∨ ∃ id, tg = .lst id) (hf : ∀ i, i < 8 → f' (kc.b + i) = f (kc.b + i)) : KOut C' w' kc f' xo xt xw xn xf xm xd xr := by
  have e0 := hf 0 (by omega)
  rw [Nat.add_zero] at e0
  refine ⟨?_, ?_, ?_, ?_, ?_, ?_, ?_, ?_⟩
  · rw [e0]; exact h.rO.step hF k (by simp) (by rcases hS .tO with h | h | h | h | ⟨id, h⟩ <;> first | exact h | cases h)
  · rw [hf 1 (by omega)]; exact h.rT.step hF k (by simp) (by rcases hS .tT with h | h | h | h | ⟨id, h⟩ <;> first | exact h | cases h)
  · rw [hf 2 (by omega)]; exact h.rW.step hF k (by simp) (by rcases hS .tW with h | h | h | h | ⟨id, h⟩ <;> first | exact h | cases h)
  · rw [hf 3 (by omega)]; exact h.rN.step hF k (by simp) (by rcases hS .tN with h | h | h | h | ⟨id, h⟩ <;> first | exact h | cases h)
  · rw [hf 4 (by omega)]; exact h.rF.step hF k (by simp) (by rcases hS .tF with h | h | h | h | ⟨id, h⟩ <;> first | exact h | cases h)
  · rw [hf 5 (by omega)]; exact h.rM.step hF k (by simp) (by rcases hS .tM with h | h | h | h | ⟨id, h⟩ <;> first | exact h | cases h)
  · rw [hf 6 (by omega)]; exact h.rD.step hF k (by simp) (by rcases hS .tD with h | h | h | h | ⟨id, h⟩ <;> first | exact h | cases h)
  · rw [hf 7 (by omega)]; exact h.rR.step hF k (by simp) (by rcases hS .tR with h | h | h | h | ⟨id, h⟩ <;> first | exact h | cases h)
/-- 'b.X = append(b.X, y)' of the kind's slice number 0. -/
theorem KOut.push0 {y v' : Value} {w1 w2 : World} (h : KOut C w kc f xo xt xw xn xf xm xd xr) (hF : Fit C w bb) (hB : BK w bb f) (hb : kc.b + 9 ≤ 103) (h1 : Turned [] w w1) (ho : Onto w1 w2 (f kc.b) v' xo.length 1) (hr : w2.ownsRow 0 kc.ls 1 v' (xo.length + 1) (xo ++ [y])) :
    ∃ C', Fit C' (w2.setCell ⟨bb, kc.b, none⟩ v') bb ∧ Stp (fun x => x = (kc.κ, .tO)) bb C w C' (w2.setCell ⟨bb, kc.b, none⟩ v') ∧ BK (w2.setCell ⟨bb, kc.b, none⟩ v') bb (upd f kc.b v') ∧ KOut C' (w2.setCell ⟨bb, kc.b, none⟩ v') kc (upd f kc.b v') (xo ++ [y]) xt xw xn xf xm xd xr := by
  obtain ⟨C', c1, c2, c3, c4, c5⟩ := app_field hF hB (i := kc.b) (by omega) h.rO.2 (by simp) h1 ho hr
  refine ⟨C', c1, c2, c3, ?_, ?_, ?_, ?_, ?_, ?_, ?_, ?_⟩
  · rw [upd_same]; exact ⟨by simpa using c4, c5⟩
  · rw [upd_other _ _ (by omega)]; exact h.rT.step hF c2 (by simp) (by simp)
  · rw [upd_other _ _ (by omega)]; exact h.rW.step hF c2 (by simp) (by simp)
  · rw [upd_other _ _ (by omega)]; exact h.rN.step hF c2 (by simp) (by simp)
  · rw [upd_other _ _ (by omega)]; exact h.rF.step hF c2 (by simp) (by simp)
  · rw [upd_other _ _ (by omega)]; exact h.rM.step hF c2 (by simp) (by simp)
  · rw [upd_other _ _ (by omega)]; exact h.rD.step hF c2 (by simp) (by simp)
  · rw [upd_other _ _ (by omega)]; exact h.rR.step hF c2 (by simp) (by simp)
/-- 'b.X = append(b.X, y)' of the kind's slice number 1. -/
theorem KOut.push1 {y v' : Value} {w1 w2 : World} (h : KOut C w kc f xo xt xw xn xf xm xd xr) (hF : Fit C w bb) (hB : BK w bb f) (hb : kc.b + 9 ≤ 103) (h1 : Turned [] w w1) (ho : Onto w1 w2 (f (kc.b + 1)) v' xt.length 1) (hr : w2.ownsRow 0 kc.ls 1 v' (xt.length + 1) (xt ++ [y])) :
    ∃ C', Fit C' (w2.setCell ⟨bb, (kc.b + 1), none⟩ v') bb ∧ Stp (fun x => x = (kc.κ, .tT)) bb C w C' (w2.setCell ⟨bb, (kc.b + 1), none⟩ v') ∧ BK (w2.setCell ⟨bb, (kc.b + 1), none⟩ v') bb (upd f (kc.b + 1) v') ∧ KOut C' (w2.setCell ⟨bb, (kc.b + 1), none⟩ v') kc (upd f (kc.b + 1) v') xo (xt ++ [y]) xw xn xf xm xd xr := by
  obtain ⟨C', c1, c2, c3, c4, c5⟩ := app_field hF hB (i := (kc.b + 1)) (by omega) h.rT.2 (by simp) h1 ho hr
  refine ⟨C', c1, c2, c3, ?_, ?_, ?_, ?_, ?_, ?_, ?_, ?_⟩
  · rw [upd_other _ _ (by omega)]; exact h.rO.step hF c2 (by simp) (by simp)
  · rw [upd_same]; exact ⟨by simpa using c4, c5⟩
  · rw [upd_other _ _ (by omega)]; exact h.rW.step hF c2 (by simp) (by simp)
  · rw [upd_other _ _ (by omega)]; exact h.rN.step hF c2 (by simp) (by simp)
  · rw [upd_other _ _ (by omega)]; exact h.rF.step hF c2 (by simp) (by simp)
  · rw [upd_other _ _ (by omega)]; exact h.rM.step hF c2 (by simp) (by simp)
  · rw [upd_other _ _ (by omega)]; exact h.rD.step hF c2 (by simp) (by simp)
  · rw [upd_other _ _ (by omega)]; exact h.rR.step hF c2 (by simp) (by simp)
/-- 'b.X = append(b.X, y)' of the kind's slice number 2. -/
theorem KOut.push2 {y v' : Value} {w1 w2 : World} (h : KOut C w kc f xo xt xw xn xf xm xd xr) (hF : Fit C w bb) (hB : BK w bb f) (hb : kc.b + 9 ≤ 103) (h1 : Turned [] w w1) (ho : Onto w1 w2 (f (kc.b + 2)) v' xw.length 1) (hr : w2.ownsRow 0 kc.ls 1 v' (xw.length + 1) (xw ++ [y])) :
    ∃ C', Fit C' (w2.setCell ⟨bb, (kc.b + 2), none⟩ v') bb ∧ Stp (fun x => x = (kc.κ, .tW)) bb C w C' (w2.setCell ⟨bb, (kc.b + 2), none⟩ v') ∧ BK (w2.setCell ⟨bb, (kc.b + 2), none⟩ v') bb (upd f (kc.b + 2) v') ∧ KOut C' (w2.setCell ⟨bb, (kc.b + 2), none⟩ v') kc (upd f (kc.b + 2) v') xo xt (xw ++ [y]) xn xf xm xd xr := by
  obtain ⟨C', c1, c2, c3, c4, c5⟩ := app_field hF hB (i := (kc.b + 2)) (by omega) h.rW.2 (by simp) h1 ho hr
  refine ⟨C', c1, c2, c3, ?_, ?_, ?_, ?_, ?_, ?_, ?_, ?_⟩
  · rw [upd_other _ _ (by omega)]; exact h.rO.step hF c2 (by simp) (by simp)
  · rw [upd_other _ _ (by omega)]; exact h.rT.step hF c2 (by simp) (by simp)
  · rw [upd_same]; exact ⟨by simpa using c4, c5⟩
  · rw [upd_other _ _ (by omega)]; exact h.rN.step hF c2 (by simp) (by simp)
  · rw [upd_other _ _ (by omega)]; exact h.rF.step hF c2 (by simp) (by simp)
  · rw [upd_other _ _ (by omega)]; exact h.rM.step hF c2 (by simp) (by simp)
  · rw [upd_other _ _ (by omega)]; exact h.rD.step hF c2 (by simp) (by simp)
  · rw [upd_other _ _ (by omega)]; exact h.rR.step hF c2 (by simp) (by simp)
/-- 'b.X = append(b.X, y)' of the kind's slice number 3. -/
theorem KOut.push3 {y v' : Value} {w1 w2 : World} (h : KOut C w kc f xo xt xw xn xf xm xd xr) (hF : Fit C w bb) (hB : BK w bb f) (hb : kc.b + 9 ≤ 103) (h1 : Turned [] w w1) (ho : Onto w1 w2 (f (kc.b + 3)) v' xn.length 1) (hr : w2.ownsRow 0 kc.ls 1 v' (xn.length + 1) (xn ++ [y])) :
    ∃ C', Fit C' (w2.setCell ⟨bb, (kc.b + 3), none⟩ v') bb ∧ Stp (fun x => x = (kc.κ, .tN)) bb C w C' (w2.setCell ⟨bb, (kc.b + 3), none⟩ v') ∧ BK (w2.setCell ⟨bb, (kc.b + 3), none⟩ v') bb (upd f (kc.b + 3) v') ∧ KOut C' (w2.setCell ⟨bb, (kc.b + 3), none⟩ v') kc (upd f (kc.b + 3) v') xo xt xw (xn ++ [y]) xf xm xd xr := by
  obtain ⟨C', c1, c2, c3, c4, c5⟩ := app_field hF hB (i := (kc.b + 3)) (by omega) h.rN.2 (by simp) h1 ho hr
  refine ⟨C', c1, c2, c3, ?_, ?_, ?_, ?_, ?_, ?_, ?_, ?_⟩
  · rw [upd_other _ _ (by omega)]; exact h.rO.step hF c2 (by simp) (by simp)
  · rw [upd_other _ _ (by omega)]; exact h.rT.step hF c2 (by simp) (by simp)
  · rw [upd_other _ _ (by omega)]; exact h.rW.step hF c2 (by simp) (by simp)
  · rw [upd_same]; exact ⟨by simpa using c4, c5⟩
  · rw [upd_other _ _ (by omega)]; exact h.rF.step hF c2 (by simp) (by simp)
  · rw [upd_other _ _ (by omega)]; exact h.rM.step hF c2 (by simp) (by simp)
  · rw [upd_other _ _ (by omega)]; exact h.rD.step hF c2 (by simp) (by simp)
  · rw [upd_other _ _ (by omega)]; exact h.rR.step hF c2 (by simp) (by simp)
/-- 'b.X = append(b.X, y)' of the kind's slice number 4. -/
theorem KOut.push4 {y v' : Value} {w1 w2 : World} (h : KOut C w kc f xo xt xw xn xf xm xd xr) (hF : Fit C w bb) (hB : BK w bb f) (hb : kc.b + 9 ≤ 103) (h1 : Turned [] w w1) (ho : Onto w1 w2 (f (kc.b + 4)) v' xf.length 1) (hr : w2.ownsRow 0 kc.ls 1 v' (xf.length + 1) (xf ++ [y])) :
    ∃ C', Fit C' (w2.setCell ⟨bb, (kc.b + 4), none⟩ v') bb ∧ Stp (fun x => x = (kc.κ, .tF)) bb C w C' (w2.setCell ⟨bb, (kc.b + 4), none⟩ v') ∧ BK (w2.setCell ⟨bb, (kc.b + 4), none⟩ v') bb (upd f (kc.b + 4) v') ∧ KOut C' (w2.setCell ⟨bb, (kc.b + 4), none⟩ v') kc (upd f (kc.b + 4) v') xo xt xw xn (xf ++ [y]) xm xd xr := by
  obtain ⟨C', c1, c2, c3, c4, c5⟩ := app_field hF hB (i := (kc.b + 4)) (by omega) h.rF.2 (by simp) h1 ho hr
  refine ⟨C', c1, c2, c3, ?_, ?_, ?_, ?_, ?_, ?_, ?_, ?_⟩
  · rw [upd_other _ _ (by omega)]; exact h.rO.step hF c2 (by simp) (by simp)
  · rw [upd_other _ _ (by omega)]; exact h.rT.step hF c2 (by simp) (by simp)
  · rw [upd_other _ _ (by omega)]; exact h.rW.step hF c2 (by simp) (by simp)
  · rw [upd_other _ _ (by omega)]; exact h.rN.step hF c2 (by simp) (by simp)
  · rw [upd_same]; exact ⟨by simpa using c4, c5⟩
  · rw [upd_other _ _ (by omega)]; exact h.rM.step hF c2 (by simp) (by simp)
  · rw [upd_other _ _ (by omega)]; exact h.rD.step hF c2 (by simp) (by simp)
  · rw [upd_other _ _ (by omega)]; exact h.rR.step hF c2 (by simp) (by simp)
/-- 'b.X = append(b.X, y)' of the kind's slice number 5. -/
theorem KOut.push5 {y v' : Value} {w1 w2 : World} (h : KOut C w kc f xo xt xw xn xf xm xd xr) (hF : Fit C w bb) (hB : BK w bb f) (hb : kc.b + 9 ≤ 103) (h1 : Turned [] w w1) (ho : Onto w1 w2 (f (kc.b + 5)) v' xm.length 1) (hr : w2.ownsRow 0 3 1 v' (xm.length + 1) (xm ++ [y])) :
    ∃ C', Fit C' (w2.setCell ⟨bb, (kc.b + 5), none⟩ v') bb ∧ Stp (fun x => x = (kc.κ, .tM)) bb C w C' (w2.setCell ⟨bb, (kc.b + 5), none⟩ v') ∧ BK (w2.setCell ⟨bb, (kc.b + 5), none⟩ v') bb (upd f (kc.b + 5) v') ∧ KOut C' (w2.setCell ⟨bb, (kc.b + 5), none⟩ v') kc (upd f (kc.b + 5) v') xo xt xw xn xf (xm ++ [y]) xd xr := by
  obtain ⟨C', c1, c2, c3, c4, c5⟩ := app_field hF hB (i := (kc.b + 5)) (by omega) h.rM.2 (by simp) h1 ho hr
  refine ⟨C', c1, c2, c3, ?_, ?_, ?_, ?_, ?_, ?_, ?_, ?_⟩
  · rw [upd_other _ _ (by omega)]; exact h.rO.step hF c2 (by simp) (by simp)
  · rw [upd_other _ _ (by omega)]; exact h.rT.step hF c2 (by simp) (by simp)
  · rw [upd_other _ _ (by omega)]; exact h.rW.step hF c2 (by simp) (by simp)
  · rw [upd_other _ _ (by omega)]; exact h.rN.step hF c2 (by simp) (by simp)
  · rw [upd_other _ _ (by omega)]; exact h.rF.step hF c2 (by simp) (by simp)
  · rw [upd_same]; exact ⟨by simpa using c4, c5⟩
  · rw [upd_other _ _ (by omega)]; exact h.rD.step hF c2 (by simp) (by simp)
  · rw [upd_other _ _ (by omega)]; exact h.rR.step hF c2 (by simp) (by simp)
/-- 'b.X = append(b.X, y)' of the kind's slice number 6. -/
theorem KOut.push6 {y v' : Value} {w1 w2 : World} (h : KOut C w kc f xo xt xw xn xf xm xd xr) (hF : Fit C w bb) (hB : BK w bb f) (hb : kc.b + 9 ≤ 103) (h1 : Turned [] w w1) (ho : Onto w1 w2 (f (kc.b + 6)) v' xd.length 1) (hr : w2.ownsRow 0 3 1 v' (xd.length + 1) (xd ++ [y])) :
    ∃ C', Fit C' (w2.setCell ⟨bb, (kc.b + 6), none⟩ v') bb ∧ Stp (fun x => x = (kc.κ, .tD)) bb C w C' (w2.setCell ⟨bb, (kc.b + 6), none⟩ v') ∧ BK (w2.setCell ⟨bb, (kc.b + 6), none⟩ v') bb (upd f (kc.b + 6) v') ∧ KOut C' (w2.setCell ⟨bb, (kc.b + 6), none⟩ v') kc (upd f (kc.b + 6) v') xo xt xw xn xf xm (xd ++ [y]) xr := by
  obtain ⟨C', c1, c2, c3, c4, c5⟩ := app_field hF hB (i := (kc.b + 6)) (by omega) h.rD.2 (by simp) h1 ho hr
  refine ⟨C', c1, c2, c3, ?_, ?_, ?_, ?_, ?_, ?_, ?_, ?_⟩
  · rw [upd_other _ _ (by omega)]; exact h.rO.step hF c2 (by simp) (by simp)
  · rw [upd_other _ _ (by omega)]; exact h.rT.step hF c2 (by simp) (by simp)
  · rw [upd_other _ _ (by omega)]; exact h.rW.step hF c2 (by simp) (by simp)
  · rw [upd_other _ _ (by omega)]; exact h.rN.step hF c2 (by simp) (by simp)
  · rw [upd_other _ _ (by omega)]; exact h.rF.step hF c2 (by simp) (by simp)
  · rw [upd_other _ _ (by omega)]; exact h.rM.step hF c2 (by simp) (by simp)
  · rw [upd_same]; exact ⟨by simpa using c4, c5⟩
  · rw [upd_other _ _ (by omega)]; exact h.rR.step hF c2 (by simp) (by simp)
/-- 'b.X = append(b.X, y)' of the kind's slice number 7. -/
theorem KOut.push7 {y v' : Value} {w1 w2 : World} (h : KOut C w kc f xo xt xw xn xf xm xd xr) (hF : Fit C w bb) (hB : BK w bb f) (hb : kc.b + 9 ≤ 103) (h1 : Turned [] w w1) (ho : Onto w1 w2 (f (kc.b + 7)) v' xr.length 1) (hr : w2.ownsRow 0 3 1 v' (xr.length + 1) (xr ++ [y])) :
    ∃ C', Fit C' (w2.setCell ⟨bb, (kc.b + 7), none⟩ v') bb ∧ Stp (fun x => x = (kc.κ, .tR)) bb C w C' (w2.setCell ⟨bb, (kc.b + 7), none⟩ v') ∧ BK (w2.setCell ⟨bb, (kc.b + 7), none⟩ v') bb (upd f (kc.b + 7) v') ∧ KOut C' (w2.setCell ⟨bb, (kc.b + 7), none⟩ v') kc (upd f (kc.b + 7) v') xo xt xw xn xf xm xd (xr ++ [y]) := by
  obtain ⟨C', c1, c2, c3, c4, c5⟩ := app_field hF hB (i := (kc.b + 7)) (by omega) h.rR.2 (by simp) h1 ho hr
  refine ⟨C', c1, c2, c3, ?_, ?_, ?_, ?_, ?_, ?_, ?_, ?_⟩
  · rw [upd_other _ _ (by omega)]; exact h.rO.step hF c2 (by simp) (by simp)
  · rw [upd_other _ _ (by omega)]; exact h.rT.step hF c2 (by simp) (by simp)
  · rw [upd_other _ _ (by omega)]; exact h.rW.step hF c2 (by simp) (by simp)
  · rw [upd_other _ _ (by omega)]; exact h.rN.step hF c2 (by simp) (by simp)
  · rw [upd_other _ _ (by omega)]; exact h.rF.step hF c2 (by simp) (by simp)
  · rw [upd_other _ _ (by omega)]; exact h.rM.step hF c2 (by simp) (by simp)
  · rw [upd_other _ _ (by omega)]; exact h.rD.step hF c2 (by simp) (by simp)
  · rw [upd_same]; exact ⟨by simpa using c4, c5⟩
end
end Go.Proofs.YtaalohcldoakoaaGreatDoor
/- A region in its order, by the same table as one in whatever order. -/
namespace Go.Proofs.YtaalohcldoakoaaGreatDoor
open Go.RowKit
section
variable {P : Program} {ops : Array Oper} {Q : Exit → Act → World → Prop}
def YieldsL (P : Program) (ops : Array Oper) (D : List (Option Nat)) (val : Nat → Value) (a0 : Act) (As : List Nat) (W : Nat → World) (Q : Exit → Act → World → Prop) (i : Nat) : Prop :=
  ∀ (o : Oper) (a : Act) (w w' : World) (K : Act → World → Prop), ops[i]? = some o → o.dst = D.getD i none → a.tmps.size = a0.tmps.size → (∀ s, (∀ j, j < i → D.getD j none ≠ some s) → a.eval (.tmp s) = a0.eval (.tmp s)) → (∀ j d, D.getD j none = some d → waitsB ops i j = true → a.eval (.tmp d) = val j) → LegalC (fun x i => decide (i < x)) As W i w w' → K (a.put (D.getD i none) (val i)) w' → o.wp P a w K Q
structure ILine (D : List (Option Nat)) (val : Nat → Value) (a0 : Act) (As : List Nat) (W : Nat → World) (k : Nat) (a : Act) (w : World) : Prop where
  tsize : a.tmps.size = a0.tmps.size
  defers : a.defers = a0.defers
  off : ∀ s, (∀ j, j < k → D.getD j none ≠ some s) → a.tmps[s]? = a0.tmps[s]?
  val : ∀ i d, D.getD i none = some d → i < k → a.eval (.tmp d) = val i
  w : ∃ c, c ≤ As.length ∧ (∀ j x, As[j]? = some x → (x < k ↔ j < c)) ∧ w = W c
theorem wp_region_line {id : Nat} {a0 : Act} {w : World} (D : List (Option Nat)) (val : Nat → Value) (hok : regOk ops D a0.tmps.size = true) (As : List Nat) (W : Nat → World) (h0 : W 0 = w) (hAs : As.Pairwise (· < ·)) (hlt : As.all (fun x => decide (x < D.length)) = true)
    (hg : ∀ (i g : Nat) (b : Bool), (ops[i]?).bind (fun o : Oper => o.guard) = some (g, b) → ∃ b', val g = .bool b' ∧ (b' ≠ b → val i = undef ∧ i ∉ As))
    (hstep : ∀ i, i < D.length → (∀ (g : Nat) (b : Bool), (ops[i]?).bind (fun o : Oper => o.guard) = some (g, b) → val g = .bool b) → YieldsL P ops D val a0 As W Q i)
    (hend : ∀ a', a'.tmps.size = a0.tmps.size → a'.defers = a0.defers → (∀ s, some s ∉ D → a'.tmps[s]? = a0.tmps[s]?) → (∀ i d, D.getD i none = some d → a'.eval (.tmp d) = val i) → Q .normal a' (W As.length)) :
    (Code.region id ops false).wp P Q a0 w := by
  have hn : ops.size = D.length := by
    unfold regOk at hok
    simp only [Bool.and_eq_true, beq_iff_eq] at hok
    exact hok.1
  have alt : ∀ {j x : Nat}, As[j]? = some x → x < D.length := fun {j x} hj => by simpa using List.all_eq_true.1 hlt x (List.mem_of_getElem? hj)
  have mono : ∀ {j k x y : Nat}, As[j]? = some x → As[k]? = some y → j < k → x < y := fun {j k x y} h1 h2 hjk => by
    obtain ⟨l1, rfl⟩ := List.getElem?_eq_some_iff.1 h1
    obtain ⟨l2, rfl⟩ := List.getElem?_eq_some_iff.1 h2
    exact List.pairwise_iff_getElem.1 hAs j k l1 l2 hjk
  have mem : ∀ s i, D.getD i none = some s → some s ∈ D := fun s i e => by
    have hi : i < D.length := by
      apply Classical.byContradiction
      intro h
      rw [List.getD_eq_getElem?_getD, List.getElem?_eq_none (by omega)] at e
      cases e
    rw [List.getD_eq_getElem?_getD, List.getElem?_eq_getElem hi] at e
    have := List.getElem_mem hi
    rw [show D[i] = some s from e] at this
    exact this
  have lt : ∀ i d, D.getD i none = some d → i < D.length := fun i d e => by
    apply Classical.byContradiction
    intro h
    rw [List.getD_eq_getElem?_getD, List.getElem?_eq_none (by omega)] at e
    cases e
  have main : ∀ m k a w, k + m = D.length → ILine D val a0 As W k a w → wpOps P ops Q (List.range' k m) a w := by
    intro m
    induction m with
    | zero =>
      intro k a w hk h
      obtain ⟨c, hc1, hc2, hc3⟩ := h.w
      have hcm : c = As.length := by
        apply Classical.byContradiction
        intro hne
        have hl : c < As.length := by omega
        have hx : As[c]? = some As[c] := List.getElem?_eq_getElem hl
        have := (hc2 c _ hx).1 (by have := alt hx; omega)
        omega
      rw [hc3, hcm]
      exact hend a h.tsize h.defers (fun s hs => h.off s (fun j _ hj => hs (mem s j hj))) fun i d hD => h.val i d hD (by have := lt i d hD; omega)
    | succ m ih =>
      intro i a w hk h
      have hio : i < ops.size := by omega
      obtain ⟨o, ho⟩ : ∃ o, ops[i]? = some o := ⟨ops[i], Array.getElem?_eq_getElem hio⟩
      obtain ⟨r1, r2, r3, r4, r5, r6⟩ := reg_at hok ho
      have hdep : ∀ j d, D.getD j none = some d → waitsB ops i j = true → a.eval (.tmp d) = val j := fun j d hjd hh => by
        refine h.val j d hjd ?_
        unfold waitsB at hh
        rw [ho] at hh
        simp only [Option.map_some, Option.getD_some, Array.any_eq_true] at hh
        obtain ⟨q, hq, he⟩ := hh
        simp only [Bool.and_eq_true, beq_iff_eq] at he
        have := r3 _ (Array.getElem_mem hq) he.1
        omega
      obtain ⟨c, hc1, hc2, hc3⟩ := h.w
      have keeps : ∀ w'' : World, (∃ c', c' ≤ As.length ∧ (∀ j x, As[j]? = some x → (x < i + 1 ↔ j < c')) ∧ w'' = W c') → ILine D val a0 As W (i + 1) (a.put (D.getD i none) (val i)) w'' := fun w'' hw => by
        have hputs : (a.put (D.getD i none) (val i)).tmps.size = a0.tmps.size := by
          cases hD : D.getD i none <;> simp [Act.put, h.tsize]
        have hputd : (a.put (D.getD i none) (val i)).defers = a0.defers := by
          cases hD : D.getD i none <;> simp [Act.put, h.defers]
        refine ⟨hputs, hputd, fun s hs => ?_, fun j d hjd hh => ?_, hw⟩
        · cases hD : D.getD i none with
          | none => exact h.off s (fun j hj => hs j (by omega))
          | some d =>
            have : d ≠ s := fun e => hs i (by omega) (by rw [hD, e])
            simp only [Act.put, Array.getElem?_setIfInBounds, this, if_false]
            exact h.off s (fun j hj => hs j (by omega))
        · cases hD : D.getD i none with
          | none =>
            have hne : i ≠ j := fun e => by subst e; rw [hD] at hjd; cases hjd
            exact h.val j d hjd (by omega)
          | some d' =>
            rw [ev_put _ _ _ (by rw [h.tsize]; exact r4 d' hD)]
            by_cases e : i = j
            · subst e
              rw [hD] at hjd
              cases hjd
              simp
            · rw [if_neg (fun e2 => e (r5 j d (lt j d hjd) (by rw [hD, e2]) hjd))]
              exact h.val j d hjd (by omega)
      have legal : ∃ w'', LegalC (fun x i => decide (i < x)) As W i w w'' ∧ (∃ c', c' ≤ As.length ∧ (∀ j x, As[j]? = some x → (x < i + 1 ↔ j < c')) ∧ w'' = W c') ∧ (i ∉ As → w'' = w) := by
        by_cases hmem : i ∈ As
        · obtain ⟨j, hj⟩ := List.getElem?_of_mem hmem
          have hjl := (List.getElem?_eq_some_iff.1 hj).1
          have hge : c ≤ j := Nat.le_of_not_lt fun hl => by
            have := (hc2 j i hj).2 hl
            omega
          have hle : j ≤ c := by
            cases j with
            | zero => exact Nat.zero_le _
            | succ q =>
              obtain ⟨x, hx⟩ : ∃ x, As[q]? = some x := ⟨As[q]'(by omega), List.getElem?_eq_getElem (by omega)⟩
              have := (hc2 q x hx).1 (mono hx hj (by omega))
              omega
          obtain rfl : c = j := by omega
          refine ⟨W (c + 1), .inl ⟨c, hj, hc3, rfl⟩, ⟨c + 1, by omega, fun q x hq => ?_, rfl⟩, fun hno => absurd hmem hno⟩
          rcases Nat.lt_trichotomy q c with h1 | h1 | h1
          · have := mono hq hj h1
            omega
          · subst h1
            rw [hj] at hq
            cases hq
            omega
          · have := mono hj hq h1
            omega
        · have hup : ∀ q x, As[q]? = some x → decide (i < x) = true → c ≤ q := fun q x hq hr => Nat.le_of_not_lt fun hl => by
            have := (hc2 q x hq).2 hl
            have := of_decide_eq_true hr
            omega
          refine ⟨w, .inr ⟨hmem, rfl, c, hc1, hc3, hup⟩, ⟨c, hc1, fun q x hq => ?_, hc3⟩, fun _ => rfl⟩
          have hne : x ≠ i := fun e => hmem (by rw [← e]; exact List.mem_of_getElem? hq)
          have := hc2 q x hq
          omega
      obtain ⟨w'', leg, hw'', hsame⟩ := legal
      have hyield : ∀ (g : Nat) (b b' : Bool), o.guard = some (g, b) → val g = .bool b' → yielded ops a.tmps g = some b' := fun g b b' hgd h2 => by
        obtain ⟨h1, h3, h4⟩ := r6 g b hgd
        obtain ⟨d, hgD⟩ := Option.isSome_iff_exists.1 h4
        have hv := hdep g d hgD h3
        rw [h2] at hv
        have hgo : ∃ og, ops[g]? = some og := ⟨ops[g]'(by omega), Array.getElem?_eq_getElem (by omega)⟩
        obtain ⟨og, hog⟩ := hgo
        unfold yielded
        rw [hog]
        simp only [Option.bind_some, (reg_at hok hog).2.1, hgD]
        have hl : d < a.tmps.size := by rw [h.tsize]; exact (reg_at hok hog).2.2.2.1 d hgD
        simp only [Act.eval, Array.getD, hl, dite_true] at hv
        rw [Array.getElem?_eq_getElem hl]
        have : a.tmps[d] = .bool b' := hv
        rw [this]
      rw [List.range'_succ]
      unfold wpOps
      simp only [ho]
      by_cases hwant : Region.wanted o (yielded ops a.tmps) = true
      · rw [if_pos hwant]
        refine .inl (hstep i r1 (fun g b hgb => ?_) o a w w'' _ ho r2 h.tsize (fun s hs => ?_) hdep leg (ih (i + 1) _ w'' (by omega) (keeps w'' hw'')))
        · obtain ⟨b', h1, h2⟩ := hg i g b hgb
          rw [ho] at hgb
          have hgd : o.guard = some (g, b) := hgb
          have hy := hyield g b b' hgd h1
          simp [Region.wanted, hgd, hy] at hwant
          rw [h1, hwant]
        · simp only [Act.eval, Array.getD_eq_getD_getElem?, h.off s hs]
      · rw [if_neg hwant, r2]
        cases hgd : o.guard with
        | none => exact absurd (by simp [Region.wanted, hgd]) hwant
        | some gb =>
          obtain ⟨g, b⟩ := gb
          obtain ⟨b', h1, h2⟩ := hg i g b (by rw [ho]; exact hgd)
          have hy := hyield g b b' hgd h1
          have hne : b' ≠ b := fun e => hwant (by simp [Region.wanted, hgd, hy, e])
          have hs := hsame (h2 hne).2
          subst hs
          rw [← (h2 hne).1]
          exact ih (i + 1) _ w'' (by omega) (keeps w'' hw'')
  refine wp_region ?_
  rw [List.range_eq_range', hn]
  refine main D.length 0 a0 w (by omega) ⟨rfl, rfl, fun _ _ => rfl, fun i d _ hi => by omega, 0, Nat.zero_le _, fun j x _ => by omega, h0.symm⟩
end
end Go.Proofs.YtaalohcldoakoaaGreatDoor
/- Single operations of a region, run; where a turning one stands in its chain. -/
namespace Go.Proofs.YtaalohcldoakoaaGreatDoor
open Go.RowKit
theorem LegalC.at_ {R : Nat → Nat → Bool} {As : List Nat} {W : Nat → World} {i j : Nat} {w w' : World} (h : LegalC R As W i w w') (hnd : As.Nodup) (hj : As[j]? = some i) : w = W j ∧ w' = W (j + 1) := by
  rcases h with ⟨k, h1, h2, h3⟩ | ⟨h1, -⟩
  · have : k = j := by
      obtain ⟨l1, e1⟩ := List.getElem?_eq_some_iff.1 h1
      obtain ⟨l2, e2⟩ := List.getElem?_eq_some_iff.1 hj
      have hp := List.pairwise_iff_getElem.1 hnd
      rcases Nat.lt_trichotomy k j with h | h | h
      · exact absurd (e1.trans e2.symm) (hp k j l1 l2 h)
      · exact h
      · exact absurd (e2.trans e1.symm) (hp j k l2 l1 h)
    subst this
    exact ⟨h2, h3⟩
  · exact absurd (List.mem_of_getElem? hj) h1
theorem LegalC.off {R : Nat → Nat → Bool} {As : List Nat} {W : Nat → World} {i : Nat} {w w' : World} (h : LegalC R As W i w w') (hi : i ∉ As) : w' = w ∧ ∃ j, j ≤ As.length ∧ w = W j ∧ ∀ q x, As[q]? = some x → R x i = true → j ≤ q := by
  rcases h with ⟨k, h1, -⟩ | ⟨-, h2, h3⟩
  · exact absurd (List.mem_of_getElem? h1) hi
  · exact ⟨h2, h3⟩
theorem ld_int {w : World} {bb i : Nat} {z : Int} (h : w.cell? ⟨bb, i, none⟩ = some (.int .i64 z)) : (Instr.loadAt 3 (pv bb i)).run Tryz.prog w = .ok (vi z) w := by
  unfold pv
  go_simp
theorem st_int {w : World} {bb i : Nat} {z : Int} {u : Value} (h : w.cell? ⟨bb, i, none⟩ = some u) (hz : w.frozen? ⟨bb, i, none⟩ = false) : (Instr.storeAt 3 (pv bb i) (vi z)).run Tryz.prog w = .ok () (w.setCell ⟨bb, i, none⟩ (vi z)) := by
  unfold pv
  go_simp
theorem ld_ints {w : World} {bb i : Nat} {a : Option Addr} {n c : Nat} (h : w.cell? ⟨bb, i, none⟩ = some (.slice a n c)) : (Instr.loadAt 29 (pv bb i)).run Tryz.prog w = .ok (.slice a n c) w := by
  unfold pv
  go_simp
theorem st_ints {w : World} {bb i : Nat} {a : Option Addr} {n c : Nat} {u : Value} (h : w.cell? ⟨bb, i, none⟩ = some u) (hz : w.frozen? ⟨bb, i, none⟩ = false) : (Instr.storeAt 29 (pv bb i) (.slice a n c)).run Tryz.prog w = .ok () (w.setCell ⟨bb, i, none⟩ (.slice a n c)) := by
  unfold pv
  go_simp
theorem ld_intso {w : World} {bb i : Nat} {y : Value} (hy : ∃ a n c, y = .slice a n c) (h : w.cell? ⟨bb, i, none⟩ = some y) : (Instr.loadAt 29 (pv bb i)).run Tryz.prog w = .ok y w := by
  obtain ⟨a, n, c, rfl⟩ := hy
  exact ld_ints h
theorem st_intso {w : World} {bb i : Nat} {y u : Value} (hy : ∃ a n c, y = .slice a n c) (h : w.cell? ⟨bb, i, none⟩ = some u) (hz : w.frozen? ⟨bb, i, none⟩ = false) : (Instr.storeAt 29 (pv bb i) y).run Tryz.prog w = .ok () (w.setCell ⟨bb, i, none⟩ y) := by
  obtain ⟨a, n, c, rfl⟩ := hy
  exact st_ints h hz
theorem Row.slice {w : World} {B e sz n : Nat} {v : Value} {xs : List Value} (h : w.ownsRow B e sz v n xs) : ∃ a n c, v = .slice a n c := by
  obtain ⟨a, c, e⟩ := Row.shape h
  exact ⟨a, _, c, e⟩
theorem slice_one {y : Value} (hy : ∃ a n c, y = .slice a n c) : y.oneCell' = true := by
  obtain ⟨a, n, c, rfl⟩ := hy
  rfl
theorem bs_int (w : World) (z : Int) : (Instr.buildSlice 29 1 #[(0, vi z)]).run Tryz.prog w = .ok (.slice (some ⟨w.heap.size, 0, none⟩) 1 1) (w.alloc (.cells #[vi z] 3)) := by
  go_simp
theorem info_int : (Tryz.prog.info? 3).map (fun i => (i.zero, i.size, i.bytes)) = some (some (.int .i64 0), 1, 8) := by kernel_rfl
theorem und_ints : Tryz.prog.underlying 29 = some (.slice 3) := by kernel_rfl
theorem x_addc {ρ : Operand → Value} {o : Oper} {w : World} {x y : Operand} {t : TypeId} {a b : Int} (h : o.op = .binOp .add 3 x y t) (hx : ρ x = vi a) (hy : ρ y = vi b) (h0 : -9000000000000000000 ≤ a + b) (h1 : a + b ≤ 9000000000000000000) : (execOp ρ o).run Tryz.prog w = .ok (.value (vi (a + b))) w := by
  have hw : IntKind.i64.wrap (a + b) = a + b := by simp [IntKind.wrap, IntKind.bits, IntKind.signed]; omega
  simp [execOp, h, hx, hy, eqGuard, binOp, Op.intArith, hw]
/-- One number of a list is put. -/
theorem row_set {w : World} {e sz n g cap : Nat} {zs : List Int} (h : IRow w e sz (.slice (some ⟨g, 0, none⟩) n cap) n zs) (j : Nat) (z : Int) : IRow (w.setCell ⟨g, j, none⟩ (.int .i64 z)) e sz (.slice (some ⟨g, 0, none⟩) n cap) n (zs.set j z) := by
  have := (World.ownsRow.stored h j (.int .i64 z)).1
  unfold IRow
  rw [List.map_set]
  exact this
theorem wp_fall {P : Program} {c : Code} {Q : Exit → Act → World → Prop} {a : Act} {w : World} (h : c.wp P (Exit.then (Q .normal) Q) a w) : c.wp P Q a w :=
  wp_mono h (fun e a w h => by cases e <;> exact h)
end Go.Proofs.YtaalohcldoakoaaGreatDoor
/- More operations, run. -/
namespace Go.Proofs.YtaalohcldoakoaaGreatDoor
open Go.RowKit
theorem not_low2 {D : List (Option Nat)} {s n c : Nat} (hs : s < n) (hc : s ≠ c) (h : D.all (fun d => match d with | none => true | some x => decide (n ≤ x) || x == c) = true) : some s ∉ D := fun hm => by
  have := List.all_eq_true.1 h _ hm
  simp at this
  omega
theorem two_guards {ops : Array Oper} {g0 g1 : Nat} {b0 b1 : Bool} (h : ops.all (fun o => o.guard == none || o.guard == some (g0, b0) || o.guard == some (g1, b1)) = true) {i g : Nat} {b : Bool} (hh : (ops[i]?).bind (fun o : Oper => o.guard) = some (g, b)) : (g = g0 ∧ b = b0) ∨ (g = g1 ∧ b = b1) := by
  obtain ⟨o, ho, hg⟩ := Option.bind_eq_some_iff.1 hh
  rw [Array.all_eq_true] at h
  obtain ⟨hi, e⟩ := Array.getElem?_eq_some_iff.1 ho
  have := h i hi
  rw [e, hg] at this
  simpa using this
section
variable {ρ : Operand → Value} {o : Oper} {w : World}
theorem x_len {x : Operand} {t e : TypeId} {a : Option Addr} {n c : Nat} (ht : Tryz.prog.underlying t = some (.slice e)) (h : o.op = .call { callee := .builtin .len, args := #[x], argTypes := #[t] }) (hx : ρ x = .slice a n c) : (execOp ρ o).run Tryz.prog w = .ok (.value (vi (n : Nat))) w := by
  simp [execOp, h, resolve, invoke, builtin, hx, Builtin.len_, run_underlying ht, goInt, vi]
theorem x_lss {x y : Operand} {t : TypeId} {a b : Int} (h : o.op = .binOp .lss 3 x y t) (hx : ρ x = vi a) (hy : ρ y = vi b) : (execOp ρ o).run Tryz.prog w = .ok (.value (.bool (decide (a < b)))) w := by
  simp [execOp, h, hx, hy, eqGuard, binOp, Op.intCmp]
theorem x_gtr {x y : Operand} {t : TypeId} {a b : Int} (h : o.op = .binOp .gtr 3 x y t) (hx : ρ x = vi a) (hy : ρ y = vi b) : (execOp ρ o).run Tryz.prog w = .ok (.value (.bool (decide (b < a)))) w := by
  simp [execOp, h, hx, hy, eqGuard, binOp, Op.intCmp]
theorem x_mulc {x y : Operand} {t : TypeId} {a b : Int} (h : o.op = .binOp .mul 3 x y t) (hx : ρ x = vi a) (hy : ρ y = vi b) (h0 : -9000000000000000000 ≤ a * b) (h1 : a * b ≤ 9000000000000000000) : (execOp ρ o).run Tryz.prog w = .ok (.value (vi (a * b))) w := by
  have hw : IntKind.i64.wrap (a * b) = a * b := by simp [IntKind.wrap, IntKind.bits, IntKind.signed]; omega
  simp [execOp, h, hx, hy, eqGuard, binOp, Op.intArith, hw]
theorem x_build1 {t : TypeId} {ps : Array (Nat × Operand)} {qs : Array (Nat × Value)} {v : Value} (h : o.op = .build t ps) (hq : ps.map (fun (i, x) => (i, ρ x)) = qs) (hr : (Instr.build t qs).run Tryz.prog w = .ok v w) : (execOp ρ o).run Tryz.prog w = .ok (.value v) w := by
  subst hq
  simp [execOp, h, hr, Result.andThen]
theorem x_not {x : Operand} {t : TypeId} {b : Bool} (h : o.op = .unOp .not t x) (hx : ρ x = .bool b) : (execOp ρ o).run Tryz.prog w = .ok (.value (.bool !b)) w := by
  simp [execOp, h, hx, Op.unary]
theorem x_pick {x y z : Operand} {b : Bool} (h : o.op = .pick x y z) (hx : ρ x = .bool b) : (execOp ρ o).run Tryz.prog w = .ok (.value (if b then ρ y else ρ z)) w := by
  simp [execOp, h, hx, asBool]
end
theorem ld_bool {w : World} {bb i : Nat} {z : Bool} (h : w.cell? ⟨bb, i, none⟩ = some (.bool z)) : (Instr.loadAt 4 (pv bb i)).run Tryz.prog w = .ok (.bool z) w := by
  unfold pv
  go_simp
theorem st_bool {w : World} {bb i : Nat} {z : Bool} {u : Value} (h : w.cell? ⟨bb, i, none⟩ = some u) (hz : w.frozen? ⟨bb, i, none⟩ = false) : (Instr.storeAt 4 (pv bb i) (.bool z)).run Tryz.prog w = .ok () (w.setCell ⟨bb, i, none⟩ (.bool z)) := by
  unfold pv
  go_simp
end Go.Proofs.YtaalohcldoakoaaGreatDoor
/- Package pool's Give, by contract. -/
namespace Go.Proofs.YtaalohcldoakoaaGreatDoor
open Go.RowKit
theorem one_guard {ops : Array Oper} {g0 : Nat} {b0 : Bool} (h : ops.all (fun o => o.guard == none || o.guard == some (g0, b0)) = true) {i g : Nat} {b : Bool} (hh : (ops[i]?).bind (fun o : Oper => o.guard) = some (g, b)) : g = g0 ∧ b = b0 := by
  obtain ⟨o, ho, hg⟩ := Option.bind_eq_some_iff.1 hh
  rw [Array.all_eq_true] at h
  obtain ⟨hi, e⟩ := Array.getElem?_eq_some_iff.1 ho
  have := h i hi
  rw [e, hg] at this
  simpa using this
section
variable {ρ : Operand → Value} {o : Oper} {w : World}
theorem x_neqInt {x y : Operand} {t : TypeId} {a b : Int} (h : o.op = .binOp .neq 3 x y t) (hx : ρ x = .int .i64 a) (hy : ρ y = .int .i64 b) : (execOp ρ o).run Tryz.prog w = .ok (.value (.bool (a != b))) w := by
  refine x_bin h hx hy (by simp [eqGuard]) ?_
  simp [binOp, Op.intCmp]
end
section
variable {w : World} {p sb pb nb : Nat} {L : Nat → Nat} {s : PSt} {i : Nat} {g : Int}
set_option maxHeartbeats 1600000 in
theorem cPGiveGone (h : PA w p sb pb nb L s) (h1 : 1 ≤ i) (h2 : i ≤ s.n) (hn : s.n ≤ 4096) (g0 : 0 ≤ g) (g1 : g ≤ 1099511627775) (g2 : g % 2 = 1) (hg : (s.slot i).gen ≠ g) :
    Calls Tryz.prog 13 #[.pointer (some ⟨p, 0, none⟩), .pointer none, .int .i64 (hnd i g)] w fun e w' => e = .returned (.int .i64 104) ∧ w' = w.drew := by
  have HS := cSlot h h1 h2 hn g0 g1 g2
  have c0 := cell_at h.pool 0
  simp at c0
  have hlt : (i : Int) < (s.n : Int) + 1 := by omega
  have HLd := cPLoad (ptr_cell h.slots h2) (h.life i h2) rfl
  have l0 := cell_at (h.life i h2) 0
  simp at l0
  have HB : Hid _ := h
  clear h l0
  go_enter Tryz.func13, Tryz.ntmps13
  go_wp2_with (first
    | (go_at_call 62; refine HS.mono ?_; rintro e w' ⟨rfl, hw⟩; obtain rfl := hw.symm)
    | (go_at_call 61; refine (cStep _).mono ?_; rintro e w' ⟨rfl, hw⟩; obtain rfl := hw.symm)
    | (go_at_call 58; refine HLd.mono ?_; rintro e w' ⟨rfl, hw⟩; obtain rfl := hw.symm))
  rename_i K hK
  clear c0 HLd HS
  have gL : w.drew.heap[L i]? = some (lifeObj (s.slot i)) := HB.out.life i h2
  refine wp_region_part (by kernel_rfl) [some 30, some 31, some 32, some 33, some 34, some 35, some 36, some 37, some 38, some 39, some 40, some 41, some 42, some 43, some 44, some 45, some 46, some 47, some 48, some 49] (fun k => match k with
    | 0 => pv (L i) 0 | 1 => pv (L i) 0 | 2 => pv (L i) 0 | 3 => .int .i64 (s.slot i).gen | 4 => .int .i64 g | 5 => .bool true | 6 => .bool true | 19 => .bool true | _ => undef) (by kernel_rfl) ?_ ?_ ?_
  · intro k g b' h
    obtain ⟨rfl, rfl⟩ := one_guard (g0 := 6) (b0 := false) (by kernel_rfl) h
    refine ⟨true, rfl, fun _ => ?_⟩
    match k, h with
    | 0, h => exact (nomatch (show (none : Option (Nat × Bool)) = some (6, false) from h))
    | 1, h => exact (nomatch (show (none : Option (Nat × Bool)) = some (6, false) from h))
    | 2, h => exact (nomatch (show (none : Option (Nat × Bool)) = some (6, false) from h))
    | 3, h => exact (nomatch (show (none : Option (Nat × Bool)) = some (6, false) from h))
    | 4, h => exact (nomatch (show (none : Option (Nat × Bool)) = some (6, false) from h))
    | 5, h => exact (nomatch (show (none : Option (Nat × Bool)) = some (6, false) from h))
    | 6, h => exact (nomatch (show (none : Option (Nat × Bool)) = some (6, false) from h))
    | 7, h => exact rfl
    | 8, h => exact rfl
    | 9, h => exact rfl
    | 10, h => exact rfl
    | 11, h => exact rfl
    | 12, h => exact rfl
    | 13, h => exact rfl
    | 14, h => exact rfl
    | 15, h => exact rfl
    | 16, h => exact rfl
    | 17, h => exact rfl
    | 18, h => exact rfl
    | 19, h => exact (nomatch (show (none : Option (Nat × Bool)) = some (6, false) from h))
    | k + 20, _ => rfl
  · intro k hk hgd o ac K ho hd _ hoff hv hK
    rcases (by simp at hk; omega : k = 0 ∨ k = 1 ∨ k = 2 ∨ k = 3 ∨ k = 4 ∨ k = 5 ∨ k = 6 ∨ k = 7 ∨ k = 8 ∨ k = 9 ∨ k = 10 ∨ k = 11 ∨ k = 12 ∨ k = 13 ∨ k = 14 ∨ k = 15 ∨ k = 16 ∨ k = 17 ∨ k = 18 ∨ k = 19) with rfl | rfl | rfl | rfl | rfl | rfl | rfl | rfl | rfl | rfl | rfl | rfl | rfl | rfl | rfl | rfl | rfl | rfl | rfl | rfl
    case inl => exact l_val hd ((x_move (op_is rfl ho)).trans (by rw [hoff 10 (by decide)]; rfl)) hK
    case inr.inl => exact l_val hd (x_nil (op_is rfl ho) (hv 0 30 rfl (by kernel_rfl))) hK
    case inr.inr.inl => exact l_val hd (x_field (op_is rfl ho) (by rw [hv 1 31 rfl (by kernel_rfl)]; exact (run_lifeField _ (L i)).1)) hK
    case inr.inr.inr.inl => exact l_val hd (x_load (op_is rfl ho) (by rw [hv 2 32 rfl (by kernel_rfl)]; exact run_lifeGen gL)) hK
    case inr.inr.inr.inr.inl => exact l_val hd ((x_move (op_is rfl ho)).trans (by rw [hoff 8 (by decide)]; rfl)) hK
    case inr.inr.inr.inr.inr.inl => exact l_val hd ((x_neqInt (op_is rfl ho) (hv 3 33 rfl (by kernel_rfl)) (hv 4 34 rfl (by kernel_rfl))).trans (by rw [show ((s.slot i).gen != g) = true from by simp [hg]]; rfl)) hK
    case inr.inr.inr.inr.inr.inr.inl => exact l_val hd ((x_move (op_is rfl ho)).trans (by rw [hv 5 35 rfl (by kernel_rfl)]; rfl)) hK
    case inr.inr.inr.inr.inr.inr.inr.inr.inr.inr.inr.inr.inr.inr.inr.inr.inr.inr.inr => exact l_val (v := .bool true) hd ((x_pick (op_is (p := .pick (.tmp 36) (.const (.bool true)) (.tmp 48)) rfl ho) (hv 6 36 rfl (by kernel_rfl))).trans rfl) hK
    all_goals
      exact absurd (hgd 6 false rfl) (by intro e; cases e)
  · intro a' h1' h2' h3 h4
    obtain ⟨cc, rfl, hcc⟩ := expand57 h1' h2'
    have x49 : cc 49 = .bool true := (hcc 49).trans (h4 19 49 rfl)
    clear h1' h2' h3 h4 hcc HB gL
    refine hK _ _ ?_
    unfold lit57
    simp only [x49]
    clear x49
    go_wp2
    go_ret
    exact ⟨rfl, rfl⟩
set_option maxRecDepth 100000 in
set_option maxHeartbeats 1600000 in
theorem cPGive (h : PA w p sb pb nb L s) (h1 : 1 ≤ i) (h2 : i ≤ s.n) (hn : s.n ≤ 4096) (g0 : 0 ≤ g) (g1 : g ≤ 1099511627774) (g2 : g % 2 = 1) (hg : (s.slot i).gen = g) (ho : s.Ok) :
    Calls Tryz.prog 13 #[.pointer (some ⟨p, 0, none⟩), .pointer none, .int .i64 (hnd i g)] w fun e w' => e = .returned (.int .i64 0) ∧ Turned (blocks p sb pb nb L s.n) w w' ∧ ∃ b', w.heap.size ≤ b' ∧ PA w' p sb pb nb (upd L i b') (s.give i (-7777777)) := by
  have HS := cSlot h h1 h2 hn g0 (by omega) g2
  have c0 := cell_at h.pool 0
  simp at c0
  have hlt : (i : Int) < (s.n : Int) + 1 := by omega
  have HLd := cPLoad (ptr_cell h.slots h2) (h.life i h2) rfl
  have HB : Hid _ := h
  clear h
  go_enter Tryz.func13, Tryz.ntmps13
  go_wp2_with (first
    | (go_at_call 62; refine HS.mono ?_; rintro e w' ⟨rfl, hw⟩; obtain rfl := hw.symm)
    | (go_at_call 61; refine (cStep _).mono ?_; rintro e w' ⟨rfl, hw⟩; obtain rfl := hw.symm)
    | (go_at_call 58; refine HLd.mono ?_; rintro e w' ⟨rfl, hw⟩; obtain rfl := hw.symm))
  rename_i K hK
  clear c0 HLd HS
  have hB := HB.out
  have hBd : PA w.drew p sb pb nb L s := hB.keep ((Turned.refl [] w).drew) (by simp)
  have HNL := cGiven w.drew (g + 1)
  have HC := cLed hBd h2 (g + 1) (-7777777) (-7777777) (-7777777) (-7777777) (-7777777) (-7777777)
  have tL : Turned [] w.drew (lifeW w.drew (g + 1) (-7777777) (-7777777) (-7777777) (-7777777) (-7777777) (-7777777)) := lifeW_turned [] _ _ _ _ _ _ _ _
  have tP : ∀ (o : Obj) (r : Nat), w.heap[r]? = some o → r ≠ sb → (w.drew.heap[r]? = some o ∧ (lifeW w.drew (g + 1) (-7777777) (-7777777) (-7777777) (-7777777) (-7777777) (-7777777)).heap[r]? = some o ∧ (ledW w.drew sb i (g + 1) (-7777777) (-7777777) (-7777777) (-7777777) (-7777777) (-7777777)).heap[r]? = some o) := fun o r hr hne => ⟨hr, tL.heap hr (by simp), (blk_other hne _ _).trans (tL.heap hr (by simp))⟩
  have fP := tP _ _ hB.pool hB.d1
  have fL := tP _ _ (hB.life i h2) (hB.l2 h2)
  refine wp_region_two (w1 := lifeW w.drew (g + 1) (-7777777) (-7777777) (-7777777) (-7777777) (-7777777) (-7777777)) (w2 := ledW w.drew sb i (g + 1) (-7777777) (-7777777) (-7777777) (-7777777) (-7777777) (-7777777)) (by kernel_rfl) [some 30, some 31, some 32, some 33, some 34, some 35, some 36, some 37, some 38, some 39, some 40, some 41, some 42, some 43, some 44, some 45, some 46, some 47, some 48, some 49] (fun k => match k with
    | 0 => pv (L i) 0 | 1 => pv (L i) 0 | 2 => pv (L i) 0 | 3 => .int .i64 g | 4 => .int .i64 g | 5 => .bool false | 6 => .bool false | 7 => pv p 0 | 8 => pv p 0 | 9 => pv p 0 | 10 => .slice (some ⟨sb, 0, none⟩) (s.n + 1) (s.n + 1) | 11 => .int .i64 i | 12 => pv sb i | 13 => pv (L i) 0 | 14 => .int .i64 g | 15 => .int .i64 (g + 1) | 16 => pv (w.drew.heap.size + 1) 0 | 17 => .bool true | _ => .bool false) (by kernel_rfl) 16 17 (by decide) (by decide) (by decide) (by decide +kernel) ?_ ?_ ?_
  · intro k g b' h
    obtain ⟨rfl, rfl⟩ := one_guard (g0 := 6) (b0 := false) (by kernel_rfl) h
    rfl
  · intro k hk o ac wa wb K ho hd _ hoff hv hL hK
    rcases (by simp at hk; omega : k = 0 ∨ k = 1 ∨ k = 2 ∨ k = 3 ∨ k = 4 ∨ k = 5 ∨ k = 6 ∨ k = 7 ∨ k = 8 ∨ k = 9 ∨ k = 10 ∨ k = 11 ∨ k = 12 ∨ k = 13 ∨ k = 14 ∨ k = 15 ∨ k = 16 ∨ k = 17 ∨ k = 18 ∨ k = 19) with rfl | rfl | rfl | rfl | rfl | rfl | rfl | rfl | rfl | rfl | rfl | rfl | rfl | rfl | rfl | rfl | rfl | rfl | rfl | rfl
    case inr.inr.inr.inr.inr.inr.inr.inr.inr.inr.inr.inr.inr.inr.inr.inr.inl =>
      obtain ⟨rfl, rfl⟩ : wa = w.drew ∧ wb = lifeW w.drew (g + 1) (-7777777) (-7777777) (-7777777) (-7777777) (-7777777) (-7777777) := by
        rcases hL with ⟨-, h2, h3⟩ | ⟨h1, -⟩ | ⟨h1, -⟩
        · exact ⟨h2, h3⟩
        · exact absurd h1 (by decide)
        · exact absurd rfl h1
      exact l_call hd (op_is rfl ho) (by simp [hv 15 45 rfl (by kernel_rfl)]) Tryz.func63 (by kernel_rfl) (by rfl) HNL hK
    case inr.inr.inr.inr.inr.inr.inr.inr.inr.inr.inr.inr.inr.inr.inr.inr.inr.inl =>
      obtain ⟨rfl, rfl⟩ : wa = lifeW w.drew (g + 1) (-7777777) (-7777777) (-7777777) (-7777777) (-7777777) (-7777777) ∧ wb = ledW w.drew sb i (g + 1) (-7777777) (-7777777) (-7777777) (-7777777) (-7777777) (-7777777) := by
        rcases hL with ⟨h1, -⟩ | ⟨-, h2, h3⟩ | ⟨-, h1, -⟩
        · exact absurd h1 (by decide)
        · exact ⟨h2, h3⟩
        · exact absurd rfl h1
      exact l_call hd (op_is rfl ho) (by simp [hv 12 42 rfl (by kernel_rfl), hv 13 43 rfl (by kernel_rfl), hv 16 46 rfl (by kernel_rfl)]) Tryz.func59 (by kernel_rfl) (by rfl) HC hK
    all_goals
      obtain ⟨rfl, hw3⟩ : wb = wa ∧ (wa = w.drew ∨ wa = lifeW w.drew (g + 1) (-7777777) (-7777777) (-7777777) (-7777777) (-7777777) (-7777777) ∨ wa = ledW w.drew sb i (g + 1) (-7777777) (-7777777) (-7777777) (-7777777) (-7777777) (-7777777)) := by
        rcases hL with ⟨h1, -⟩ | ⟨h1, -⟩ | ⟨-, -, h2, h3 | ⟨-, h3⟩ | ⟨-, -, h3⟩⟩
        · exact absurd h1 (by decide)
        · exact absurd h1 (by decide)
        · exact ⟨h2, .inl h3⟩
        · exact ⟨h2, .inr (.inl h3)⟩
        · exact ⟨h2, .inr (.inr h3)⟩
      have three : ∀ {o : Obj} {r : Nat}, (w.drew.heap[r]? = some o ∧ (lifeW w.drew (g + 1) (-7777777) (-7777777) (-7777777) (-7777777) (-7777777) (-7777777)).heap[r]? = some o ∧ (ledW w.drew sb i (g + 1) (-7777777) (-7777777) (-7777777) (-7777777) (-7777777) (-7777777)).heap[r]? = some o) → wb.heap[r]? = some o := fun {o r} f => by
        rcases hw3 with e | e | e
        · rw [e]; exact f.1
        · rw [e]; exact f.2.1
        · rw [e]; exact f.2.2
      have gP := three fP
      have gL := three fL
    · exact l_val hd ((x_move (op_is rfl ho)).trans (by rw [hoff 10 (by decide)]; rfl)) hK
    · exact l_val hd (x_nil (op_is rfl ho) (hv 0 30 rfl (by kernel_rfl))) hK
    · exact l_val hd (x_field (op_is rfl ho) (by rw [hv 1 31 rfl (by kernel_rfl)]; exact (run_lifeField _ (L i)).1)) hK
    · exact l_val hd (x_load (op_is rfl ho) (by rw [hv 2 32 rfl (by kernel_rfl)]; exact (run_lifeGen gL).trans (by rw [hg]; rfl))) hK
    · exact l_val hd ((x_move (op_is rfl ho)).trans (by rw [hoff 8 (by decide)]; rfl)) hK
    · exact l_val hd ((x_neqInt (op_is rfl ho) (hv 3 33 rfl (by kernel_rfl)) (hv 4 34 rfl (by kernel_rfl))).trans (by rw [bne_self_eq_false]; rfl)) hK
    · exact l_val hd ((x_move (op_is rfl ho)).trans (by rw [hv 5 35 rfl (by kernel_rfl)]; rfl)) hK
    · exact l_val hd ((x_move (op_is rfl ho)).trans (by rw [hoff 0 (by decide)]; rfl)) hK
    · exact l_val hd (x_nil (op_is rfl ho) (hv 7 37 rfl (by kernel_rfl))) hK
    · exact l_val hd (x_field (op_is rfl ho) (by rw [hv 8 38 rfl (by kernel_rfl)]; exact run_poolField _ p)) hK
    · exact l_val hd (x_load (op_is rfl ho) (by rw [hv 9 39 rfl (by kernel_rfl)]; exact run_loadSlots gP)) hK
    · exact l_val hd ((x_move (op_is rfl ho)).trans (by rw [hoff 7 (by decide)]; rfl)) hK
    · exact l_val hd (x_index (op_is rfl ho) (by rw [hv 10 40 rfl (by kernel_rfl), hv 11 41 rfl (by kernel_rfl)]; exact run_indexSlots _ sb s.n i h2)) hK
    · exact l_val hd ((x_move (op_is rfl ho)).trans (by rw [hoff 10 (by decide)]; rfl)) hK
    · exact l_val hd ((x_move (op_is rfl ho)).trans (by rw [hoff 8 (by decide)]; rfl)) hK
    · exact l_val hd (x_add1 (op_is rfl ho) (hv 14 44 rfl (by kernel_rfl)) rfl g0 g1) hK
    · exact l_val hd ((x_not (op_is rfl ho) (hv 17 47 rfl (by kernel_rfl))).trans rfl) hK
    · exact l_val (v := .bool false) hd ((x_pick (op_is (p := .pick (.tmp 36) (.const (.bool true)) (.tmp 48)) rfl ho) (hv 6 36 rfl (by kernel_rfl))).trans (by show Result.ok (Next.value (ac.eval (.tmp 48))) _ = _; rw [hv 18 48 rfl (by kernel_rfl)]; rfl)) hK
  · intro a' h1' h2' h3 h4
    obtain ⟨cc, rfl, hcc⟩ := expand57 h1' h2'
    have x0 : cc 0 = .pointer (some ⟨p, 0, none⟩) := (hcc 0).trans ((ev_same (h3 0 (by decide))).trans rfl)
    have x1 : cc 1 = .pointer none := (hcc 1).trans ((ev_same (h3 1 (by decide))).trans rfl)
    have x7 : cc 7 = .int .i64 i := (hcc 7).trans ((ev_same (h3 7 (by decide))).trans rfl)
    have x49 : cc 49 = .bool false := (hcc 49).trans (h4 19 49 rfl)
    have hLed := hBd.led h2 (g + 1) (-7777777) (-7777777) (-7777777) (-7777777) (-7777777) (-7777777)
    have c1 := cell_at hLed.pool 1
    simp at c1
    have HPu := cPush0 hLed.pile (i := i) (by omega) h2
    have HLed : Hid _ := hLed
    have hTW : Turned (blocks p sb pb nb L s.n) w (ledW w.drew sb i (g + 1) (-7777777) (-7777777) (-7777777) (-7777777) (-7777777) (-7777777)) := ((Turned.refl (blocks p sb pb nb L s.n) w).drew).inner (ledW_turned (l := blocks p sb pb nb L s.n) (by simp [blocks]) w.drew i _ _ _ _ _ _ _) (fun x hx => .inl hx)
    clear h1' h2' h3 h4 hcc hLed fP fL tP tL HC HNL hBd hB HB
    refine hK _ _ ?_
    unfold lit57
    simp only [x0, x1, x7, x49]
    clear x0 x1 x7 x49
    generalize hW2 : ledW w.drew sb i (g + 1) (-7777777) (-7777777) (-7777777) (-7777777) (-7777777) (-7777777) = W2 at *
    go_wp2_with (go_at_call 64; refine HPu.mono ?_; rintro e w' ⟨rfl, rfl⟩)
    go_ret
    have mp : pb ∈ blocks p sb pb nb L s.n ∨ w.heap.size ≤ pb := .inl (by simp [blocks])
    have mn : nb ∈ blocks p sb pb nb L s.n ∨ w.heap.size ≤ nb := .inl (by simp [blocks])
    have hge : s.give i (-7777777) = { s with slot := upd s.slot i ⟨g + 1, -7777777, -7777777, -7777777, -7777777, -7777777, -7777777⟩, h := nextV s.h i, f := upd s.f i (idxV s.h).toNat } := by unfold PSt.give; rw [hg]
    refine ⟨rfl, (hTW.drew.set mn _ _).set mp _ _, w.drew.heap.size + 1, (by show w.heap.size ≤ w.heap.size + 1; omega), ?_⟩
    rw [hge]
    exact HLed.out.push h2 ho.h0 _
end
end Go.Proofs.YtaalohcldoakoaaGreatDoor
/- Package pile, alone: Look. -/
namespace Go.Proofs.YtaalohcldoakoaaGreatDoor
open Go.RowKit
set_option maxHeartbeats 800000 in
theorem cLook {w : World} {b nb n : Nat} {h : Int} {f : Nat → Nat} (H : PileAt w b nb n h fun k => (f k : Int)) (hn : n ≤ 4096) (hf : ∀ k, k ≤ n → f k ≤ n) {i0 : Nat} (hi : idxV h = i0) (hi0 : i0 ≤ n) :
    Calls Tryz.prog 126 #[.pointer (some ⟨b, 0, none⟩), .pointer none] w fun e w' => ∃ v, e = .returned v ∧ Turned [] w w' ∧ w'.ownsRow w.heap.size 3 1 v (chain f (n + 1) i0 []).length (placesV (chain f (n + 1) i0 [])) := by
  have HI := cIndex h
  rw [hi] at HI
  have hb := H.head
  have HB := cBelow H hn hf hi0
  clear H
  go_enter Tryz.func126, Tryz.ntmps126
  go_wp2
  refine wp_loop_once ?_
  go_wp2_with (first
    | (go_at_call 61; refine (cStep _).mono ?_; rintro e w' ⟨rfl, hw⟩; obtain rfl := hw.symm)
    | (go_at_call 108; refine (cHead hb).mono ?_; rintro e w' ⟨rfl, hw⟩; obtain rfl := hw.symm)
    | (go_at_call 109; refine (HI _).mono ?_; rintro e w' ⟨rfl, hw⟩; obtain rfl := hw.symm)
    | (go_at_call 128; refine HB.mono ?_; rintro e w2 ⟨v, rfl, hT, hR⟩; have hb2 := hT.heap hb (by simp); clear hb)
    | (go_at_call 108; refine (cHead hb2).mono ?_; rintro e w' ⟨rfl, hw⟩; obtain rfl := hw.symm))
  go_ret
  exact ⟨_, rfl, hT, hR⟩
end Go.Proofs.YtaalohcldoakoaaGreatDoor
/- Package pool's calls on any handle, alone, by contract; Look, Free. -/
namespace Go.Proofs.YtaalohcldoakoaaGreatDoor
open Go.RowKit
section
variable {w : World} {p sb pb nb : Nat} {L : Nat → Nat} {s : PSt} {i : Nat} {g : Int}
set_option maxHeartbeats 800000 in
theorem cPLink (h : PA w p sb pb nb L s) (h1 : 1 ≤ i) (h2 : i ≤ s.n) (hn : s.n ≤ 4096) (g0 : 0 ≤ g) (g1 : g ≤ 1099511627775) (g2 : g % 2 = 1) (hg : (s.slot i).gen = g) :
    Calls Tryz.prog 27 #[.pointer (some ⟨p, 0, none⟩), .pointer none, .int .i64 (hnd i g)] w fun e w' => e = .returned (.tuple #[.int .i64 (s.slot i).link, .int .i64 0]) ∧ w' = w := by
  have HM := cMeet h h1 h2 hn g0 g1 g2 hg
  have c6 := cell_at (h.life i h2) 6
  simp at c6
  go_enter Tryz.func27, Tryz.ntmps27
  go_wp2_with (first
    | (go_at_call 66; refine HM.mono ?_; rintro e w' ⟨rfl, hw⟩; obtain rfl := hw.symm)
    | (go_at_call 67; refine (cALoad c6).mono ?_; rintro e w' ⟨rfl, hw⟩; obtain rfl := hw.symm))
  go_ret2
  exact ⟨rfl, rfl⟩
set_option maxHeartbeats 800000 in
theorem cPMarkGone (h : PA w p sb pb nb L s) (h1 : 1 ≤ i) (h2 : i ≤ s.n) (hn : s.n ≤ 4096) (g0 : 0 ≤ g) (g1 : g ≤ 1099511627775) (g2 : g % 2 = 1) (hg : (s.slot i).gen ≠ g) (hf0 : 0 ≤ s.faults) (hf1 : s.faults ≤ 1000000) :
    Calls Tryz.prog 23 #[.pointer (some ⟨p, 0, none⟩), .pointer none, .int .i64 (hnd i g)] w fun e w' => e = .returned (.tuple #[.int .i64 0, .int .i64 104]) ∧ w' = w.setCell ⟨p, 2, none⟩ (.int .i64 (s.faults + 1)) := by
  have HM := cMeetGone h h1 h2 hn g0 g1 g2 hg hf0 hf1
  go_enter Tryz.func23, Tryz.ntmps23
  go_wp2_with (go_at_call 66; refine HM.mono ?_; rintro e w' ⟨rfl, rfl⟩)
  go_ret2
  exact ⟨rfl, rfl⟩
set_option maxHeartbeats 800000 in
theorem cPMarkBad {x : Int} (h : PA w p sb pb nb L s) (hb : idxV x < 1 ∨ s.n < idxV x ∨ tagV x % 2 = 0) :
    Calls Tryz.prog 23 #[.pointer (some ⟨p, 0, none⟩), .pointer none, .int .i64 x] w fun e w' => e = .returned (.tuple #[.int .i64 0, .int .i64 103]) ∧ w' = w := by
  have HM := cMeetBad h hb
  go_enter Tryz.func23, Tryz.ntmps23
  go_wp2_with (go_at_call 66; refine HM.mono ?_; rintro e w' ⟨rfl, hw⟩; obtain rfl := hw.symm)
  go_ret2
  exact ⟨rfl, rfl⟩
set_option maxHeartbeats 800000 in
theorem cPLinkGone (h : PA w p sb pb nb L s) (h1 : 1 ≤ i) (h2 : i ≤ s.n) (hn : s.n ≤ 4096) (g0 : 0 ≤ g) (g1 : g ≤ 1099511627775) (g2 : g % 2 = 1) (hg : (s.slot i).gen ≠ g) (hf0 : 0 ≤ s.faults) (hf1 : s.faults ≤ 1000000) :
    Calls Tryz.prog 27 #[.pointer (some ⟨p, 0, none⟩), .pointer none, .int .i64 (hnd i g)] w fun e w' => e = .returned (.tuple #[.int .i64 0, .int .i64 104]) ∧ w' = w.setCell ⟨p, 2, none⟩ (.int .i64 (s.faults + 1)) := by
  have HM := cMeetGone h h1 h2 hn g0 g1 g2 hg hf0 hf1
  go_enter Tryz.func27, Tryz.ntmps27
  go_wp2_with (go_at_call 66; refine HM.mono ?_; rintro e w' ⟨rfl, rfl⟩)
  go_ret2
  exact ⟨rfl, rfl⟩
set_option maxHeartbeats 800000 in
theorem cPLinkBad {x : Int} (h : PA w p sb pb nb L s) (hb : idxV x < 1 ∨ s.n < idxV x ∨ tagV x % 2 = 0) :
    Calls Tryz.prog 27 #[.pointer (some ⟨p, 0, none⟩), .pointer none, .int .i64 x] w fun e w' => e = .returned (.tuple #[.int .i64 0, .int .i64 103]) ∧ w' = w := by
  have HM := cMeetBad h hb
  go_enter Tryz.func27, Tryz.ntmps27
  go_wp2_with (go_at_call 66; refine HM.mono ?_; rintro e w' ⟨rfl, hw⟩; obtain rfl := hw.symm)
  go_ret2
  exact ⟨rfl, rfl⟩
set_option maxHeartbeats 800000 in
theorem cPCasMarkGone (h : PA w p sb pb nb L s) (h1 : 1 ≤ i) (h2 : i ≤ s.n) (hn : s.n ≤ 4096) (g0 : 0 ≤ g) (g1 : g ≤ 1099511627775) (g2 : g % 2 = 1) (hg : (s.slot i).gen ≠ g) (hf0 : 0 ≤ s.faults) (hf1 : s.faults ≤ 1000000) (old v : Int) :
    Calls Tryz.prog 25 #[.pointer (some ⟨p, 0, none⟩), .pointer none, .int .i64 (hnd i g), .int .i64 old, .int .i64 v] w fun e w' => e = .returned (.tuple #[.bool false, .int .i64 104]) ∧ w' = w.setCell ⟨p, 2, none⟩ (.int .i64 (s.faults + 1)) := by
  have HM := cMeetGone h h1 h2 hn g0 g1 g2 hg hf0 hf1
  go_enter Tryz.func25, Tryz.ntmps25
  go_wp2_with (go_at_call 66; refine HM.mono ?_; rintro e w' ⟨rfl, rfl⟩)
  go_ret2
  exact ⟨rfl, rfl⟩
set_option maxHeartbeats 800000 in
theorem cPCasMarkBad {x : Int} (h : PA w p sb pb nb L s) (hb : idxV x < 1 ∨ s.n < idxV x ∨ tagV x % 2 = 0) (old v : Int) :
    Calls Tryz.prog 25 #[.pointer (some ⟨p, 0, none⟩), .pointer none, .int .i64 x, .int .i64 old, .int .i64 v] w fun e w' => e = .returned (.tuple #[.bool false, .int .i64 103]) ∧ w' = w := by
  have HM := cMeetBad h hb
  go_enter Tryz.func25, Tryz.ntmps25
  go_wp2_with (go_at_call 66; refine HM.mono ?_; rintro e w' ⟨rfl, hw⟩; obtain rfl := hw.symm)
  go_ret2
  exact ⟨rfl, rfl⟩
set_option maxHeartbeats 800000 in
theorem cPSwapLinkGone (h : PA w p sb pb nb L s) (h1 : 1 ≤ i) (h2 : i ≤ s.n) (hn : s.n ≤ 4096) (g0 : 0 ≤ g) (g1 : g ≤ 1099511627775) (g2 : g % 2 = 1) (hg : (s.slot i).gen ≠ g) (hf0 : 0 ≤ s.faults) (hf1 : s.faults ≤ 1000000) (v : Int) :
    Calls Tryz.prog 29 #[.pointer (some ⟨p, 0, none⟩), .pointer none, .int .i64 (hnd i g), .int .i64 v] w fun e w' => e = .returned (.tuple #[.int .i64 0, .int .i64 104]) ∧ w' = w.setCell ⟨p, 2, none⟩ (.int .i64 (s.faults + 1)) := by
  have HM := cMeetGone h h1 h2 hn g0 g1 g2 hg hf0 hf1
  go_enter Tryz.func29, Tryz.ntmps29
  go_wp2_with (go_at_call 66; refine HM.mono ?_; rintro e w' ⟨rfl, rfl⟩)
  go_ret2
  exact ⟨rfl, rfl⟩
set_option maxHeartbeats 800000 in
theorem cPSwapLinkBad {x : Int} (h : PA w p sb pb nb L s) (hb : idxV x < 1 ∨ s.n < idxV x ∨ tagV x % 2 = 0) (v : Int) :
    Calls Tryz.prog 29 #[.pointer (some ⟨p, 0, none⟩), .pointer none, .int .i64 x, .int .i64 v] w fun e w' => e = .returned (.tuple #[.int .i64 0, .int .i64 103]) ∧ w' = w := by
  have HM := cMeetBad h hb
  go_enter Tryz.func29, Tryz.ntmps29
  go_wp2_with (go_at_call 66; refine HM.mono ?_; rintro e w' ⟨rfl, hw⟩; obtain rfl := hw.symm)
  go_ret2
  exact ⟨rfl, rfl⟩
set_option maxHeartbeats 800000 in
theorem cPGiveBad {x : Int} (h : PA w p sb pb nb L s) (hb : idxV x < 1 ∨ s.n < idxV x ∨ tagV x % 2 = 0) :
    Calls Tryz.prog 13 #[.pointer (some ⟨p, 0, none⟩), .pointer none, .int .i64 x] w fun e w' => e = .returned (.int .i64 103) ∧ w' = w := by
  have HS := cSlotBad h hb
  go_enter Tryz.func13, Tryz.ntmps13
  go_wp2_with (first
    | (go_at_call 62; refine HS.mono ?_; rintro e w' ⟨rfl, hw⟩; obtain rfl := hw.symm)
    | (go_at_call 61; refine (cStep _).mono ?_; rintro e w' ⟨rfl, hw⟩; obtain rfl := hw.symm))
  go_ret
  exact ⟨rfl, rfl⟩
/-- What is free, from the top. -/
def PSt.places (s : PSt) : List Nat := chain s.f (s.n + 1) (idxV s.h).toNat []
set_option maxHeartbeats 800000 in
theorem cPFreeG (h : PA w p sb pb nb L s) (ho : s.Ok) :
    Calls Tryz.prog 34 #[.pointer (some ⟨p, 0, none⟩)] w fun e w' => ∃ v, e = .returned v ∧ Turned [] w w' ∧ w'.ownsRow w.heap.size 3 1 v s.places.length (placesV s.places) := by
  have c1 := cell_at h.pool 1
  simp at c1
  have ht := ho.top
  have hp := idx_nat ho.h0
  obtain ⟨i0, hi0⟩ : ∃ i0 : Nat, idxV s.h = i0 := ⟨(idxV s.h).toNat, by omega⟩
  have HP := cPlaces h.pile ho.n2 ho.low hi0 (by omega)
  unfold PSt.places
  rw [hi0, Int.toNat_natCast]
  clear h
  go_enter Tryz.func34, Tryz.ntmps34
  go_wp2_with (first
    | (go_at_call 91; refine HP.mono ?_; rintro e w' ⟨v, rfl, hT, hR⟩; have HT : Hid _ := hT; have HR : Hid _ := hR; clear hT hR))
  go_ret
  exact ⟨v, rfl, HT.out, HR.out⟩
set_option maxHeartbeats 800000 in
theorem cPLook (h : PA w p sb pb nb L s) (ho : s.Ok) :
    Calls Tryz.prog 87 #[.pointer (some ⟨p, 0, none⟩), .pointer none] w fun e w' => ∃ v, e = .returned v ∧ Turned [] w w' ∧ w'.ownsRow w.heap.size 3 1 v s.places.length (placesV s.places) := by
  have c1 := cell_at h.pool 1
  simp at c1
  have ht := ho.top
  have hp := idx_nat ho.h0
  obtain ⟨i0, hi0⟩ : ∃ i0 : Nat, idxV s.h = i0 := ⟨(idxV s.h).toNat, by omega⟩
  have HP := cLook h.pile ho.n2 ho.low hi0 (by omega)
  unfold PSt.places
  rw [hi0, Int.toNat_natCast]
  clear h
  go_enter Tryz.func87, Tryz.ntmps87
  go_wp2_with (first
    | (go_at_call 126; refine HP.mono ?_; rintro e w' ⟨v, rfl, hT, hR⟩; have HT : Hid _ := hT; have HR : Hid _ := hR; clear hT hR))
  go_ret
  exact ⟨v, rfl, HT.out, HR.out⟩
end
end Go.Proofs.YtaalohcldoakoaaGreatDoor
