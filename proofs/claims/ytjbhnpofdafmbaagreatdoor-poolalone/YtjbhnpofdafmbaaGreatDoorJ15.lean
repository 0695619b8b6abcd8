/- A frame, spelled out. -/
import Derived.Test.YtjbhnpofdafmbaaGreatDoorJ13
import Derived.Test.YtjbhnpofdafmbaaGreatDoorJ14
namespace Go.Proofs.YtjbhnpofdafmbaaGreatDoor
open Go.RowKit
def lit69 (c : Nat → Value) : Array Value := #[c 0, c 1, c 2, c 3, c 4, c 5, c 6, c 7, c 8, c 9, c 10, c 11, c 12, c 13, c 14, c 15, c 16, c 17, c 18, c 19, c 20, c 21, c 22, c 23, c 24, c 25, c 26, c 27, c 28, c 29, c 30, c 31, c 32, c 33, c 34, c 35, c 36, c 37, c 38, c 39, c 40, c 41, c 42, c 43, c 44, c 45, c 46, c 47, c 48, c 49, c 50, c 51, c 52, c 53, c 54, c 55, c 56, c 57, c 58, c 59, c 60, c 61, c 62, c 63, c 64, c 65, c 66, c 67, c 68]
set_option maxRecDepth 100000 in
theorem lit69_eq (c : Nat → Value) : lit69 c = ((List.range 69).map c).toArray := by rfl
theorem expand69 {a : Act} (hs : a.tmps.size = 69) (hd : a.defers = []) : ∃ c : Nat → Value, a = ⟨lit69 c, []⟩ ∧ ∀ s, c s = a.eval (.tmp s) := by
  refine ⟨fun s => a.tmps.getD s undef, ?_, fun s => rfl⟩
  obtain ⟨t, d⟩ := a
  simp only at hs hd
  subst hd
  congr 1
  rw [lit69_eq]
  refine Array.ext (by simp [hs]) fun i h1 h2 => ?_
  simp [Array.getD, h1]
end Go.Proofs.YtjbhnpofdafmbaaGreatDoor
/- What stands in the midst of the book's marking. -/
namespace Go.Proofs.YtjbhnpofdafmbaaGreatDoor
open Go.RowKit
/-- Of what was there the blocks of one kind, and the book, alone may have turned. -/
structure KFr (κ : Nat) (bb : Nat) (C : Own) (w : World) (C' : Own) (w' : World) : Prop where
  os : w'.os = w.os
  tape : w'.tape = w.tape
  output : w'.output = w.output
  size : w.heap.size ≤ w'.heap.size
  blk : ∀ g, g < w.heap.size → g ≠ bb → (∀ t, C g ≠ some (κ, t)) → w'.heap[g]? = w.heap[g]? ∧ C' g = C g
  dom : ∀ g, g < w.heap.size → (∃ t, C g = some (κ, t)) → ∃ t, C' g = some (κ, t)
section
variable {κ bb : Nat} {C C' C2 : Own} {w w' w2 : World} {S : Nat × Tg → Prop}
theorem KFr.refl (κ bb : Nat) (C : Own) (w : World) : KFr κ bb C w C w := ⟨rfl, rfl, rfl, Nat.le_refl _, fun _ _ _ _ => ⟨rfl, rfl⟩, fun _ _ h => h⟩
theorem KFr.trans (h : KFr κ bb C w C' w') (k : KFr κ bb C' w' C2 w2) : KFr κ bb C w C2 w2 :=
  ⟨k.os.trans h.os, k.tape.trans h.tape, k.output.trans h.output, Nat.le_trans h.size k.size,
   fun g hg hb hS => by
    obtain ⟨h1, h2⟩ := h.blk g hg hb hS
    obtain ⟨k1, k2⟩ := k.blk g (Nat.lt_of_lt_of_le hg h.size) hb (fun t ht => hS t (by rw [← h2]; exact ht))
    exact ⟨k1.trans h1, k2.trans h2⟩,
   fun g hg ht => k.dom g (Nat.lt_of_lt_of_le hg h.size) (h.dom g hg ht)⟩
theorem KFr.of (h : Stp S bb C w C' w') (hS : ∀ x, S x → x.1 = κ) : KFr κ bb C w C' w' :=
  ⟨h.os, h.tape, h.output, h.size, fun g hg hb ht => ⟨h.blk g hg hb (fun x hx hs => ht x.2 (by rw [hx, ← hS x hs])), h.own g hg⟩, fun g hg ⟨t, ht⟩ => ⟨t, (h.own g hg).trans ht⟩⟩
end
open Classical in
/-- The old slices are no longer the book's. -/
noncomputable def retag (κ : Nat) (C : Own) : Own := fun g => match C g with
  | some (k, t) => if k = κ ∧ (t = .tW ∨ t = .tN ∨ t = .tM ∨ t = .tD) then some (κ, .old) else some (k, t)
  | none => none
theorem retag_old {κ : Nat} {C : Own} {t : Tg} {v : Value} (h : Has C κ t v) (ht : t = .tW ∨ t = .tN ∨ t = .tM ∨ t = .tD) : Has (retag κ C) κ .old v := fun g hg => by
  unfold retag
  rw [h g hg]
  simp [ht]
theorem retag_has {κ k : Nat} {C : Own} {t : Tg} {v : Value} (h : Has C k t v) (ht : ¬ (k = κ ∧ (t = .tW ∨ t = .tN ∨ t = .tM ∨ t = .tD))) : Has (retag κ C) k t v := fun g hg => by
  unfold retag
  rw [h g hg]
  simp only [if_neg ht]
theorem retag_none {κ : Nat} {C : Own} {g : Nat} : retag κ C g = none ↔ C g = none := by
  unfold retag
  cases h : C g with
  | none => simp
  | some x =>
    obtain ⟨k, t⟩ := x
    simp only
    split <;> simp
theorem retag_other {κ : Nat} {C : Own} {g : Nat} (h : ∀ t, C g ≠ some (κ, t)) : retag κ C g = C g := by
  unfold retag
  cases hc : C g with
  | none => rfl
  | some x =>
    obtain ⟨k, t⟩ := x
    simp only
    rw [if_neg]
    intro hk
    exact h t (by rw [hc, hk.1])
theorem retag_same {κ : Nat} {C : Own} {g : Nat} (h : ∃ t, C g = some (κ, t)) : ∃ t, retag κ C g = some (κ, t) := by
  obtain ⟨t, ht⟩ := h
  unfold retag
  rw [ht]
  simp only
  split
  · exact ⟨.old, rfl⟩
  · exact ⟨t, rfl⟩
theorem KRows.retag {C : Own} {w : World} {kc : KC} {ot : List Ot} {wn : List Wt} {fr : List Fh} {κ : Nat} (h : KRows C w kc ot wn fr) : KRows (retag κ C) w kc ot wn fr := by
  refine ⟨fun q hq => ?_, fun q hq => ?_, fun q hq => ?_, h.ids, h.link⟩
  · obtain ⟨h1, h2, h3, h4, h5, h6⟩ := h.pO q hq
    exact ⟨h1, h2, h3, retag_has h4 (by simp), retag_has h5 (by simp), h6⟩
  · obtain ⟨h1, h2, h3, h4, h5, h6⟩ := h.pW q hq
    exact ⟨h1, h2, h3, retag_has h4 (by simp), retag_has h5 (by simp), h6⟩
  · obtain ⟨h1, h2, h3, h4⟩ := h.pF q hq
    exact ⟨h1, h2, retag_has h3 (by simp), h4⟩
structure MarkAt (kc : KC) (bb : Nat) (C0 : Own) (w0 : World) (f0 : Nat → Value) (ot : List Ot) (wn : List Wt) (Wv Nv Mv Dv : Value) (j : Nat) (w : World) : Prop where
  ex : ∃ C f ot' kept fr, Fit C w bb ∧ BK w bb f ∧
    KOut C w kc f ((ot ++ ot').map (·.o)) ((ot ++ ot').map (·.c)) (kept.map (·.l)) (kept.map (·.c)) (fr.map (·.l)) ((kept.map (·.mark)).map vi) ((kept.map (·.due)).map vi) ((fr.map (·.mark)).map vi) ∧
    KRows C w kc (ot ++ ot') (kept ++ wn.drop j) fr ∧
    RowAt C w kc.κ .old kc.ls Wv (wn.map (·.l)) ∧ RowAt C w kc.κ .old kc.ls Nv (wn.map (·.c)) ∧ RowAt C w kc.κ .old 3 Mv ((wn.map (·.mark)).map vi) ∧ RowAt C w kc.κ .old 3 Dv ((wn.map (·.due)).map vi) ∧
    KFr kc.κ bb C0 w0 C w ∧ (∀ i, i < kc.b ∨ kc.b + 8 ≤ i → f i = f0 i) ∧ kept.length + fr.length = j ∧ ot'.length = fr.length
section
variable {bb : Nat} {C C' : Own} {w w' : World} {kc : KC} {ot : List Ot} {A R : List Wt} {fr : List Fh} {q : Wt}
theorem ids_of (h : ((A ++ q :: R).map (·.id) ++ fr.map (·.id)).Nodup) : (∀ x ∈ A ++ R, x.id ≠ q.id) ∧ (∀ x ∈ fr, x.id ≠ q.id) ∧ ((A ++ R).map (·.id) ++ (fr.map (·.id) ++ [q.id])).Nodup := by
  have hp : ((A ++ q :: R).map (·.id) ++ fr.map (·.id)).Perm (q.id :: ((A ++ R).map (·.id) ++ fr.map (·.id))) := by
    simp only [List.map_append, List.map_cons]
    have h1 : (A.map (·.id) ++ q.id :: R.map (·.id)).Perm (q.id :: (A.map (·.id) ++ R.map (·.id))) := List.perm_middle
    exact (h1.append_right _)
  have hn := hp.nodup_iff.1 h
  rw [List.nodup_cons] at hn
  refine ⟨fun x hx e => hn.1 ?_, fun x hx e => hn.1 ?_, ?_⟩
  · rw [← e]
    exact List.mem_append_left _ (List.mem_map.2 ⟨x, hx, rfl⟩)
  · rw [← e]
    exact List.mem_append_right _ (List.mem_map.2 ⟨x, hx, rfl⟩)
  · have hp2 : ((A ++ R).map (·.id) ++ (fr.map (·.id) ++ [q.id])).Perm (q.id :: ((A ++ R).map (·.id) ++ fr.map (·.id))) := by
      rw [← List.append_assoc]
      exact List.perm_append_singleton _ _
    exact hp2.nodup_iff.2 (List.nodup_cons.2 hn)
/-- The list that is due is written: the others are as they were. -/
theorem KRows.marked (h : KRows C w kc ot (A ++ q :: R) fr) (hF : Fit C w bb) (k : Stp (fun x => x = (kc.κ, .lst q.id)) bb C w C' w') : KRows C' w' kc ot (A ++ R) fr := by
  obtain ⟨i1, i2, i3⟩ := ids_of h.ids
  refine ⟨fun x hx => ?_, fun x hx => ?_, fun x hx => ?_, ?_, h.link⟩
  · obtain ⟨h1, h2, h3, h4, h5, h6⟩ := h.pO x hx
    have hne := h6 q (by simp)
    refine ⟨k.row hF h1 h4 (by simp) (by simp; exact fun e => hne e.symm), k.row hF h2 h5 (by simp) (by simp), h3, k.has hF h4, k.has hF h5, fun y hy => h6 y ?_⟩
    rcases List.mem_append.1 hy with h | h
    · simp [h]
    · simp [h]
  · have hx' : x ∈ A ++ q :: R := by
      rcases List.mem_append.1 hx with h | h
      · simp [h]
      · simp [h]
    obtain ⟨h1, h2, h3, h4, h5, h6⟩ := h.pW x hx'
    exact ⟨k.row hF h1 h4 (by simp) (by simp; exact i1 x hx), k.row hF h2 h5 (by simp) (by simp), h3, k.has hF h4, k.has hF h5, h6⟩
  · obtain ⟨h1, h2, h3, h4⟩ := h.pF x hx
    exact ⟨k.row hF h1 h3 (by simp) (by simp; exact i2 x hx), h2, k.has hF h3, h4⟩
  · rw [← List.append_assoc] at i3
    exact (List.nodup_append.1 i3).1
/-- It is among those that were handed out, and fresh. -/
theorem KRows.moved {zs : List Int} {nt : Value} (hot : ∀ x ∈ ot, x.id ≠ q.id) (h0 : ((A ++ q :: R).map (·.id) ++ fr.map (·.id)).Nodup) (h : KRows C w kc ot (A ++ R) fr) (hl : IRow w kc.e kc.sz q.l q.n zs) (hc : IRow w kc.e kc.sz nt q.n zs) (hn : q.n ≤ 4500) (hhl : Has C kc.κ (.lst q.id) q.l) (hhc : Has C kc.κ .kept nt) (hm : small q.mark) :
    KRows C w kc (ot ++ [⟨q.l, nt, q.n, zs, q.id⟩]) (A ++ R) (fr ++ [⟨q.l, q.n, zs, q.mark, q.id⟩]) := by
  obtain ⟨i1, i2, i3⟩ := ids_of h0
  refine ⟨fun x hx => ?_, h.pW, fun x hx => ?_, by simpa using i3, fun x hx y hy e => ?_⟩
  · rcases List.mem_append.1 hx with hx | hx
    · exact h.pO x hx
    · simp at hx
      subst hx
      exact ⟨hl, hc, by show q.n ≤ 5000; omega, hhl, hhc, i1⟩
  · rcases List.mem_append.1 hx with hx | hx
    · exact h.pF x hx
    · simp at hx
      subst hx
      exact ⟨hl, hn, hhl, hm⟩
  · rcases List.mem_append.1 hx with hx | hx
    · rcases List.mem_append.1 hy with hy | hy
      · exact h.link x hx y hy e
      · simp at hy
        subst hy
        exact absurd e.symm (hot x hx)
    · simp at hx
      subst hx
      rcases List.mem_append.1 hy with hy | hy
      · exact absurd e (i2 y hy)
      · simp at hy
        subst hy
        exact ⟨rfl, rfl, rfl⟩
end
end Go.Proofs.YtjbhnpofdafmbaaGreatDoor
/- What stands in the midst of the book's laying on. -/
namespace Go.Proofs.YtjbhnpofdafmbaaGreatDoor
open Go.RowKit
/-- A list l of n that is laid on: by now it is v of m, in l's memory or in new one; l itself is as it was. -/
structure Laid (e : TypeId) (sz : Nat) (w0 : World) (l : Value) (n : Nat) (zs : List Int) (v : Value) (m : Nat) (w : World) : Prop where
  turned : Turned l.ownBlock.toList w0 w
  old : IRow w e sz l n zs
  new : ∃ ext, IRow w e sz v m (zs ++ ext)
  le : n ≤ m
  kin : (∃ g cap, l = .slice (some ⟨g, 0, none⟩) n cap ∧ v = .slice (some ⟨g, 0, none⟩) m cap) ∨ (v = l ∧ m = n) ∨ ∃ g', v.ownBlock = some g' ∧ w0.heap.size ≤ g'
section
variable {e : TypeId} {sz : Nat} {w0 w w1 w2 : World} {l v v' : Value} {n m : Nat} {zs : List Int}
theorem Laid.start (h : IRow w0 e sz l n zs) : Laid e sz w0 l n zs l n w0 := ⟨Turned.refl _ _, h, ⟨[], by simpa using h⟩, Nat.le_refl _, .inr (.inl ⟨rfl, rfl⟩)⟩
theorem Laid.more (h : Laid e sz w0 l n zs v m w) (h0 : IRow w0 e sz l n zs) (h1 : Turned [] w w1) (ho : Onto w1 w2 v v' m 1) {ext new : List Int} (_hx : IRow w e sz v m (zs ++ ext)) (hr : IRow w2 e sz v' (m + 1) (zs ++ ext ++ new)) : Laid e sz w0 l n zs v' (m + 1) w2 := by
  have hl1 : IRow w1 e sz l n zs := Row.keep h.old h1 (by simp)
  have hlb : ∀ g, l.ownBlock = some g → g < w0.heap.size := fun g hg => (h0.lt g hg).2
  have hs1 := h.turned.size
  have hs2 := h1.size
  have hle := h.le
  have ht1 : Turned l.ownBlock.toList w0 w1 := h.turned.trans (h1.mono (by simp))
  have hpre : ∀ g cap, l = .slice (some ⟨g, 0, none⟩) n cap → v' = .slice (some ⟨g, 0, none⟩) (m + 1) cap → IRow w2 e sz l n zs := fun g cap e1 e2 => by
    subst e1
    subst e2
    have h3 : w2.ownsRow 0 e sz (.slice (some ⟨g, 0, none⟩) (m + 1) cap) (m + 1) (zs.map vi ++ (ext ++ new).map vi) := by
      have := hr
      unfold IRow at this
      rw [List.append_assoc, List.map_append] at this
      exact this
    exact Row.prefix_ h3 (by omega) h0.1
  rcases ho with ⟨g, cap, e1, e2, ht⟩ | ⟨ht, g', hg', hge, -⟩
  · rcases h.kin with ⟨g1, cap1, f1, f2⟩ | ⟨f1, f2⟩ | ⟨g1, f1, f2⟩
    · rw [e1] at f2
      simp only [Value.slice.injEq, Option.some.injEq, Addr.mk.injEq, and_true, true_and] at f2
      obtain ⟨rfl, rfl⟩ := f2
      exact ⟨ht1.trans (ht.mono (by simp [f1, Value.ownBlock])), hpre g cap f1 e2, ⟨ext ++ new, by rw [← List.append_assoc]; exact hr⟩, by omega, .inl ⟨g, cap, f1, e2⟩⟩
    · subst f2
      have f3 : l = .slice (some ⟨g, 0, none⟩) m cap := f1 ▸ e1
      exact ⟨ht1.trans (ht.mono (by simp [f3, Value.ownBlock])), hpre g cap f3 e2, ⟨ext ++ new, by rw [← List.append_assoc]; exact hr⟩, by omega, .inl ⟨g, cap, f3, e2⟩⟩
    · rw [e1] at f1
      simp only [Value.ownBlock, Option.some.injEq] at f1
      subst f1
      refine ⟨ht1.inner ht (by intro x hx; simp at hx; exact .inr (by omega)), Row.keep hl1 ht (fun x hx => by have := hlb x hx; simp; omega), ⟨ext ++ new, by rw [← List.append_assoc]; exact hr⟩, by omega, .inr (.inr ⟨g, by rw [e2]; rfl, f2⟩)⟩
  · exact ⟨ht1.trans (ht.mono (by simp)), Row.keep hl1 ht (by simp), ⟨ext ++ new, by rw [← List.append_assoc]; exact hr⟩, by omega, .inr (.inr ⟨g', hg', by omega⟩)⟩
end
section
variable {bb : Nat} {C : Own} {w w' : World} {kc : KC} {ot : List Ot} {wn : List Wt} {q : Fh} {rest : List Fh}
theorem ids_fresh (h : (wn.map (·.id) ++ (q :: rest).map (·.id)).Nodup) : (∀ x ∈ wn, x.id ≠ q.id) ∧ (∀ x ∈ rest, x.id ≠ q.id) ∧ (wn.map (·.id) ++ rest.map (·.id)).Nodup := by
  rw [List.nodup_append] at h
  obtain ⟨h1, h2, h3⟩ := h
  rw [List.map_cons, List.nodup_cons] at h2
  refine ⟨fun x hx e => h3 x.id (List.mem_map.2 ⟨x, hx, rfl⟩) q.id (by simp) e, fun x hx e => h2.1 (List.mem_map.2 ⟨x, hx, e⟩), ?_⟩
  rw [List.nodup_append]
  exact ⟨h1, h2.2, fun a ha b hb => h3 a ha b (by rw [List.map_cons]; exact List.mem_cons_of_mem _ hb)⟩
/-- A list is laid on: what else there is stays. -/
theorem KRows.laid (h : KRows C w kc ot wn (q :: rest)) (hF : Fit C w bb) (ht : Turned q.l.ownBlock.toList w w') (hl : IRow w' kc.e kc.sz q.l q.n q.zs) : KRows C w' kc ot wn rest := by
  obtain ⟨i1, i2, i3⟩ := ids_fresh h.ids
  obtain ⟨q1, q2, q3, q4⟩ := h.pF q (by simp)
  have hS : Stp (fun x => x = (kc.κ, .lst q.id)) bb C w C w' := Stp.of ht (fun x hx => .inr (.inr ⟨_, q3 x (by simpa using hx), rfl⟩))
  refine ⟨fun x hx => ?_, fun x hx => ?_, fun x hx => ?_, i3, fun x hx y hy e => h.link x hx y (by simp [hy]) e⟩
  · obtain ⟨h1, h2, h3, h4, h5, h6⟩ := h.pO x hx
    refine ⟨?_, hS.row hF h2 h5 (by simp) (by simp), h3, h4, h5, h6⟩
    by_cases e : q.id = x.id
    · obtain ⟨e1, e2, e3⟩ := h.link x hx q (by simp) e
      rw [e1, e2, e3]
      exact hl
    · exact hS.row hF h1 h4 (by simp) (by simp; exact fun e' => e e'.symm)
  · obtain ⟨h1, h2, h3, h4, h5, h6⟩ := h.pW x hx
    exact ⟨hS.row hF h1 h4 (by simp) (by simp; exact i1 x hx), hS.row hF h2 h5 (by simp) (by simp), h3, h4, h5, h6⟩
  · obtain ⟨h1, h2, h3, h4⟩ := h.pF x (by simp [hx])
    exact ⟨hS.row hF h1 h3 (by simp) (by simp; exact i2 x hx), h2, h3, h4⟩
/-- One more that is handed out. -/
theorem KRows.add {z : Ot} (h : KRows C w kc ot wn rest) (hz : IRow w kc.e kc.sz z.o z.n z.zs ∧ IRow w kc.e kc.sz z.c z.n z.zs ∧ z.n ≤ 5000 ∧ Has C kc.κ (.lst z.id) z.o ∧ Has C kc.κ .kept z.c ∧ ∀ x ∈ wn, x.id ≠ z.id) (hr : ∀ x ∈ rest, x.id ≠ z.id) : KRows C w kc (ot ++ [z]) wn rest := by
  refine ⟨fun x hx => ?_, h.pW, h.pF, h.ids, fun x hx y hy e => ?_⟩
  · rcases List.mem_append.1 hx with hx | hx
    · exact h.pO x hx
    · simp at hx
      subst hx
      exact hz
  · rcases List.mem_append.1 hx with hx | hx
    · exact h.link x hx y hy e
    · simp at hx
      subst hx
      exact absurd e (hr y hy)
end
theorem KRows.recol {C C' : Own} {w : World} {kc : KC} {ot : List Ot} {wn : List Wt} {fr : List Fh} (h : KRows C w kc ot wn fr) (hc : ∀ t v, Has C kc.κ t v → Has C' kc.κ t v) : KRows C' w kc ot wn fr := by
  refine ⟨fun q hq => ?_, fun q hq => ?_, fun q hq => ?_, h.ids, h.link⟩
  · obtain ⟨h1, h2, h3, h4, h5, h6⟩ := h.pO q hq
    exact ⟨h1, h2, h3, hc _ _ h4, hc _ _ h5, h6⟩
  · obtain ⟨h1, h2, h3, h4, h5, h6⟩ := h.pW q hq
    exact ⟨h1, h2, h3, hc _ _ h4, hc _ _ h5, h6⟩
  · obtain ⟨h1, h2, h3, h4⟩ := h.pF q hq
    exact ⟨h1, h2, hc _ _ h3, h4⟩
/-- The laid list's block is owned too. -/
theorem own_laid {bb κ id e sz n m : Nat} {C : Own} {w w' : World} {l v : Value} {zs : List Int} (hF : Fit C w bb) (hl : Has C κ (.lst id) l) (hL : Laid e sz w l n zs v m w') :
    Fit (take1 C κ (.lst id) v w.heap.size) w' bb ∧ Stp (fun x => x = (κ, .lst id)) bb C w (take1 C κ (.lst id) v w.heap.size) w' ∧ Has (take1 C κ (.lst id) v w.heap.size) κ (.lst id) v := by
  have hS : Stp (fun x => x = (κ, .lst id)) bb C w C w' := Stp.of hL.turned (fun x hx => .inr (.inr ⟨_, hl x (by simpa using hx), rfl⟩))
  have hbl := hF.dom bb (by rw [hF.bk]; simp)
  obtain ⟨ext, hv⟩ := hL.new
  refine ⟨⟨fun g hg => ?_, (take1_low hbl).trans hF.bk⟩, ⟨hS.os, hS.tape, hS.output, hS.size, hS.blk, fun g hg => take1_low hg⟩, take1_has fun g hg => ?_⟩
  · unfold take1 at hg
    by_cases hc : v.ownBlock = some g ∧ w.heap.size ≤ g
    · exact (hv.lt g hc.1).2
    · rw [if_neg hc] at hg
      exact Nat.lt_of_lt_of_le (hF.dom g hg) hL.turned.size
  · rcases hL.kin with ⟨g1, cap1, f1, f2⟩ | ⟨f1, -⟩ | ⟨g1, f1, f2⟩
    · rw [f2] at hg
      exact .inr (hl g (by rw [f1]; exact hg))
    · exact .inr (hl g (by rw [← f1]; exact hg))
    · rw [hg] at f1
      injection f1 with f1
      exact .inl (by omega)
structure GrowAt (kc : KC) (bb : Nat) (C0 : Own) (w0 : World) (f0 : Nat → Value) (ot : List Ot) (wn : List Wt) (fr : List Fh) (k : Nat) (w : World) : Prop where
  ex : ∃ C f gr, Fit C w bb ∧ BK w bb f ∧
    KOut C w kc f ((ot ++ gr).map (·.o)) ((ot ++ gr).map (·.c)) (wn.map (·.l)) (wn.map (·.c)) (fr.map (·.l)) ((wn.map (·.mark)).map vi) ((wn.map (·.due)).map vi) ((fr.map (·.mark)).map vi) ∧
    KRows C w kc (ot ++ gr) wn (fr.drop k) ∧ KFr kc.κ bb C0 w0 C w ∧ (∀ i, i < kc.b ∨ kc.b + 8 ≤ i → f i = f0 i) ∧ gr.length = k
end Go.Proofs.YtjbhnpofdafmbaaGreatDoor
/- More operations, run. -/
namespace Go.Proofs.YtjbhnpofdafmbaaGreatDoor
open Go.RowKit
theorem not_low2 {D : List (Option Nat)} {s n c : Nat} (hs : s < n) (hc : s ≠ c) (h : D.all (fun d => match d with | none => true | some x => decide (n ≤ x) || x == c) = true) : some s ∉ D := fun hm => by
  have := List.all_eq_true.1 h _ hm
  simp at this
  omega
theorem two_guards {ops : Array Oper} {g0 g1 : Nat} {b0 b1 : Bool} (h : ops.all (fun o => o.guard == none || o.guard == some (g0, b0) || o.guard == some (g1, b1)) = true) {i g : Nat} {b : Bool} (hh : (ops[i]?).bind (fun o : Oper => o.guard) = some (g, b)) : (g = g0 ∧ b = b0) ∨ (g = g1 ∧ b = b1) := by
  obtain ⟨o, ho, hg⟩ := Option.bind_eq_some_iff.1 hh
  rw [Array.all_eq_true] at h
  obtain ⟨hi, e⟩ := Array.getElem?_eq_some_iff.1 ho
  have := h i hi
  rw [e, hg] at this
  simpa using this
section
variable {ρ : Operand → Value} {o : Oper} {w : World}
theorem x_len {x : Operand} {t e : TypeId} {a : Option Addr} {n c : Nat} (ht : Tryz.prog.underlying t = some (.slice e)) (h : o.op = .call { callee := .builtin .len, args := #[x], argTypes := #[t] }) (hx : ρ x = .slice a n c) : (execOp ρ o).run Tryz.prog w = .ok (.value (vi (n : Nat))) w := by
  simp [execOp, h, resolve, invoke, builtin, hx, Builtin.len_, run_underlying ht, goInt, vi]
theorem x_lss {x y : Operand} {t : TypeId} {a b : Int} (h : o.op = .binOp .lss 3 x y t) (hx : ρ x = vi a) (hy : ρ y = vi b) : (execOp ρ o).run Tryz.prog w = .ok (.value (.bool (decide (a < b)))) w := by
  simp [execOp, h, hx, hy, eqGuard, binOp, Op.intCmp]
theorem x_gtr {x y : Operand} {t : TypeId} {a b : Int} (h : o.op = .binOp .gtr 3 x y t) (hx : ρ x = vi a) (hy : ρ y = vi b) : (execOp ρ o).run Tryz.prog w = .ok (.value (.bool (decide (b < a)))) w := by
  simp [execOp, h, hx, hy, eqGuard, binOp, Op.intCmp]
theorem x_mulc {x y : Operand} {t : TypeId} {a b : Int} (h : o.op = .binOp .mul 3 x y t) (hx : ρ x = vi a) (hy : ρ y = vi b) (h0 : -9000000000000000000 ≤ a * b) (h1 : a * b ≤ 9000000000000000000) : (execOp ρ o).run Tryz.prog w = .ok (.value (vi (a * b))) w := by
  have hw : IntKind.i64.wrap (a * b) = a * b := by simp [IntKind.wrap, IntKind.bits, IntKind.signed]; omega
  simp [execOp, h, hx, hy, eqGuard, binOp, Op.intArith, hw]
theorem x_build1 {t : TypeId} {ps : Array (Nat × Operand)} {qs : Array (Nat × Value)} {v : Value} (h : o.op = .build t ps) (hq : ps.map (fun (i, x) => (i, ρ x)) = qs) (hr : (Instr.build t qs).run Tryz.prog w = .ok v w) : (execOp ρ o).run Tryz.prog w = .ok (.value v) w := by
  subst hq
  simp [execOp, h, hr, Result.andThen]
theorem x_not {x : Operand} {t : TypeId} {b : Bool} (h : o.op = .unOp .not t x) (hx : ρ x = .bool b) : (execOp ρ o).run Tryz.prog w = .ok (.value (.bool !b)) w := by
  simp [execOp, h, hx, Op.unary]
theorem x_pick {x y z : Operand} {b : Bool} (h : o.op = .pick x y z) (hx : ρ x = .bool b) : (execOp ρ o).run Tryz.prog w = .ok (.value (if b then ρ y else ρ z)) w := by
  simp [execOp, h, hx, asBool]
end
theorem ld_bool {w : World} {bb i : Nat} {z : Bool} (h : w.cell? ⟨bb, i, none⟩ = some (.bool z)) : (Instr.loadAt 4 (pv bb i)).run Tryz.prog w = .ok (.bool z) w := by
  unfold pv
  go_simp
theorem st_bool {w : World} {bb i : Nat} {z : Bool} {u : Value} (h : w.cell? ⟨bb, i, none⟩ = some u) (hz : w.frozen? ⟨bb, i, none⟩ = false) : (Instr.storeAt 4 (pv bb i) (.bool z)).run Tryz.prog w = .ok () (w.setCell ⟨bb, i, none⟩ (.bool z)) := by
  unfold pv
  go_simp
end Go.Proofs.YtjbhnpofdafmbaaGreatDoor
/- The book's laying on (kind Ints). -/
namespace Go.Proofs.YtjbhnpofdafmbaaGreatDoor
open Go.RowKit
set_option maxRecDepth 100000 in
set_option maxHeartbeats 1600000 in
theorem growInts_r0 {K : Act → World → Prop} {Q : Exit → Act → World → Prop} {a : Act} {w : World}  (hs : a.tmps.size = 69) (hd : a.defers = [])  
    (hEnd : ∀ a', a'.tmps.size = a.tmps.size → a'.defers = a.defers → (∀ s : Nat, s < 6 → s ≠ 2 → a'.eval (.tmp s) = a.eval (.tmp s)) → a'.eval (.tmp 2) = .int .i64 ((0 : Nat) : Int) → K a' w) :
    (Code.region 0 (opsOf 0 Tryz.f150.body) false).wp Tryz.prog (Exit.then K Q) a w := by
  obtain ⟨cc, rfl, hcc⟩ := expand69 hs hd
  have HE : Hid _ := hEnd
  clear hEnd hcc hs hd 
  conv => arg 2; whnf
  unfold lit69 at *
  skip
  go_wp2
  show K _ _
  refine HE.out _ rfl rfl (fun s hs hc => ?_) (by first | (rfl) | simp [Act.eval, Array.getD])
  match s, hs, hc with
  | 0, _, _ => rfl
  | 1, _, _ => rfl
  | 2, _, h => exact absurd rfl h
  | 3, _, _ => rfl
  | 4, _, _ => rfl
  | 5, _, _ => rfl
  | n + 6, hs, _ => exact absurd hs (by simp)
set_option maxRecDepth 100000 in
set_option maxHeartbeats 1600000 in
theorem growInts_r1 {K : Act → World → Prop} {Q : Exit → Act → World → Prop} {a : Act} {w : World} {bb k m c : Nat} {ra : Option Addr} (hs : a.tmps.size = 69) (hd : a.defers = []) (x0 : a.eval (.tmp 0) = .pointer (some ⟨bb, 0, none⟩)) (x2 : a.eval (.tmp 2) = .int .i64 (k : Nat)) (hc : w.cell? ⟨bb, 8, none⟩ = some (.slice ra m c))
    (hEnd : ∀ a', a'.tmps.size = a.tmps.size → a'.defers = a.defers → (∀ s : Nat, s < 6 → a'.eval (.tmp s) = a.eval (.tmp s)) → a'.eval (.tmp 12) = .bool (decide ((k : Int) < (m : Int))) → K a' w) :
    (Code.region 1 (opsOf 1 Tryz.f150.body) false).wp Tryz.prog (Exit.then K Q) a w := by
  obtain ⟨cc, rfl, hcc⟩ := expand69 hs hd
  have y0 : cc 0 = .pointer (some ⟨bb, 0, none⟩) := (hcc 0).trans x0
  have y2 : cc 2 = .int .i64 (k : Nat) := (hcc 2).trans x2
  have HE : Hid _ := hEnd
  clear hEnd hcc hs hd x0 x2
  conv => arg 2; whnf
  unfold lit69 at *
  simp only [y0, y2] at *
  go_wp2
  show K _ _
  refine HE.out _ rfl rfl (fun s hs => ?_) (by first | (rfl) | simp [Act.eval, Array.getD])
  match s, hs with
  | 0, _ => rfl
  | 1, _ => rfl
  | 2, _ => rfl
  | 3, _ => rfl
  | 4, _ => rfl
  | 5, _ => rfl
  | n + 6, hs => exact absurd hs (by simp)
set_option maxRecDepth 100000 in
set_option maxHeartbeats 1600000 in
theorem growInts_r3 {K : Act → World → Prop} {Q : Exit → Act → World → Prop} {a : Act} {w : World} {bb k m c g : Nat} {z : Int} (hs : a.tmps.size = 69) (hd : a.defers = []) (x0 : a.eval (.tmp 0) = .pointer (some ⟨bb, 0, none⟩)) (x2 : a.eval (.tmp 2) = .int .i64 (k : Nat)) (hc : w.cell? ⟨bb, 11, none⟩ = some (.slice (some ⟨g, 0, none⟩) m c)) (hcell : w.cell? ⟨g, k, none⟩ = some (.int .i64 z)) (hlt : (k : Int) < (m : Int))
    (hEnd : ∀ a', a'.tmps.size = a.tmps.size → a'.defers = a.defers → (∀ s : Nat, s < 6 → s ≠ 3 → a'.eval (.tmp s) = a.eval (.tmp s)) → a'.eval (.tmp 3) = .int .i64 z → K a' w) :
    (Code.region 3 (opsOf 3 Tryz.f150.body) false).wp Tryz.prog (Exit.then K Q) a w := by
  obtain ⟨cc, rfl, hcc⟩ := expand69 hs hd
  have y0 : cc 0 = .pointer (some ⟨bb, 0, none⟩) := (hcc 0).trans x0
  have y2 : cc 2 = .int .i64 (k : Nat) := (hcc 2).trans x2
  have HE : Hid _ := hEnd
  clear hEnd hcc hs hd x0 x2
  conv => arg 2; whnf
  unfold lit69 at *
  simp only [y0, y2] at *
  go_wp2
  show K _ _
  refine HE.out _ rfl rfl (fun s hs hc => ?_) (by first | (rfl) | simp [Act.eval, Array.getD])
  match s, hs, hc with
  | 0, _, _ => rfl
  | 1, _, _ => rfl
  | 2, _, _ => rfl
  | 3, _, h => exact absurd rfl h
  | 4, _, _ => rfl
  | 5, _, _ => rfl
  | n + 6, hs, _ => exact absurd hs (by simp)
set_option maxRecDepth 100000 in
set_option maxHeartbeats 1600000 in
theorem growInts_r4 {K : Act → World → Prop} {Q : Exit → Act → World → Prop} {a : Act} {w : World} {bb k m c g yn yc : Nat} {ya : Option Addr} (hs : a.tmps.size = 69) (hd : a.defers = []) (x0 : a.eval (.tmp 0) = .pointer (some ⟨bb, 0, none⟩)) (x2 : a.eval (.tmp 2) = .int .i64 (k : Nat)) (hc : w.cell? ⟨bb, 8, none⟩ = some (.slice (some ⟨g, 0, none⟩) m c)) (hcell : w.cell? ⟨g, k, none⟩ = some (.slice ya yn yc)) (hlt : (k : Int) < (m : Int))
    (hEnd : ∀ a', a'.tmps.size = a.tmps.size → a'.defers = a.defers → (∀ s : Nat, s < 6 → s ≠ 4 → a'.eval (.tmp s) = a.eval (.tmp s)) → a'.eval (.tmp 4) = .slice ya yn yc → K a' w) :
    (Code.region 4 (opsOf 4 Tryz.f150.body) false).wp Tryz.prog (Exit.then K Q) a w := by
  obtain ⟨cc, rfl, hcc⟩ := expand69 hs hd
  have y0 : cc 0 = .pointer (some ⟨bb, 0, none⟩) := (hcc 0).trans x0
  have y2 : cc 2 = .int .i64 (k : Nat) := (hcc 2).trans x2
  have HE : Hid _ := hEnd
  clear hEnd hcc hs hd x0 x2
  conv => arg 2; whnf
  unfold lit69 at *
  simp only [y0, y2] at *
  go_wp2
  show K _ _
  refine HE.out _ rfl rfl (fun s hs hc => ?_) (by first | (rfl) | simp [Act.eval, Array.getD])
  match s, hs, hc with
  | 0, _, _ => rfl
  | 1, _, _ => rfl
  | 2, _, _ => rfl
  | 3, _, _ => rfl
  | 4, _, h => exact absurd rfl h
  | 5, _, _ => rfl
  | n + 6, hs, _ => exact absurd hs (by simp)
set_option maxRecDepth 100000 in
set_option maxHeartbeats 1600000 in
theorem growInts_r5 {K : Act → World → Prop} {Q : Exit → Act → World → Prop} {a : Act} {w : World}  (hs : a.tmps.size = 69) (hd : a.defers = [])  
    (hEnd : ∀ a', a'.tmps.size = a.tmps.size → a'.defers = a.defers → (∀ s : Nat, s < 6 → s ≠ 5 → a'.eval (.tmp s) = a.eval (.tmp s)) → a'.eval (.tmp 5) = .int .i64 ((0 : Nat) : Int) → K a' w) :
    (Code.region 5 (opsOf 5 Tryz.f150.body) false).wp Tryz.prog (Exit.then K Q) a w := by
  obtain ⟨cc, rfl, hcc⟩ := expand69 hs hd
  have HE : Hid _ := hEnd
  clear hEnd hcc hs hd 
  conv => arg 2; whnf
  unfold lit69 at *
  skip
  go_wp2
  show K _ _
  refine HE.out _ rfl rfl (fun s hs hc => ?_) (by first | (rfl) | simp [Act.eval, Array.getD])
  match s, hs, hc with
  | 0, _, _ => rfl
  | 1, _, _ => rfl
  | 2, _, _ => rfl
  | 3, _, _ => rfl
  | 4, _, _ => rfl
  | 5, _, h => exact absurd rfl h
  | n + 6, hs, _ => exact absurd hs (by simp)
set_option maxRecDepth 100000 in
set_option maxHeartbeats 1600000 in
theorem growInts_r6 {K : Act → World → Prop} {Q : Exit → Act → World → Prop} {a : Act} {w : World} {i : Nat} (hs : a.tmps.size = 69) (hd : a.defers = []) (x5 : a.eval (.tmp 5) = .int .i64 (i : Nat)) 
    (hEnd : ∀ a', a'.tmps.size = a.tmps.size → a'.defers = a.defers → (∀ s : Nat, s < 6 → a'.eval (.tmp s) = a.eval (.tmp s)) → a'.eval (.tmp 30) = .bool (decide ((i : Int) < 30)) → K a' w) :
    (Code.region 6 (opsOf 6 Tryz.f150.body) false).wp Tryz.prog (Exit.then K Q) a w := by
  obtain ⟨cc, rfl, hcc⟩ := expand69 hs hd
  have y5 : cc 5 = .int .i64 (i : Nat) := (hcc 5).trans x5
  have HE : Hid _ := hEnd
  clear hEnd hcc hs hd x5
  conv => arg 2; whnf
  unfold lit69 at *
  simp only [y5] at *
  go_wp2
  show K _ _
  refine HE.out _ rfl rfl (fun s hs => ?_) (by first | (rfl) | simp [Act.eval, Array.getD])
  match s, hs with
  | 0, _ => rfl
  | 1, _ => rfl
  | 2, _ => rfl
  | 3, _ => rfl
  | 4, _ => rfl
  | 5, _ => rfl
  | n + 6, hs => exact absurd hs (by simp)
set_option maxRecDepth 100000 in
set_option maxHeartbeats 1600000 in
theorem growInts_r7 {K : Act → World → Prop} {Q : Exit → Act → World → Prop} {a : Act} {w : World} {i : Nat} (hs : a.tmps.size = 69) (hd : a.defers = []) (x5 : a.eval (.tmp 5) = .int .i64 (i : Nat)) (hi : i ≤ 1000000)
    (hEnd : ∀ a', a'.tmps.size = a.tmps.size → a'.defers = a.defers → (∀ s : Nat, s < 6 → s ≠ 5 → a'.eval (.tmp s) = a.eval (.tmp s)) → a'.eval (.tmp 5) = .int .i64 ((i + 1 : Nat) : Int) → K a' w) :
    (Code.region 7 (opsOf 7 Tryz.f150.body) false).wp Tryz.prog (Exit.then K Q) a w := by
  obtain ⟨cc, rfl, hcc⟩ := expand69 hs hd
  have y5 : cc 5 = .int .i64 (i : Nat) := (hcc 5).trans x5
  have HE : Hid _ := hEnd
  clear hEnd hcc hs hd x5
  conv => arg 2; whnf
  unfold lit69 at *
  simp only [y5] at *
  go_wp2
  show K _ _
  refine HE.out _ rfl rfl (fun s hs hc => ?_) (by first | (show Value.int .i64 ((i : Int) + 1) = .int .i64 ((i + 1 : Nat) : Int); simp) | simp [Act.eval, Array.getD])
  match s, hs, hc with
  | 0, _, _ => rfl
  | 1, _, _ => rfl
  | 2, _, _ => rfl
  | 3, _, _ => rfl
  | 4, _, _ => rfl
  | 5, _, h => exact absurd rfl h
  | n + 6, hs, _ => exact absurd hs (by simp)
set_option maxRecDepth 100000 in
set_option maxHeartbeats 1600000 in
theorem growInts_r2 {K : Act → World → Prop} {Q : Exit → Act → World → Prop} {a : Act} {w : World} {k : Nat} (hs : a.tmps.size = 69) (hd : a.defers = []) (x2 : a.eval (.tmp 2) = .int .i64 (k : Nat)) (hk : k ≤ 1000000)
    (hEnd : ∀ a', a'.tmps.size = a.tmps.size → a'.defers = a.defers → (∀ s : Nat, s < 6 → s ≠ 2 → a'.eval (.tmp s) = a.eval (.tmp s)) → a'.eval (.tmp 2) = .int .i64 ((k + 1 : Nat) : Int) → K a' w) :
    (Code.region 2 (opsOf 2 Tryz.f150.body) false).wp Tryz.prog (Exit.then K Q) a w := by
  obtain ⟨cc, rfl, hcc⟩ := expand69 hs hd
  have y2 : cc 2 = .int .i64 (k : Nat) := (hcc 2).trans x2
  have HE : Hid _ := hEnd
  clear hEnd hcc hs hd x2
  conv => arg 2; whnf
  unfold lit69 at *
  simp only [y2] at *
  go_wp2
  show K _ _
  refine HE.out _ rfl rfl (fun s hs hc => ?_) (by first | (show Value.int .i64 ((k : Int) + 1) = .int .i64 ((k + 1 : Nat) : Int); simp) | simp [Act.eval, Array.getD])
  match s, hs, hc with
  | 0, _, _ => rfl
  | 1, _, _ => rfl
  | 2, _, h => exact absurd rfl h
  | 3, _, _ => rfl
  | 4, _, _ => rfl
  | 5, _, _ => rfl
  | n + 6, hs, _ => exact absurd hs (by simp)
theorem Ints_bsn (w : World) (z : Int) : (Instr.buildSlice 29 1 #[(0, vi z)]).run Tryz.prog w = .ok (.slice (some ⟨w.heap.size, 0, none⟩) 1 1) (w.alloc (.cells #[vi z] 3)) := by
  go_simp
set_option maxRecDepth 100000 in
set_option maxHeartbeats 1600000 in
theorem growInts_r8 {K : Act → World → Prop} {Q : Exit → Act → World → Prop} {a : Act} {w : World} {m i : Nat} {v : Value} {mark : Int} {zs : List Int} (hs : a.tmps.size = 69) (x3 : a.eval (.tmp 3) = vi mark) (x4 : a.eval (.tmp 4) = v) (x5 : a.eval (.tmp 5) = vi (i : Nat)) (hmk : small mark) (hi : i < 30) (hm : m ≤ 10000) (hv : IRow w 3 1 v m zs)
    (hEnd : ∀ a' w1 w2 v', a'.tmps.size = a.tmps.size → a'.defers = a.defers → (∀ s : Nat, s < 6 → s ≠ 4 → a'.eval (.tmp s) = a.eval (.tmp s)) → a'.eval (.tmp 4) = v' → Turned [] w w1 → Onto w1 w2 v v' m 1 → IRow w2 3 1 v' (m + 1) (zs ++ [mark + 6 + 5 * (i : Int)]) → K a' w2) :
    (Code.region 8 (opsOf 8 Tryz.f150.body) false).wp Tryz.prog (Exit.then K Q) a w := by
  have hm0 := hmk.1
  have hm1 := hmk.2
  obtain ⟨inf, hinf, hzz⟩ := Option.map_eq_some_iff.1 Ints_info
  simp only [Prod.mk.injEq] at hzz
  obtain ⟨hz, hs1, hb⟩ := hzz
  obtain ⟨v', w2, hr, hrow, honto⟩ := run_onto (P := Tryz.prog) (w := (w.alloc (.cells #[vi (mark + 6 + 5 * (i : Int))] 3))) 0 29 29 3 inf (.int .i64 0) 1 8 Ints_und hinf hz hs1 hb rfl (by first | decide | nofun) v m (zs.map vi) (hv.alloc _) ⟨w.heap.size, 0, none⟩ 1 1 [vi (mark + 6 + 5 * (i : Int))] rfl (by
    intro jj u hu
    have hb := blk_new w (.cells #[vi (mark + 6 + 5 * (i : Int))] 3)
    have hadd : (⟨w.heap.size, 0, none⟩ : Addr).add jj = ⟨w.heap.size, jj, none⟩ := by unfold Addr.add; split <;> simp_all
    rw [hadd, cell_at hb jj]
    simpa using hu) (by intro u hu; simp at hu; rcases hu with rfl <;> rfl) (by first | decide | nofun) (by unfold maxLen; omega) (by omega) (Nat.zero_le _)
  have hrow' : IRow w2 3 1 v' (m + 1) (zs ++ [mark + 6 + 5 * (i : Int)]) := by
    unfold IRow
    rw [List.map_append]
    exact hrow
  refine wp_region_line [some 33, some 34, some 35, some 36, some 37, some 38, some 39, some 40, some 4] (fun kk => match kk with
      | 0 => v
      | 1 => vi mark
      | 2 => vi (mark + 6)
      | 3 => vi (i : Nat)
      | 4 => vi (5 * (i : Int))
      | 5 => vi (mark + 6 + 5 * (i : Int))
      | 6 => Value.slice (some ⟨w.heap.size, 0, none⟩) 1 1
      | 7 => v'
      | 8 => v'
      | _ => undef) (by rw [hs]; kernel_rfl) [6, 7] (fun jj => match jj with
      | 0 => w
      | 1 => (w.alloc (.cells #[vi (mark + 6 + 5 * (i : Int))] 3))
      | _ => w2) rfl (by first | decide | nofun) (by decide +kernel) ?_ ?_ ?_
  · intro kk gg bq h
    exact (no_guard (by kernel_rfl) h).elim
  · intro kk hk _ o ac wa wb K ho hd _ hoff hv hL hK
    rcases (by simp at hk; omega : kk = 0 ∨ kk = 1 ∨ kk = 2 ∨ kk = 3 ∨ kk = 4 ∨ kk = 5 ∨ kk = 6 ∨ kk = 7 ∨ kk = 8) with rfl | rfl | rfl | rfl | rfl | rfl | rfl | rfl | rfl
    · obtain ⟨rfl, jw, hjw, rfl, hjR⟩ := hL.off (by first | decide | nofun)
      exact l_val hd ((x_move (op_is rfl ho)).trans (by rw [(hoff 4 (by first | decide | nofun)).trans x4]; rfl)) hK
    · obtain ⟨rfl, jw, hjw, rfl, hjR⟩ := hL.off (by first | decide | nofun)
      exact l_val hd ((x_move (op_is rfl ho)).trans (by rw [(hoff 3 (by first | decide | nofun)).trans x3]; rfl)) hK
    · obtain ⟨rfl, jw, hjw, rfl, hjR⟩ := hL.off (by first | decide | nofun)
      exact l_val hd (x_addc (op_is rfl ho) (hv 1 34 rfl (by kernel_rfl)) rfl (by omega) (by omega)) hK
    · obtain ⟨rfl, jw, hjw, rfl, hjR⟩ := hL.off (by first | decide | nofun)
      exact l_val hd ((x_move (op_is rfl ho)).trans (by rw [(hoff 5 (by first | decide | nofun)).trans x5]; rfl)) hK
    · obtain ⟨rfl, jw, hjw, rfl, hjR⟩ := hL.off (by first | decide | nofun)
      exact l_val hd (x_mulc (op_is rfl ho) rfl (hv 3 36 rfl (by kernel_rfl)) (by omega) (by omega)) hK
    · obtain ⟨rfl, jw, hjw, rfl, hjR⟩ := hL.off (by first | decide | nofun)
      exact l_val hd (x_addc (op_is rfl ho) (hv 2 35 rfl (by kernel_rfl)) (hv 4 37 rfl (by kernel_rfl)) (by omega) (by omega)) hK
    · obtain ⟨rfl, rfl⟩ := hL.at_ (by first | decide | nofun) (j := 0) rfl
      exact l_val hd (x_bslice (op_is rfl ho) (by simp only [List.map_toArray, List.map_cons, List.map_nil, hv 5 38 rfl (by kernel_rfl)]) (Ints_bsn _ _)) hK
    · obtain ⟨rfl, rfl⟩ := hL.at_ (by first | decide | nofun) (j := 1) rfl
      exact l_val hd (x_append (op_is rfl ho) (ty_is rfl ho) (hv 0 33 rfl (by kernel_rfl)) (hv 6 39 rfl (by kernel_rfl)) hr) hK
    · obtain ⟨rfl, jw, hjw, rfl, hjR⟩ := hL.off (by first | decide | nofun)
      exact l_val hd ((x_assign (op_is rfl ho)).trans (by rw [hv 7 40 rfl (by kernel_rfl)]; rfl)) hK
  · intro a1 g1 g2 g3 g4
    exact hEnd a1 _ w2 v' g1 g2 (fun s hs' h4 => ev_same (g3 s (not_low2 hs' h4 (by first | decide | nofun)))) (g4 8 4 rfl) ((Turned.refl [] w).alloc _) honto hrow'
end Go.Proofs.YtjbhnpofdafmbaaGreatDoor
/- The book's grow (kind Ints): what was written full is laid on. -/
namespace Go.Proofs.YtjbhnpofdafmbaaGreatDoor
open Go.RowKit
/-- Thirty are laid on. -/
theorem growInts_inner {K : Act → World → Prop} {Q : Exit → Act → World → Prop} {a : Act} {w : World} {l : Value} {n : Nat} {mark : Int} {zs : List Int} (hs : a.tmps.size = 69) (hd : a.defers = []) (x3 : a.eval (.tmp 3) = vi mark) (x4 : a.eval (.tmp 4) = l) (hmk : small mark) (hn : n ≤ 4500) (hl : IRow w 3 1 l n zs)
    (hEnd : ∀ a' w' v, a'.tmps.size = a.tmps.size → a'.defers = a.defers → (∀ s : Nat, s < 4 → a'.eval (.tmp s) = a.eval (.tmp s)) → a'.eval (.tmp 4) = v → Laid 3 1 w l n zs v (n + 30) w' → K a' w') :
    ((Code.region 5 (opsOf 5 Tryz.f150.body) false).seq (Code.block 2 (Code.loop (((Code.region 6 (opsOf 6 Tryz.f150.body) false).seq (Code.cond (.tmp 30) .skip (.exit 2))).seq ((Code.block 3 (Code.region 8 (opsOf 8 Tryz.f150.body) false)).seq (Code.region 7 (opsOf 7 Tryz.f150.body) false)))))).wp Tryz.prog (Exit.then K Q) a w := by
  refine wp_seq ?_
  refine growInts_r5 hs hd ?_
  intro a1 s1 d1 k1 e5
  refine wp_block ?_
  refine wp_loop (fun a' w' => ∃ (i : Nat) (v : Value), i ≤ 30 ∧ a'.tmps.size = 69 ∧ a'.defers = [] ∧ (∀ s : Nat, s < 4 → a'.eval (.tmp s) = a.eval (.tmp s)) ∧ a'.eval (.tmp 4) = v ∧ a'.eval (.tmp 5) = .int .i64 (i : Nat) ∧ Laid 3 1 w l n zs v (n + i) w') (fun a' _ => 30 - (intOf (a'.eval (.tmp 5))).toNat) ?_ ?_
  · exact ⟨0, l, by omega, s1.trans hs, d1.trans hd, fun s h => k1 s (by omega) (by omega), (k1 4 (by omega) (by omega)).trans x4, e5, Laid.start hl⟩
  · rintro a2 w2 ⟨i, v, hi, hs2, hd2, hk2, x42, x52, hL⟩
    refine wp_seq ?_
    refine wp_seq ?_
    refine growInts_r6 hs2 hd2 x52 ?_
    intro a3 s3 d3 k3 e3
    by_cases hlt : i < 30
    · refine wp_cond_true (e3.trans (by simp; omega)) ?_
      refine wp_skip ?_
      obtain ⟨ext, hx⟩ := hL.new
      refine wp_seq ?_
      refine wp_block ?_
      refine wp_fall ?_
      refine growInts_r8 (s3.trans hs2) ((k3 3 (by omega)).trans ((hk2 3 (by omega)).trans x3)) ((k3 4 (by omega)).trans x42) ((k3 5 (by omega)).trans x52) hmk hlt (by omega) hx ?_
      intro a4 w3 w4 v4 s4 d4 k4 e4 ht ho hr
      show (Code.region 7 (opsOf 7 Tryz.f150.body) false).wp _ _ _ _
      refine growInts_r7 (i := i) (s4.trans (s3.trans hs2)) (d4.trans (d3.trans hd2)) ((k4 5 (by omega) (by omega)).trans ((k3 5 (by omega)).trans x52)) (by omega) ?_
      intro a5 s5 d5 k5 e5'
      refine ⟨⟨i + 1, v4, by omega, s5.trans (s4.trans (s3.trans hs2)), d5.trans (d4.trans (d3.trans hd2)), fun s h => (k5 s (by omega) (by omega)).trans ((k4 s (by omega) (by omega)).trans ((k3 s (by omega)).trans (hk2 s h))), (k5 4 (by omega) (by omega)).trans e4, e5', hL.more hl ht ho hx hr⟩, ?_⟩
      rw [e5', x52]
      simp [intOf]
      omega
    · have : i = 30 := by omega
      subst this
      refine wp_cond_false (e3.trans (by simp)) ?_
      refine wp_exit ?_
      exact hEnd a3 w2 v (s3.trans (hs2.trans hs.symm)) (d3.trans (hd2.trans hd.symm)) (fun s h => (k3 s (by omega)).trans (hk2 s h)) ((k3 4 (by omega)).trans x42) hL
set_option maxHeartbeats 1600000 in
set_option maxRecDepth 100000 in
/-- One round. -/
theorem growInts_round {Q : Exit → Act → World → Prop} {a : Act} {w w0 : World} {bb : Nat} {C0 : Own} {f0 : Nat → Value} {ot : List Ot} {wn : List Wt} {fr : List Fh} {k : Nat} (hs : a.tmps.size = 69) (hd : a.defers = []) (x0 : a.eval (.tmp 0) = pv bb 0) (x2 : a.eval (.tmp 2) = vi (k : Nat))
    (hk : k ≤ fr.length) (hfl : fr.length ≤ 100000) (hol : ot.length ≤ 100000) (HG : GrowAt kcInts bb C0 w0 f0 ot wn fr k w)
    (hGo : k < fr.length → ∀ a' w', a'.tmps.size = 69 → a'.defers = [] → a'.eval (.tmp 0) = pv bb 0 → a'.eval (.tmp 2) = vi ((k + 1 : Nat) : Int) → GrowAt kcInts bb C0 w0 f0 ot wn fr (k + 1) w' → Q .normal a' w')
    (hEnd : k = fr.length → ∀ a', a'.tmps.size = 69 → a'.defers = [] → a'.eval (.tmp 0) = pv bb 0 → Q (.exit 0) a' w) :
    (((Code.region 1 (opsOf 1 Tryz.f150.body) false).seq (Code.cond (.tmp 12) .skip (.exit 0))).seq ((Code.block 1 ((Code.region 3 (opsOf 3 Tryz.f150.body) false).seq ((Code.region 4 (opsOf 4 Tryz.f150.body) false).seq (((Code.region 5 (opsOf 5 Tryz.f150.body) false).seq (Code.block 2 (Code.loop (((Code.region 6 (opsOf 6 Tryz.f150.body) false).seq (Code.cond (.tmp 30) .skip (.exit 2))).seq ((Code.block 3 (Code.region 8 (opsOf 8 Tryz.f150.body) false)).seq (Code.region 7 (opsOf 7 Tryz.f150.body) false)))))).seq ((Code.region 9 (opsOf 9 Tryz.f150.body) false).seq (Code.region 10 (opsOf 10 Tryz.f150.body) true)))))).seq (Code.region 2 (opsOf 2 Tryz.f150.body) false))).wp Tryz.prog Q a w := by
  obtain ⟨C, f, gr, hF, hB, hO, hR, hT, hf, hgl⟩ := HG.ex
  obtain ⟨aF, cF, eF⟩ := Row.shape hO.rF.1
  obtain ⟨aR, cR, eR⟩ := Row.shape hO.rR.1
  simp only [List.length_map] at eF eR
  have q4 := hB.cell (i := 8) (by omega)
  have q7 := hB.cell (i := 11) (by omega)
  rw [show f 8 = _ from eF] at q4
  rw [show f 11 = _ from eR] at q7
  refine wp_seq ?_
  refine wp_seq ?_
  refine growInts_r1 hs hd x0 x2 q4 ?_
  intro a1 s1 d1 k1 e1
  by_cases hlt : k < fr.length
  · refine wp_cond_true (e1.trans (by simp; omega)) ?_
    refine wp_skip ?_
    obtain ⟨q, hq⟩ : ∃ q, fr[k]? = some q := ⟨fr[k], List.getElem?_eq_getElem hlt⟩
    obtain ⟨hkl, hqe⟩ := List.getElem?_eq_some_iff.1 hq
    have hdrop : fr.drop k = q :: fr.drop (k + 1) := by rw [← hqe]; exact List.drop_eq_getElem_cons hkl
    rw [hdrop] at hR
    obtain ⟨p1, p2, p3, p4⟩ := hR.pF q (by simp)
    obtain ⟨i1, i2, i3⟩ := ids_fresh hR.ids
    obtain ⟨gF, cF', cuF, eF', -, -⟩ := Row.form hO.rF.1 (by simp; omega)
    obtain ⟨gR, cR', cuR, eR', -, -⟩ := Row.form hO.rR.1 (by simp; omega)
    have cellF : w.cell? ⟨gF, k, none⟩ = some q.l := by
      have h1 := hO.rF.1
      rw [eF'] at h1
      rw [World.ownsRow.cellAt (by simpa using h1) k (by simp; omega)]
      simp [hq]
    have cellR : w.cell? ⟨gR, k, none⟩ = some (.int .i64 q.mark) := by
      have h1 := hO.rR.1
      rw [eR'] at h1
      rw [World.ownsRow.cellAt (by simpa using h1) k (by simp; omega)]
      simp [hq]
    have q4' := hB.cell (i := 8) (by omega)
    have q7' := hB.cell (i := 11) (by omega)
    rw [show f 8 = _ from eF'] at q4'
    rw [show f 11 = _ from eR'] at q7'
    simp only [List.length_map] at q4' q7'
    obtain ⟨la, lc, el⟩ := Row.shape p1
    rw [el] at cellF
    have hki : (k : Int) < (fr.length : Int) := by omega
    refine wp_seq ?_
    refine wp_block ?_
    refine wp_seq ?_
    refine growInts_r3 (s1.trans hs) (d1.trans hd) ((k1 0 (by omega)).trans x0) ((k1 2 (by omega)).trans x2) q7' cellR hki ?_
    intro a2 s2 d2 k2 e2
    refine wp_seq ?_
    refine growInts_r4 (s2.trans (s1.trans hs)) (d2.trans (d1.trans hd)) ((k2 0 (by omega) (by omega)).trans ((k1 0 (by omega)).trans x0)) ((k2 2 (by omega) (by omega)).trans ((k1 2 (by omega)).trans x2)) q4' cellF hki ?_
    intro a3 s3 d3 k3 e3
    have ss : a3.tmps.size = 69 := s3.trans (s2.trans (s1.trans hs))
    have dd : a3.defers = [] := d3.trans (d2.trans (d1.trans hd))
    have kk : ∀ s : Nat, s < 3 → a3.eval (.tmp s) = a.eval (.tmp s) := fun s h => (k3 s (by omega) (by omega)).trans ((k2 s (by omega) (by omega)).trans (k1 s (by omega)))
    refine wp_seq ?_
    refine growInts_inner (l := q.l) ss dd ((k3 3 (by omega) (by omega)).trans e2) (e3.trans el.symm) p4 p2 p1 ?_
    intro a4 w4 v s4 d4 k4 e4 hL
    obtain ⟨hF4, hS4, hhv4⟩ := own_laid hF p3 hL
    have hB4 : BK w4 bb f := hB.keep hL.turned (by
      intro hx
      have := p3 bb (by simpa using hx)
      rw [hF.bk] at this
      injection this with this
      injection this with _ this
      cases this)
    have hO4 := hO.step (f' := f) hF hS4 (fun tg => by cases tg <;> simp) (fun _ _ => rfl)
    have hR4 := (hR.laid hF hL.turned hL.old).recol (fun t v h => hS4.has hF h)
    obtain ⟨ext, hv4⟩ := hL.new
    generalize take1 C 1 (.lst q.id) v w.heap.size = C4 at *
    refine wp_seq ?_
    refine growInts_r9 (s4.trans ss) ((k4 0 (by omega)).trans ((kk 0 (by omega)).trans x0)) e4 (Row.slice hv4) hF4 hB4 hO4 (by simp; omega) ?_
    intro a5 w5 C5 v5 s5 d5 k5 hF5 hS5 hB5 hO5
    have hR5 := hR4.step hF4 hS5 (by simp) (by simp)
    have hv5 := hS5.row hF4 hv4 hhv4 (by simp) (by simp)
    have hhv5 := hS5.has hF4 hhv4
    refine wp_fall ?_
    refine growInts_r10 (s5.trans (s4.trans ss)) ((k5 0 (by omega)).trans ((k4 0 (by omega)).trans ((kk 0 (by omega)).trans x0))) ((k5 4 (by omega)).trans e4) hv5 (by omega) hF5 hB5 hO5 (by simp; omega) ?_
    intro a6 w6 C6 v6 nt s6 d6 k6 hF6 hS6 hB6 hO6 hnt6 hnk6
    have hR6 := hR5.step hF5 hS6 (by simp) (by simp)
    have hv6 := hS6.row hF5 hv5 hhv5 (by simp) (by simp)
    have hhv6 := hS6.has hF5 hhv5
    have hR7 := hR6.add (z := ⟨v, nt, q.n + 30, q.zs ++ ext, q.id⟩) ⟨hv6, hnt6, by show q.n + 30 ≤ 5000; omega, hhv6, hnk6, i1⟩ i2
    have fT : ∀ {t : Tg} (x : Nat × Tg), x = (1, t) → x.1 = 1 := fun x h => by rw [h]
    have HG7 : GrowAt kcInts bb C0 w0 f0 ot wn fr (k + 1) w6 := by
      refine ⟨C6, _, gr ++ [⟨v, nt, q.n + 30, q.zs ++ ext, q.id⟩], hF6, hB6, by simpa using hO6, by simpa using hR7, ((hT.trans (KFr.of hS4 fT)).trans (KFr.of hS5 fT)).trans (KFr.of hS6 fT), ?_, by simp [hgl]⟩
      intro i hi
      have hi' : i < 4 ∨ 12 ≤ i := hi
      rw [upd_other _ _ (by omega), upd_other _ _ (by omega)]
      exact hf i hi'
    show (Code.region 2 (opsOf 2 Tryz.f150.body) false).wp _ _ _ _
    refine wp_fall ?_
    refine growInts_r2 (k := k) (s6.trans (s5.trans (s4.trans ss))) (d6.trans (d5.trans (d4.trans dd))) ((k6 2 (by omega)).trans ((k5 2 (by omega)).trans ((k4 2 (by omega)).trans ((kk 2 (by omega)).trans x2)))) (by omega) ?_
    intro a8 s8 d8 k8 e8
    exact hGo hlt a8 w6 (s8.trans (s6.trans (s5.trans (s4.trans ss)))) (d8.trans (d6.trans (d5.trans (d4.trans dd)))) ((k8 0 (by omega) (by omega)).trans ((k6 0 (by omega)).trans ((k5 0 (by omega)).trans ((k4 0 (by omega)).trans ((kk 0 (by omega)).trans x0))))) e8 HG7
  · refine wp_cond_false (e1.trans (by simp; omega)) ?_
    refine wp_exit ?_
    exact hEnd (by omega) a1 (s1.trans hs) (d1.trans hd) ((k1 0 (by omega)).trans x0)
/-- What laying on leaves. -/
structure GrownInts (w : World) (bb : Nat) (C : Own) (f : Nat → Value) (ot : List Ot) (wn : List Wt) (fr : List Fh) (w' : World) : Prop where
  ex : ∃ C' f' gr, Fit C' w' bb ∧ BK w' bb f' ∧ FullInts C' w' f' (ot ++ gr) wn [] ∧ KFr 1 bb C w C' w' ∧ (∀ i, i < 4 ∨ 12 ≤ i → f' i = f i) ∧ gr.length = fr.length
set_option maxHeartbeats 1600000 in
set_option maxRecDepth 100000 in
theorem cGrowInts {w : World} {bb : Nat} {C : Own} {f : Nat → Value} {ot : List Ot} {wn : List Wt} {fr : List Fh} (hF : Fit C w bb) (hB : BK w bb f) (hK : FullInts C w f ot wn fr) (hfl : fr.length ≤ 100000) (hol : ot.length ≤ 100000) :
    Calls Tryz.prog 150 #[.pointer (some ⟨bb, 0, none⟩)] w fun e w' => e = .returned (.tuple #[]) ∧ GrownInts w bb C f ot wn fr w' := by
  obtain ⟨hO, hR⟩ := hK
  have HG0 : GrowAt kcInts bb C w f ot wn fr 0 w := ⟨C, f, [], hF, hB, by simpa using hO, by simpa using hR, KFr.refl _ _ _ _, fun _ _ => rfl, rfl⟩
  go_enter Tryz.func150, Tryz.ntmps150
  generalize hact : (Act.mk _ _) = a0
  have s0 : a0.tmps.size = 69 := by rw [← hact]; rfl
  have d0 : a0.defers = [] := by rw [← hact]
  have y0 : a0.eval (.tmp 0) = pv bb 0 := by rw [← hact]; rfl
  clear hact
  refine wp_seq_k fun K hK => ?_
  have HKK : Hid _ := hK
  clear hK
  refine wp_seq ?_
  refine (show (Code.region 0 (opsOf 0 Tryz.f150.body) false).wp Tryz.prog _ a0 w from ?_)
  refine wp_fall ?_
  refine growInts_r0 s0 d0 ?_
  intro a1 s1 d1 k1 e2
  refine wp_block ?_
  refine (show (Code.loop (((Code.region 1 (opsOf 1 Tryz.f150.body) false).seq (Code.cond (.tmp 12) .skip (.exit 0))).seq ((Code.block 1 ((Code.region 3 (opsOf 3 Tryz.f150.body) false).seq ((Code.region 4 (opsOf 4 Tryz.f150.body) false).seq (((Code.region 5 (opsOf 5 Tryz.f150.body) false).seq (Code.block 2 (Code.loop (((Code.region 6 (opsOf 6 Tryz.f150.body) false).seq (Code.cond (.tmp 30) .skip (.exit 2))).seq ((Code.block 3 (Code.region 8 (opsOf 8 Tryz.f150.body) false)).seq (Code.region 7 (opsOf 7 Tryz.f150.body) false)))))).seq ((Code.region 9 (opsOf 9 Tryz.f150.body) false).seq (Code.region 10 (opsOf 10 Tryz.f150.body) true)))))).seq (Code.region 2 (opsOf 2 Tryz.f150.body) false)))).wp Tryz.prog _ a1 w from ?_)
  refine wp_loop (fun a' w' => ∃ k : Nat, k ≤ fr.length ∧ a'.tmps.size = 69 ∧ a'.defers = [] ∧ a'.eval (.tmp 0) = pv bb 0 ∧ a'.eval (.tmp 2) = vi (k : Nat) ∧ GrowAt kcInts bb C w f ot wn fr k w') (fun a' _ => fr.length - (intOf (a'.eval (.tmp 2))).toNat) ⟨0, Nat.zero_le _, s1.trans s0, d1.trans d0, (k1 0 (by omega) (by omega)).trans y0, e2, HG0⟩ ?_
  rintro a2 w2 ⟨k, hk, s2, d2, x0, x2, hG⟩
  refine growInts_round s2 d2 x0 x2 hk hfl hol hG ?_ ?_
  · intro hlt a3 w3 s3 d3 x03 x23 hG3
    refine ⟨⟨k + 1, by omega, s3, d3, x03, x23, hG3⟩, ?_⟩
    rw [x23, x2]
    simp [intOf]
    omega
  · intro hke a3 s3 d3 x03
    subst hke
    show K a3 w2
    refine HKK.out a3 w2 ?_
    obtain ⟨C2, f2, gr, hF2, hB2, hO2, hR2, hT2, hf2, hgl⟩ := hG.ex
    have c4 := hB2.cell (i := 8) (by omega)
    have c7 := hB2.cell (i := 11) (by omega)
    have z2 := hB2.froz
    have hB5 := (hB2.put (i := 8) (by omega) (.slice none 0 0)).put (i := 11) (by omega) (.slice none 0 0)
    have hS : Turned [bb] w2 ((w2.setCell ⟨bb, 8, none⟩ (.slice none 0 0)).setCell ⟨bb, 11, none⟩ (.slice none 0 0)) := ((Turned.refl [bb] w2).set (.inl (by simp)) _ _).set (.inl (by simp)) _ _
    have hSt : Stp (fun _ => False) bb C2 w2 C2 ((w2.setCell ⟨bb, 8, none⟩ (.slice none 0 0)).setCell ⟨bb, 11, none⟩ (.slice none 0 0)) := Stp.of hS (by intro x hx; exact .inl (by simpa using hx))
    have hFin : GrownInts w bb C f ot wn fr ((w2.setCell ⟨bb, 8, none⟩ (.slice none 0 0)).setCell ⟨bb, 11, none⟩ (.slice none 0 0)) := by
      refine ⟨C2, _, gr, hF2.of hS, hB5, ⟨⟨?_, ?_, ?_, ?_, ?_, ?_, ?_, ?_⟩, by simpa using hR2.step hF2 hSt (fun h => h) (fun _ h => h)⟩, hT2.trans (KFr.of hSt (fun _ h => h.elim)), ?_, hgl⟩
      · rw [upd_other _ _ (by first | decide | nofun), upd_other _ _ (by first | decide | nofun)]; exact hO2.rO.step hF2 hSt (by simp) (fun h => h)
      · rw [upd_other _ _ (by first | decide | nofun), upd_other _ _ (by first | decide | nofun)]; exact hO2.rT.step hF2 hSt (by simp) (fun h => h)
      · rw [upd_other _ _ (by first | decide | nofun), upd_other _ _ (by first | decide | nofun)]; exact hO2.rW.step hF2 hSt (by simp) (fun h => h)
      · rw [upd_other _ _ (by first | decide | nofun), upd_other _ _ (by first | decide | nofun)]; exact hO2.rN.step hF2 hSt (by simp) (fun h => h)
      · rw [upd_other _ _ (by first | decide | nofun), upd_same]; exact RowAt.nil _ _ _ _ _
      · rw [upd_other _ _ (by first | decide | nofun), upd_other _ _ (by first | decide | nofun)]; exact hO2.rM.step hF2 hSt (by simp) (fun h => h)
      · rw [upd_other _ _ (by first | decide | nofun), upd_other _ _ (by first | decide | nofun)]; exact hO2.rD.step hF2 hSt (by simp) (fun h => h)
      · rw [upd_same]; exact RowAt.nil _ _ _ _ _
      · intro i hi
        have hi' : i < 4 ∨ 12 ≤ i := hi
        rw [upd_other _ _ (by omega), upd_other _ _ (by omega)]
        exact hf2 i hi'
    have HFin : Hid _ := hFin
    clear hFin hSt hS hB5 hT2 hf2 hO2 hR2 HKK HG0 hG hR hO
    obtain ⟨v4, e4⟩ : ∃ v, f2 8 = v := ⟨_, rfl⟩
    obtain ⟨v7, e7⟩ : ∃ v, f2 11 = v := ⟨_, rfl⟩
    rw [e4] at c4
    rw [e7] at c7
    obtain ⟨cc, rfl, hcc⟩ := expand69 s3 d3
    have y : cc 0 = .pointer (some ⟨bb, 0, none⟩) := (hcc 0).trans x03
    clear hcc x03 s3 d3
    unfold lit69
    simp only [y]
    go_wp2
    refine bodyPost_end (results_none rfl _ _ _) rfl ⟨rfl, HFin.out⟩
end Go.Proofs.YtjbhnpofdafmbaaGreatDoor
/- The book's kind Slots: single operations. -/
namespace Go.Proofs.YtjbhnpofdafmbaaGreatDoor
open Go.RowKit
abbrev kcSlots : KC := ⟨2, 64, 7, 58, 31⟩
theorem Slots_bs1 (w : World) (a : Option Addr) (n c : Nat) : (Instr.buildSlice 32 1 #[(0, .slice a n c)]).run Tryz.prog w = .ok (.slice (some ⟨w.heap.size, 0, none⟩) 1 1) (w.alloc (.cells #[.slice a n c] 58)) := by
  go_simp
theorem Slots_bs0 (w : World) : (Instr.buildSlice 58 0 #[]).run Tryz.prog w = .ok (.slice (some ⟨w.heap.size, 0, none⟩) 0 0) (w.alloc (.cells #[] 64)) := by
  go_simp
theorem Slots_ld {w : World} {bb i : Nat} {a : Option Addr} {n c : Nat} (h : w.cell? ⟨bb, i, none⟩ = some (.slice a n c)) : (Instr.loadAt 32 (pv bb i)).run Tryz.prog w = .ok (.slice a n c) w := by
  unfold pv
  go_simp
theorem Slots_st {w : World} {bb i : Nat} {a : Option Addr} {n c : Nat} {u : Value} (h : w.cell? ⟨bb, i, none⟩ = some u) (hz : w.frozen? ⟨bb, i, none⟩ = false) : (Instr.storeAt 32 (pv bb i) (.slice a n c)).run Tryz.prog w = .ok () (w.setCell ⟨bb, i, none⟩ (.slice a n c)) := by
  unfold pv
  go_simp
theorem Slots_bs1o (w : World) {y : Value} (hy : ∃ a n c, y = .slice a n c) : (Instr.buildSlice 32 1 #[(0, y)]).run Tryz.prog w = .ok (.slice (some ⟨w.heap.size, 0, none⟩) 1 1) (w.alloc (.cells #[y] 58)) := by
  obtain ⟨a, n, c, rfl⟩ := hy
  exact Slots_bs1 w a n c
theorem Slots_ldo {w : World} {bb i : Nat} {y : Value} (hy : ∃ a n c, y = .slice a n c) (h : w.cell? ⟨bb, i, none⟩ = some y) : (Instr.loadAt 32 (pv bb i)).run Tryz.prog w = .ok y w := by
  obtain ⟨a, n, c, rfl⟩ := hy
  exact Slots_ld h
theorem Slots_sto {w : World} {bb i : Nat} {y u : Value} (hy : ∃ a n c, y = .slice a n c) (h : w.cell? ⟨bb, i, none⟩ = some u) (hz : w.frozen? ⟨bb, i, none⟩ = false) : (Instr.storeAt 32 (pv bb i) y).run Tryz.prog w = .ok () (w.setCell ⟨bb, i, none⟩ y) := by
  obtain ⟨a, n, c, rfl⟩ := hy
  exact Slots_st h hz
theorem Slots_info : (Tryz.prog.info? 64).map (fun i => (i.zero, i.size, i.bytes)) = some (some (.agg #[.int .i64 0, .int .i64 0, .int .i64 0, .int .i64 0, .int .i64 0, .int .i64 0, .int .i64 0]), 7, 56) := by kernel_rfl
theorem Slots_linfo : (Tryz.prog.info? 58).map (fun i => (i.zero, i.size, i.bytes)) = some (some (.slice none 0 0), 1, 24) := by kernel_rfl
theorem Slots_und : Tryz.prog.underlying 58 = some (.slice 64) := by kernel_rfl
theorem Slots_lund : Tryz.prog.underlying 32 = some (.slice 58) := by kernel_rfl
/-- The whole of the kind's state. -/
def FullSlots (C : Own) (w : World) (f : Nat → Value) (ot : List Ot) (wn : List Wt) (fr : List Fh) : Prop :=
  KOut C w kcSlots f (ot.map (·.o)) (ot.map (·.c)) (wn.map (·.l)) (wn.map (·.c)) (fr.map (·.l)) ((wn.map (·.mark)).map vi) ((wn.map (·.due)).map vi) ((fr.map (·.mark)).map vi) ∧ KRows C w kcSlots ot wn fr
end Go.Proofs.YtjbhnpofdafmbaaGreatDoor
