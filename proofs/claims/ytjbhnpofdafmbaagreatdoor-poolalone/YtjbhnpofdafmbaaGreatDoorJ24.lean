/- The whole book: what stands in it; what a change of one kind leaves of the others. -/
import Derived.Test.YtjbhnpofdafmbaaGreatDoorJ15
import Derived.Test.YtjbhnpofdafmbaaGreatDoorJ17
import Derived.Test.YtjbhnpofdafmbaaGreatDoorJ18
import Derived.Test.YtjbhnpofdafmbaaGreatDoorJ20
import Derived.Test.YtjbhnpofdafmbaaGreatDoorJ21
import Derived.Test.YtjbhnpofdafmbaaGreatDoorJ22
import Derived.Test.YtjbhnpofdafmbaaGreatDoorJ23
namespace Go.Proofs.YtjbhnpofdafmbaaGreatDoor
open Go.RowKit
/-- What is of that kind stays. -/
def Keeps (κ : Nat) (C : Own) (w : World) (C' : Own) (w' : World) : Prop := ∀ g t, C g = some (κ, t) → w'.heap[g]? = w.heap[g]? ∧ C' g = some (κ, t)
section
variable {κ bb : Nat} {C C' C2 : Own} {w w' w2 : World} {t : Tg} {v : Value} {f f' : Nat → Value} {kc : KC} {ot : List Ot} {wn : List Wt} {fr : List Fh} {xo xt xw xn xf xm xd xr : List Value}
theorem Keeps.of {k : Nat} (h : KFr k bb C w C' w') (hF : Fit C w bb) (hk : κ ≠ k) (h0 : κ ≠ 0) : Keeps κ C w C' w' := fun g t hg => by
  have hlt := hF.dom g (by rw [hg]; simp)
  obtain ⟨h1, h2⟩ := h.blk g hlt (fun e => by
    subst e
    rw [hF.bk] at hg
    injection hg with hg
    injection hg with hg _
    exact h0 hg.symm) (fun t' ht' => by
    rw [hg] at ht'
    injection ht' with ht'
    injection ht' with ht' _
    exact hk ht')
  exact ⟨h1, h2.trans hg⟩
theorem Keeps.has (h : Keeps κ C w C' w') (hh : Has C κ t v) : Has C' κ t v := fun g hg => (h g t (hh g hg)).2
theorem Keeps.row (h : Keeps κ C w C' w') {B e sz n : Nat} {xs : List Value} (hr : w.ownsRow B e sz v n xs) (hh : Has C κ t v) : w'.ownsRow B e sz v n xs := by
  obtain ⟨h1, h2⟩ := hr
  refine ⟨h1, ?_⟩
  rcases h2 with h2 | ⟨g, cap, cur, e1, e2, e3, e4⟩
  · exact .inl h2
  · refine .inr ⟨g, cap, cur, e1, e2, ?_, e4⟩
    rw [(h g t (hh g (by rw [e1]; rfl))).1]
    exact e3
theorem Keeps.rowAt {ty : TypeId} {xs : List Value} (h : Keeps κ C w C' w') (hr : RowAt C w κ t ty v xs) : RowAt C' w' κ t ty v xs := ⟨h.row hr.1 hr.2, h.has hr.2⟩
theorem Keeps.rows (k : Keeps kc.κ C w C' w') (h : KRows C w kc ot wn fr) : KRows C' w' kc ot wn fr := by
  refine ⟨fun q hq => ?_, fun q hq => ?_, fun q hq => ?_, h.ids, h.link⟩
  · obtain ⟨h1, h2, h3, h4, h5, h6⟩ := h.pO q hq
    exact ⟨k.row h1 h4, k.row h2 h5, h3, k.has h4, k.has h5, h6⟩
  · obtain ⟨h1, h2, h3, h4, h5, h6⟩ := h.pW q hq
    exact ⟨k.row h1 h4, k.row h2 h5, h3, k.has h4, k.has h5, h6⟩
  · obtain ⟨h1, h2, h3, h4⟩ := h.pF q hq
    exact ⟨k.row h1 h3, h2, k.has h3, h4⟩
theorem Keeps.out (k : Keeps kc.κ C w C' w') (h : KOut C w kc f xo xt xw xn xf xm xd xr) (hf : ∀ i, kc.b ≤ i → i < kc.b + 8 → f' i = f i) : KOut C' w' kc f' xo xt xw xn xf xm xd xr := by
  refine ⟨?_, ?_, ?_, ?_, ?_, ?_, ?_, ?_⟩
  · rw [hf _ (by omega) (by omega)]; exact k.rowAt h.rO
  · rw [hf _ (by omega) (by omega)]; exact k.rowAt h.rT
  · rw [hf _ (by omega) (by omega)]; exact k.rowAt h.rW
  · rw [hf _ (by omega) (by omega)]; exact k.rowAt h.rN
  · rw [hf _ (by omega) (by omega)]; exact k.rowAt h.rF
  · rw [hf _ (by omega) (by omega)]; exact k.rowAt h.rM
  · rw [hf _ (by omega) (by omega)]; exact k.rowAt h.rD
  · rw [hf _ (by omega) (by omega)]; exact k.rowAt h.rR
/-- What isn't the book's stays, and stays not the book's. -/
structure BFr (C : Own) (w : World) (C' : Own) (w' : World) : Prop where
  os : w'.os = w.os
  tape : w'.tape = w.tape
  output : w'.output = w.output
  size : w.heap.size ≤ w'.heap.size
  blk : ∀ g, g < w.heap.size → C g = none → w'.heap[g]? = w.heap[g]? ∧ C' g = none
theorem BFr.refl (C : Own) (w : World) : BFr C w C w := ⟨rfl, rfl, rfl, Nat.le_refl _, fun _ _ h => ⟨rfl, h⟩⟩
theorem BFr.trans (h : BFr C w C' w') (k : BFr C' w' C2 w2) : BFr C w C2 w2 :=
  ⟨k.os.trans h.os, k.tape.trans h.tape, k.output.trans h.output, Nat.le_trans h.size k.size, fun g hg hc => by
    obtain ⟨h1, h2⟩ := h.blk g hg hc
    obtain ⟨k1, k2⟩ := k.blk g (Nat.lt_of_lt_of_le hg h.size) h2
    exact ⟨k1.trans h1, k2⟩⟩
theorem BFr.of {k : Nat} (h : KFr k bb C w C' w') (hF : Fit C w bb) : BFr C w C' w' :=
  ⟨h.os, h.tape, h.output, h.size, fun g hg hc => by
    obtain ⟨h1, h2⟩ := h.blk g hg (fun e => by subst e; rw [hF.bk] at hc; cases hc) (fun t ht => by rw [hc] at ht; cases ht)
    exact ⟨h1, h2.trans hc⟩⟩
end
/-- The kinds of which nothing is kept. -/
def Nils (f : Nat → Value) : Prop := ∀ i, i < 103 → (13 ≤ i ∧ i < 31 ∨ 40 ≤ i) → (i + 5) % 9 ≠ 8 → f i = .slice none 0 0
/-- The book. a, b: nothing of the kind is marked and not laid on yet. -/
structure BSt (a b : Bool) (bb : Nat) (C : Own) (turn deep si ss : Nat) (w : World) : Prop where
  ex : ∃ f oi wi fi os ws fs, Fit C w bb ∧ BK w bb f ∧ FullInts C w f oi wi fi ∧ FullSlots C w f os ws fs ∧ f 0 = .bool false ∧ f 1 = .bool false ∧ f 2 = .int .i64 (turn : Nat) ∧ f 3 = .int .i64 (deep : Nat) ∧ f 12 = .int .i64 (si : Nat) ∧ f 39 = .int .i64 (ss : Nat) ∧ Nils f ∧ oi.length + 2 * wi.length + fi.length = 2 * si ∧ os.length + 2 * ws.length + fs.length = 2 * ss ∧ (a = true → fi = []) ∧ (b = true → fs = [])
section
variable {a b : Bool} {bb : Nat} {C : Own} {turn deep si ss : Nat} {w : World}
theorem bMarkInts (h : BSt true b bb C turn deep si ss w) (hsi : si ≤ 40000) :
    Calls Tryz.prog 139 #[.pointer (some ⟨bb, 0, none⟩)] w fun e w' => e = .returned (.tuple #[]) ∧ ∃ C', BSt false b bb C' turn deep si ss w' ∧ BFr C w C' w' := by
  obtain ⟨f, oi, wi, fi, os, ws, fs, hF, hB, hI, hS, h0, h1, h2, h3, h12, h39, hN, li, ls, ha, hb⟩ := h.ex
  obtain rfl := ha rfl
  simp only [List.length_nil] at li
  refine (cMarkInts hF hB hI (by omega) (by omega) h0 h1 h2 (fun w q p1 p2 p3 => sameInts p1 p2 (by omega))).mono ?_
  rintro e w' ⟨rfl, hM⟩
  obtain ⟨C', f', ot', wn', fr, hF', hB', hI', hK', hf', l1, l2⟩ := hM.ex
  have kp : Keeps kcSlots.κ C w C' w' := Keeps.of hK' hF (by first | decide | nofun) (by first | decide | nofun)
  have hs : FullSlots C' w' f' os ws fs := ⟨kp.out hS.1 (fun i h1 h2 => hf' i (.inr (by have : 31 ≤ i := h1; omega))), kp.rows hS.2⟩
  refine ⟨rfl, C', ⟨f', _, wn', fr, os, ws, fs, hF', hB', hI', hs, (hf' 0 (by omega)).trans h0, (hf' 1 (by omega)).trans h1, (hf' 2 (by omega)).trans h2, (hf' 3 (by omega)).trans h3, (hf' 12 (by omega)).trans h12, (hf' 39 (by omega)).trans h39, fun i hi hc hm => (hf' i (by omega)).trans (hN i hi hc hm), ?_, ls, (fun e => by cases e), hb⟩, BFr.of hK' hF⟩
  rw [List.length_append]
  omega
theorem bMarkSlots (h : BSt a true bb C turn deep si ss w) (hss : ss ≤ 40000) :
    Calls Tryz.prog 142 #[.pointer (some ⟨bb, 0, none⟩)] w fun e w' => e = .returned (.tuple #[]) ∧ ∃ C', BSt a false bb C' turn deep si ss w' ∧ BFr C w C' w' := by
  obtain ⟨f, oi, wi, fi, os, ws, fs, hF, hB, hI, hS, h0, h1, h2, h3, h12, h39, hN, li, ls, ha, hb⟩ := h.ex
  obtain rfl := hb rfl
  simp only [List.length_nil] at ls
  refine (cMarkSlots hF hB hS (by omega) (by omega) h0 h1 h2 (fun w q p1 p2 p3 => sameSlots p1 p2 (by omega))).mono ?_
  rintro e w' ⟨rfl, hM⟩
  obtain ⟨C', f', ot', wn', fr, hF', hB', hS', hK', hf', l1, l2⟩ := hM.ex
  have kp : Keeps kcInts.κ C w C' w' := Keeps.of hK' hF (by first | decide | nofun) (by first | decide | nofun)
  have hi : FullInts C' w' f' oi wi fi := ⟨kp.out hI.1 (fun i h1 h2 => hf' i (.inl (by have : i < 12 := h2; omega))), kp.rows hI.2⟩
  refine ⟨rfl, C', ⟨f', oi, wi, fi, _, wn', fr, hF', hB', hi, hS', (hf' 0 (by omega)).trans h0, (hf' 1 (by omega)).trans h1, (hf' 2 (by omega)).trans h2, (hf' 3 (by omega)).trans h3, (hf' 12 (by omega)).trans h12, (hf' 39 (by omega)).trans h39, fun i hi hc hm => (hf' i (by omega)).trans (hN i hi hc hm), li, ?_, ha, fun e => by cases e⟩, BFr.of hK' hF⟩
  rw [List.length_append]
  omega
theorem bGrowInts (h : BSt a b bb C turn deep si ss w) (hsi : si ≤ 40000) :
    Calls Tryz.prog 150 #[.pointer (some ⟨bb, 0, none⟩)] w fun e w' => e = .returned (.tuple #[]) ∧ ∃ C', BSt true b bb C' turn deep si ss w' ∧ BFr C w C' w' := by
  obtain ⟨f, oi, wi, fi, os, ws, fs, hF, hB, hI, hS, h0, h1, h2, h3, h12, h39, hN, li, ls, ha, hb⟩ := h.ex
  refine (cGrowInts hF hB hI (by omega) (by omega)).mono ?_
  rintro e w' ⟨rfl, hM⟩
  obtain ⟨C', f', gr, hF', hB', hI', hK', hf', l1⟩ := hM.ex
  have kp : Keeps kcSlots.κ C w C' w' := Keeps.of hK' hF (by first | decide | nofun) (by first | decide | nofun)
  have hs : FullSlots C' w' f' os ws fs := ⟨kp.out hS.1 (fun i h1 h2 => hf' i (.inr (by have : 31 ≤ i := h1; omega))), kp.rows hS.2⟩
  refine ⟨rfl, C', ⟨f', _, wi, [], os, ws, fs, hF', hB', hI', hs, (hf' 0 (by omega)).trans h0, (hf' 1 (by omega)).trans h1, (hf' 2 (by omega)).trans h2, (hf' 3 (by omega)).trans h3, (hf' 12 (by omega)).trans h12, (hf' 39 (by omega)).trans h39, fun i hi hc hm => (hf' i (by omega)).trans (hN i hi hc hm), ?_, ls, fun _ => rfl, hb⟩, BFr.of hK' hF⟩
  rw [List.length_append, List.length_nil]
  omega
theorem bGrowSlots (h : BSt a b bb C turn deep si ss w) (hss : ss ≤ 40000) :
    Calls Tryz.prog 153 #[.pointer (some ⟨bb, 0, none⟩)] w fun e w' => e = .returned (.tuple #[]) ∧ ∃ C', BSt a true bb C' turn deep si ss w' ∧ BFr C w C' w' := by
  obtain ⟨f, oi, wi, fi, os, ws, fs, hF, hB, hI, hS, h0, h1, h2, h3, h12, h39, hN, li, ls, ha, hb⟩ := h.ex
  refine (cGrowSlots hF hB hS (by omega) (by omega)).mono ?_
  rintro e w' ⟨rfl, hM⟩
  obtain ⟨C', f', gr, hF', hB', hS', hK', hf', l1⟩ := hM.ex
  have kp : Keeps kcInts.κ C w C' w' := Keeps.of hK' hF (by first | decide | nofun) (by first | decide | nofun)
  have hi : FullInts C' w' f' oi wi fi := ⟨kp.out hI.1 (fun i h1 h2 => hf' i (.inl (by have : i < 12 := h2; omega))), kp.rows hI.2⟩
  refine ⟨rfl, C', ⟨f', oi, wi, fi, _, ws, [], hF', hB', hi, hS', (hf' 0 (by omega)).trans h0, (hf' 1 (by omega)).trans h1, (hf' 2 (by omega)).trans h2, (hf' 3 (by omega)).trans h3, (hf' 12 (by omega)).trans h12, (hf' 39 (by omega)).trans h39, fun i hi hc hm => (hf' i (by omega)).trans (hN i hi hc hm), li, ?_, ha, fun _ => rfl⟩, BFr.of hK' hF⟩
  rw [List.length_append, List.length_nil]
  omega
/-- A cell of the book is set that is no kind's, or stays as it is. -/
theorem BSt.set_same {i : Nat} {v : Value} {f : Nat → Value} (hB : BK w bb f) (hi : i < 103) (hv : f i = v) : BK (w.setCell ⟨bb, i, none⟩ v) bb f := by
  have := hB.put hi v
  rwa [show upd f i v = f from funext fun j => by
    by_cases e : j = i
    · subst e; rw [upd_same, hv]
    · rw [upd_other _ _ e]] at this
theorem BSt.upd_ {i : Nat} {v : Value} {f f' : Nat → Value} {oi os : List Ot} {wi ws : List Wt} {fi fs : List Fh} (hF : Fit C w bb) (_hB : BK w bb f) (hI : FullInts C w f oi wi fi) (hS : FullSlots C w f os ws fs) (hf1 : ∀ j, 4 ≤ j → j < 12 → f' j = f j) (hf2 : ∀ j, 31 ≤ j → j < 39 → f' j = f j) :
    Fit C (w.setCell ⟨bb, i, none⟩ v) bb ∧ FullInts C (w.setCell ⟨bb, i, none⟩ v) f' oi wi fi ∧ FullSlots C (w.setCell ⟨bb, i, none⟩ v) f' os ws fs ∧ BFr C w C (w.setCell ⟨bb, i, none⟩ v) := by
  have ht : Turned [bb] w (w.setCell ⟨bb, i, none⟩ v) := (Turned.refl [bb] w).set (.inl (by simp)) _ _
  have hSt : Stp (fun _ => False) bb C w C (w.setCell ⟨bb, i, none⟩ v) := Stp.of ht (by intro x hx; exact .inl (by simpa using hx))
  have hK : KFr 9 bb C w C (w.setCell ⟨bb, i, none⟩ v) := KFr.of hSt (fun _ h => h.elim)
  have k1 : Keeps kcInts.κ C w C (w.setCell ⟨bb, i, none⟩ v) := Keeps.of hK hF (by first | decide | nofun) (by first | decide | nofun)
  have k2 : Keeps kcSlots.κ C w C (w.setCell ⟨bb, i, none⟩ v) := Keeps.of hK hF (by first | decide | nofun) (by first | decide | nofun)
  exact ⟨hF.of ht, ⟨k1.out hI.1 (fun j a b => hf1 j a b), k1.rows hI.2⟩, ⟨k2.out hS.1 (fun j a b => hf2 j a b), k2.rows hS.2⟩, BFr.of hK hF⟩
end
end Go.Proofs.YtjbhnpofdafmbaaGreatDoor
/- The whole book: marks, grows. -/
namespace Go.Proofs.YtjbhnpofdafmbaaGreatDoor
open Go.RowKit
section
variable {a b : Bool} {bb : Nat} {C : Own} {turn deep si ss : Nat} {w : World}
theorem bMarkTexts (h : BSt a b bb C turn deep si ss w) : Calls Tryz.prog 140 #[.pointer (some ⟨bb, 0, none⟩)] w fun e w' => e = .returned (.tuple #[]) ∧ w' = w := by
  obtain ⟨f, oi, wi, fi, os, ws, fs, hF, hB, hI, hS, h0, h1, h2, h3, h12, h39, hN, li, ls, ha, hb⟩ := h.ex
  exact cMarkTexts hB (hN 15 (by omega) (by omega) (by omega)) (hN 16 (by omega) (by omega) (by omega)) (hN 18 (by omega) (by omega) (by omega)) (hN 19 (by omega) (by omega) (by omega))
theorem bHoldTexts (h : BSt a b bb C turn deep si ss w) : Calls Tryz.prog 43 #[.pointer (some ⟨bb, 0, none⟩)] w fun e w' => e = .returned (.bool true) ∧ w' = w := by
  obtain ⟨f, oi, wi, fi, os, ws, fs, hF, hB, hI, hS, h0, h1, h2, h3, h12, h39, hN, li, ls, ha, hb⟩ := h.ex
  exact cHoldTexts hB (hN 13 (by omega) (by omega) (by omega)) (hN 15 (by omega) (by omega) (by omega))
theorem bGrowTexts (h : BSt a b bb C turn deep si ss w) : Calls Tryz.prog 151 #[.pointer (some ⟨bb, 0, none⟩)] w fun e w' => e = .returned (.tuple #[]) ∧ ∃ C', BSt a b bb C' turn deep si ss w' ∧ BFr C w C' w' := by
  obtain ⟨f, oi, wi, fi, os, ws, fs, hF, hB, hI, hS, h0, h1, h2, h3, h12, h39, hN, li, ls, ha, hb⟩ := h.ex
  refine (cGrowTexts hB (hN 17 (by omega) (by omega) (by omega)) (hN 20 (by omega) (by omega) (by omega))).mono ?_
  rintro e w' ⟨rfl, rfl⟩
  obtain ⟨f1, i1, s1, r1⟩ := BSt.upd_ (i := 17) (v := .slice none 0 0) (f' := f) hF hB hI hS (fun _ _ _ => rfl) (fun _ _ _ => rfl)
  have b1 := BSt.set_same hB (i := 17) (by omega) (hN 17 (by omega) (by omega) (by omega))
  obtain ⟨f2, i2, s2, r2⟩ := BSt.upd_ (i := 20) (v := .slice none 0 0) (f' := f) f1 b1 i1 s1 (fun _ _ _ => rfl) (fun _ _ _ => rfl)
  exact ⟨rfl, C, ⟨f, oi, wi, fi, os, ws, fs, f2, BSt.set_same b1 (by omega) (hN 20 (by omega) (by omega) (by omega)), i2, s2, h0, h1, h2, h3, h12, h39, hN, li, ls, ha, hb⟩, r1.trans r2⟩
theorem bMarkPairs (h : BSt a b bb C turn deep si ss w) : Calls Tryz.prog 141 #[.pointer (some ⟨bb, 0, none⟩)] w fun e w' => e = .returned (.tuple #[]) ∧ w' = w := by
  obtain ⟨f, oi, wi, fi, os, ws, fs, hF, hB, hI, hS, h0, h1, h2, h3, h12, h39, hN, li, ls, ha, hb⟩ := h.ex
  exact cMarkPairs hB (hN 24 (by omega) (by omega) (by omega)) (hN 25 (by omega) (by omega) (by omega)) (hN 27 (by omega) (by omega) (by omega)) (hN 28 (by omega) (by omega) (by omega))
theorem bHoldPairs (h : BSt a b bb C turn deep si ss w) : Calls Tryz.prog 44 #[.pointer (some ⟨bb, 0, none⟩)] w fun e w' => e = .returned (.bool true) ∧ w' = w := by
  obtain ⟨f, oi, wi, fi, os, ws, fs, hF, hB, hI, hS, h0, h1, h2, h3, h12, h39, hN, li, ls, ha, hb⟩ := h.ex
  exact cHoldPairs hB (hN 22 (by omega) (by omega) (by omega)) (hN 24 (by omega) (by omega) (by omega))
theorem bGrowPairs (h : BSt a b bb C turn deep si ss w) : Calls Tryz.prog 152 #[.pointer (some ⟨bb, 0, none⟩)] w fun e w' => e = .returned (.tuple #[]) ∧ ∃ C', BSt a b bb C' turn deep si ss w' ∧ BFr C w C' w' := by
  obtain ⟨f, oi, wi, fi, os, ws, fs, hF, hB, hI, hS, h0, h1, h2, h3, h12, h39, hN, li, ls, ha, hb⟩ := h.ex
  refine (cGrowPairs hB (hN 26 (by omega) (by omega) (by omega)) (hN 29 (by omega) (by omega) (by omega))).mono ?_
  rintro e w' ⟨rfl, rfl⟩
  obtain ⟨f1, i1, s1, r1⟩ := BSt.upd_ (i := 26) (v := .slice none 0 0) (f' := f) hF hB hI hS (fun _ _ _ => rfl) (fun _ _ _ => rfl)
  have b1 := BSt.set_same hB (i := 26) (by omega) (hN 26 (by omega) (by omega) (by omega))
  obtain ⟨f2, i2, s2, r2⟩ := BSt.upd_ (i := 29) (v := .slice none 0 0) (f' := f) f1 b1 i1 s1 (fun _ _ _ => rfl) (fun _ _ _ => rfl)
  exact ⟨rfl, C, ⟨f, oi, wi, fi, os, ws, fs, f2, BSt.set_same b1 (by omega) (hN 29 (by omega) (by omega) (by omega)), i2, s2, h0, h1, h2, h3, h12, h39, hN, li, ls, ha, hb⟩, r1.trans r2⟩
theorem bMarkChanges (h : BSt a b bb C turn deep si ss w) : Calls Tryz.prog 143 #[.pointer (some ⟨bb, 0, none⟩)] w fun e w' => e = .returned (.tuple #[]) ∧ w' = w := by
  obtain ⟨f, oi, wi, fi, os, ws, fs, hF, hB, hI, hS, h0, h1, h2, h3, h12, h39, hN, li, ls, ha, hb⟩ := h.ex
  exact cMarkChanges hB (hN 42 (by omega) (by omega) (by omega)) (hN 43 (by omega) (by omega) (by omega)) (hN 45 (by omega) (by omega) (by omega)) (hN 46 (by omega) (by omega) (by omega))
theorem bHoldChanges (h : BSt a b bb C turn deep si ss w) : Calls Tryz.prog 46 #[.pointer (some ⟨bb, 0, none⟩)] w fun e w' => e = .returned (.bool true) ∧ w' = w := by
  obtain ⟨f, oi, wi, fi, os, ws, fs, hF, hB, hI, hS, h0, h1, h2, h3, h12, h39, hN, li, ls, ha, hb⟩ := h.ex
  exact cHoldChanges hB (hN 40 (by omega) (by omega) (by omega)) (hN 42 (by omega) (by omega) (by omega))
theorem bGrowChanges (h : BSt a b bb C turn deep si ss w) : Calls Tryz.prog 154 #[.pointer (some ⟨bb, 0, none⟩)] w fun e w' => e = .returned (.tuple #[]) ∧ ∃ C', BSt a b bb C' turn deep si ss w' ∧ BFr C w C' w' := by
  obtain ⟨f, oi, wi, fi, os, ws, fs, hF, hB, hI, hS, h0, h1, h2, h3, h12, h39, hN, li, ls, ha, hb⟩ := h.ex
  refine (cGrowChanges hB (hN 44 (by omega) (by omega) (by omega)) (hN 47 (by omega) (by omega) (by omega))).mono ?_
  rintro e w' ⟨rfl, rfl⟩
  obtain ⟨f1, i1, s1, r1⟩ := BSt.upd_ (i := 44) (v := .slice none 0 0) (f' := f) hF hB hI hS (fun _ _ _ => rfl) (fun _ _ _ => rfl)
  have b1 := BSt.set_same hB (i := 44) (by omega) (hN 44 (by omega) (by omega) (by omega))
  obtain ⟨f2, i2, s2, r2⟩ := BSt.upd_ (i := 47) (v := .slice none 0 0) (f' := f) f1 b1 i1 s1 (fun _ _ _ => rfl) (fun _ _ _ => rfl)
  exact ⟨rfl, C, ⟨f, oi, wi, fi, os, ws, fs, f2, BSt.set_same b1 (by omega) (hN 47 (by omega) (by omega) (by omega)), i2, s2, h0, h1, h2, h3, h12, h39, hN, li, ls, ha, hb⟩, r1.trans r2⟩
theorem bMarkOpens (h : BSt a b bb C turn deep si ss w) : Calls Tryz.prog 144 #[.pointer (some ⟨bb, 0, none⟩)] w fun e w' => e = .returned (.tuple #[]) ∧ w' = w := by
  obtain ⟨f, oi, wi, fi, os, ws, fs, hF, hB, hI, hS, h0, h1, h2, h3, h12, h39, hN, li, ls, ha, hb⟩ := h.ex
  exact cMarkOpens hB (hN 51 (by omega) (by omega) (by omega)) (hN 52 (by omega) (by omega) (by omega)) (hN 54 (by omega) (by omega) (by omega)) (hN 55 (by omega) (by omega) (by omega))
theorem bHoldOpens (h : BSt a b bb C turn deep si ss w) : Calls Tryz.prog 47 #[.pointer (some ⟨bb, 0, none⟩)] w fun e w' => e = .returned (.bool true) ∧ w' = w := by
  obtain ⟨f, oi, wi, fi, os, ws, fs, hF, hB, hI, hS, h0, h1, h2, h3, h12, h39, hN, li, ls, ha, hb⟩ := h.ex
  exact cHoldOpens hB (hN 49 (by omega) (by omega) (by omega)) (hN 51 (by omega) (by omega) (by omega))
theorem bGrowOpens (h : BSt a b bb C turn deep si ss w) : Calls Tryz.prog 155 #[.pointer (some ⟨bb, 0, none⟩)] w fun e w' => e = .returned (.tuple #[]) ∧ ∃ C', BSt a b bb C' turn deep si ss w' ∧ BFr C w C' w' := by
  obtain ⟨f, oi, wi, fi, os, ws, fs, hF, hB, hI, hS, h0, h1, h2, h3, h12, h39, hN, li, ls, ha, hb⟩ := h.ex
  refine (cGrowOpens hB (hN 53 (by omega) (by omega) (by omega)) (hN 56 (by omega) (by omega) (by omega))).mono ?_
  rintro e w' ⟨rfl, rfl⟩
  obtain ⟨f1, i1, s1, r1⟩ := BSt.upd_ (i := 53) (v := .slice none 0 0) (f' := f) hF hB hI hS (fun _ _ _ => rfl) (fun _ _ _ => rfl)
  have b1 := BSt.set_same hB (i := 53) (by omega) (hN 53 (by omega) (by omega) (by omega))
  obtain ⟨f2, i2, s2, r2⟩ := BSt.upd_ (i := 56) (v := .slice none 0 0) (f' := f) f1 b1 i1 s1 (fun _ _ _ => rfl) (fun _ _ _ => rfl)
  exact ⟨rfl, C, ⟨f, oi, wi, fi, os, ws, fs, f2, BSt.set_same b1 (by omega) (hN 56 (by omega) (by omega) (by omega)), i2, s2, h0, h1, h2, h3, h12, h39, hN, li, ls, ha, hb⟩, r1.trans r2⟩
theorem bMarkLists (h : BSt a b bb C turn deep si ss w) : Calls Tryz.prog 145 #[.pointer (some ⟨bb, 0, none⟩)] w fun e w' => e = .returned (.tuple #[]) ∧ w' = w := by
  obtain ⟨f, oi, wi, fi, os, ws, fs, hF, hB, hI, hS, h0, h1, h2, h3, h12, h39, hN, li, ls, ha, hb⟩ := h.ex
  exact cMarkLists hB (hN 60 (by omega) (by omega) (by omega)) (hN 61 (by omega) (by omega) (by omega)) (hN 63 (by omega) (by omega) (by omega)) (hN 64 (by omega) (by omega) (by omega))
theorem bHoldLists (h : BSt a b bb C turn deep si ss w) : Calls Tryz.prog 48 #[.pointer (some ⟨bb, 0, none⟩)] w fun e w' => e = .returned (.bool true) ∧ w' = w := by
  obtain ⟨f, oi, wi, fi, os, ws, fs, hF, hB, hI, hS, h0, h1, h2, h3, h12, h39, hN, li, ls, ha, hb⟩ := h.ex
  exact cHoldLists hB (hN 58 (by omega) (by omega) (by omega)) (hN 60 (by omega) (by omega) (by omega))
theorem bGrowLists (h : BSt a b bb C turn deep si ss w) : Calls Tryz.prog 156 #[.pointer (some ⟨bb, 0, none⟩)] w fun e w' => e = .returned (.tuple #[]) ∧ ∃ C', BSt a b bb C' turn deep si ss w' ∧ BFr C w C' w' := by
  obtain ⟨f, oi, wi, fi, os, ws, fs, hF, hB, hI, hS, h0, h1, h2, h3, h12, h39, hN, li, ls, ha, hb⟩ := h.ex
  refine (cGrowLists hB (hN 62 (by omega) (by omega) (by omega)) (hN 65 (by omega) (by omega) (by omega))).mono ?_
  rintro e w' ⟨rfl, rfl⟩
  obtain ⟨f1, i1, s1, r1⟩ := BSt.upd_ (i := 62) (v := .slice none 0 0) (f' := f) hF hB hI hS (fun _ _ _ => rfl) (fun _ _ _ => rfl)
  have b1 := BSt.set_same hB (i := 62) (by omega) (hN 62 (by omega) (by omega) (by omega))
  obtain ⟨f2, i2, s2, r2⟩ := BSt.upd_ (i := 65) (v := .slice none 0 0) (f' := f) f1 b1 i1 s1 (fun _ _ _ => rfl) (fun _ _ _ => rfl)
  exact ⟨rfl, C, ⟨f, oi, wi, fi, os, ws, fs, f2, BSt.set_same b1 (by omega) (hN 65 (by omega) (by omega) (by omega)), i2, s2, h0, h1, h2, h3, h12, h39, hN, li, ls, ha, hb⟩, r1.trans r2⟩
theorem bMarkAnswers (h : BSt a b bb C turn deep si ss w) : Calls Tryz.prog 146 #[.pointer (some ⟨bb, 0, none⟩)] w fun e w' => e = .returned (.tuple #[]) ∧ w' = w := by
  obtain ⟨f, oi, wi, fi, os, ws, fs, hF, hB, hI, hS, h0, h1, h2, h3, h12, h39, hN, li, ls, ha, hb⟩ := h.ex
  exact cMarkAnswers hB (hN 69 (by omega) (by omega) (by omega)) (hN 70 (by omega) (by omega) (by omega)) (hN 72 (by omega) (by omega) (by omega)) (hN 73 (by omega) (by omega) (by omega))
theorem bHoldAnswers (h : BSt a b bb C turn deep si ss w) : Calls Tryz.prog 49 #[.pointer (some ⟨bb, 0, none⟩)] w fun e w' => e = .returned (.bool true) ∧ w' = w := by
  obtain ⟨f, oi, wi, fi, os, ws, fs, hF, hB, hI, hS, h0, h1, h2, h3, h12, h39, hN, li, ls, ha, hb⟩ := h.ex
  exact cHoldAnswers hB (hN 67 (by omega) (by omega) (by omega)) (hN 69 (by omega) (by omega) (by omega))
theorem bGrowAnswers (h : BSt a b bb C turn deep si ss w) : Calls Tryz.prog 157 #[.pointer (some ⟨bb, 0, none⟩)] w fun e w' => e = .returned (.tuple #[]) ∧ ∃ C', BSt a b bb C' turn deep si ss w' ∧ BFr C w C' w' := by
  obtain ⟨f, oi, wi, fi, os, ws, fs, hF, hB, hI, hS, h0, h1, h2, h3, h12, h39, hN, li, ls, ha, hb⟩ := h.ex
  refine (cGrowAnswers hB (hN 71 (by omega) (by omega) (by omega)) (hN 74 (by omega) (by omega) (by omega))).mono ?_
  rintro e w' ⟨rfl, rfl⟩
  obtain ⟨f1, i1, s1, r1⟩ := BSt.upd_ (i := 71) (v := .slice none 0 0) (f' := f) hF hB hI hS (fun _ _ _ => rfl) (fun _ _ _ => rfl)
  have b1 := BSt.set_same hB (i := 71) (by omega) (hN 71 (by omega) (by omega) (by omega))
  obtain ⟨f2, i2, s2, r2⟩ := BSt.upd_ (i := 74) (v := .slice none 0 0) (f' := f) f1 b1 i1 s1 (fun _ _ _ => rfl) (fun _ _ _ => rfl)
  exact ⟨rfl, C, ⟨f, oi, wi, fi, os, ws, fs, f2, BSt.set_same b1 (by omega) (hN 74 (by omega) (by omega) (by omega)), i2, s2, h0, h1, h2, h3, h12, h39, hN, li, ls, ha, hb⟩, r1.trans r2⟩
theorem bMarkAnswerLists (h : BSt a b bb C turn deep si ss w) : Calls Tryz.prog 147 #[.pointer (some ⟨bb, 0, none⟩)] w fun e w' => e = .returned (.tuple #[]) ∧ w' = w := by
  obtain ⟨f, oi, wi, fi, os, ws, fs, hF, hB, hI, hS, h0, h1, h2, h3, h12, h39, hN, li, ls, ha, hb⟩ := h.ex
  exact cMarkAnswerLists hB (hN 78 (by omega) (by omega) (by omega)) (hN 79 (by omega) (by omega) (by omega)) (hN 81 (by omega) (by omega) (by omega)) (hN 82 (by omega) (by omega) (by omega))
theorem bHoldAnswerLists (h : BSt a b bb C turn deep si ss w) : Calls Tryz.prog 50 #[.pointer (some ⟨bb, 0, none⟩)] w fun e w' => e = .returned (.bool true) ∧ w' = w := by
  obtain ⟨f, oi, wi, fi, os, ws, fs, hF, hB, hI, hS, h0, h1, h2, h3, h12, h39, hN, li, ls, ha, hb⟩ := h.ex
  exact cHoldAnswerLists hB (hN 76 (by omega) (by omega) (by omega)) (hN 78 (by omega) (by omega) (by omega))
theorem bGrowAnswerLists (h : BSt a b bb C turn deep si ss w) : Calls Tryz.prog 158 #[.pointer (some ⟨bb, 0, none⟩)] w fun e w' => e = .returned (.tuple #[]) ∧ ∃ C', BSt a b bb C' turn deep si ss w' ∧ BFr C w C' w' := by
  obtain ⟨f, oi, wi, fi, os, ws, fs, hF, hB, hI, hS, h0, h1, h2, h3, h12, h39, hN, li, ls, ha, hb⟩ := h.ex
  refine (cGrowAnswerLists hB (hN 80 (by omega) (by omega) (by omega)) (hN 83 (by omega) (by omega) (by omega))).mono ?_
  rintro e w' ⟨rfl, rfl⟩
  obtain ⟨f1, i1, s1, r1⟩ := BSt.upd_ (i := 80) (v := .slice none 0 0) (f' := f) hF hB hI hS (fun _ _ _ => rfl) (fun _ _ _ => rfl)
  have b1 := BSt.set_same hB (i := 80) (by omega) (hN 80 (by omega) (by omega) (by omega))
  obtain ⟨f2, i2, s2, r2⟩ := BSt.upd_ (i := 83) (v := .slice none 0 0) (f' := f) f1 b1 i1 s1 (fun _ _ _ => rfl) (fun _ _ _ => rfl)
  exact ⟨rfl, C, ⟨f, oi, wi, fi, os, ws, fs, f2, BSt.set_same b1 (by omega) (hN 83 (by omega) (by omega) (by omega)), i2, s2, h0, h1, h2, h3, h12, h39, hN, li, ls, ha, hb⟩, r1.trans r2⟩
theorem bMarkCalls (h : BSt a b bb C turn deep si ss w) : Calls Tryz.prog 148 #[.pointer (some ⟨bb, 0, none⟩)] w fun e w' => e = .returned (.tuple #[]) ∧ w' = w := by
  obtain ⟨f, oi, wi, fi, os, ws, fs, hF, hB, hI, hS, h0, h1, h2, h3, h12, h39, hN, li, ls, ha, hb⟩ := h.ex
  exact cMarkCalls hB (hN 87 (by omega) (by omega) (by omega)) (hN 88 (by omega) (by omega) (by omega)) (hN 90 (by omega) (by omega) (by omega)) (hN 91 (by omega) (by omega) (by omega))
theorem bHoldCalls (h : BSt a b bb C turn deep si ss w) : Calls Tryz.prog 51 #[.pointer (some ⟨bb, 0, none⟩)] w fun e w' => e = .returned (.bool true) ∧ w' = w := by
  obtain ⟨f, oi, wi, fi, os, ws, fs, hF, hB, hI, hS, h0, h1, h2, h3, h12, h39, hN, li, ls, ha, hb⟩ := h.ex
  exact cHoldCalls hB (hN 85 (by omega) (by omega) (by omega)) (hN 87 (by omega) (by omega) (by omega))
theorem bGrowCalls (h : BSt a b bb C turn deep si ss w) : Calls Tryz.prog 159 #[.pointer (some ⟨bb, 0, none⟩)] w fun e w' => e = .returned (.tuple #[]) ∧ ∃ C', BSt a b bb C' turn deep si ss w' ∧ BFr C w C' w' := by
  obtain ⟨f, oi, wi, fi, os, ws, fs, hF, hB, hI, hS, h0, h1, h2, h3, h12, h39, hN, li, ls, ha, hb⟩ := h.ex
  refine (cGrowCalls hB (hN 89 (by omega) (by omega) (by omega)) (hN 92 (by omega) (by omega) (by omega))).mono ?_
  rintro e w' ⟨rfl, rfl⟩
  obtain ⟨f1, i1, s1, r1⟩ := BSt.upd_ (i := 89) (v := .slice none 0 0) (f' := f) hF hB hI hS (fun _ _ _ => rfl) (fun _ _ _ => rfl)
  have b1 := BSt.set_same hB (i := 89) (by omega) (hN 89 (by omega) (by omega) (by omega))
  obtain ⟨f2, i2, s2, r2⟩ := BSt.upd_ (i := 92) (v := .slice none 0 0) (f' := f) f1 b1 i1 s1 (fun _ _ _ => rfl) (fun _ _ _ => rfl)
  exact ⟨rfl, C, ⟨f, oi, wi, fi, os, ws, fs, f2, BSt.set_same b1 (by omega) (hN 92 (by omega) (by omega) (by omega)), i2, s2, h0, h1, h2, h3, h12, h39, hN, li, ls, ha, hb⟩, r1.trans r2⟩
theorem bMarkCallLists (h : BSt a b bb C turn deep si ss w) : Calls Tryz.prog 149 #[.pointer (some ⟨bb, 0, none⟩)] w fun e w' => e = .returned (.tuple #[]) ∧ w' = w := by
  obtain ⟨f, oi, wi, fi, os, ws, fs, hF, hB, hI, hS, h0, h1, h2, h3, h12, h39, hN, li, ls, ha, hb⟩ := h.ex
  exact cMarkCallLists hB (hN 96 (by omega) (by omega) (by omega)) (hN 97 (by omega) (by omega) (by omega)) (hN 99 (by omega) (by omega) (by omega)) (hN 100 (by omega) (by omega) (by omega))
theorem bHoldCallLists (h : BSt a b bb C turn deep si ss w) : Calls Tryz.prog 52 #[.pointer (some ⟨bb, 0, none⟩)] w fun e w' => e = .returned (.bool true) ∧ w' = w := by
  obtain ⟨f, oi, wi, fi, os, ws, fs, hF, hB, hI, hS, h0, h1, h2, h3, h12, h39, hN, li, ls, ha, hb⟩ := h.ex
  exact cHoldCallLists hB (hN 94 (by omega) (by omega) (by omega)) (hN 96 (by omega) (by omega) (by omega))
theorem bGrowCallLists (h : BSt a b bb C turn deep si ss w) : Calls Tryz.prog 160 #[.pointer (some ⟨bb, 0, none⟩)] w fun e w' => e = .returned (.tuple #[]) ∧ ∃ C', BSt a b bb C' turn deep si ss w' ∧ BFr C w C' w' := by
  obtain ⟨f, oi, wi, fi, os, ws, fs, hF, hB, hI, hS, h0, h1, h2, h3, h12, h39, hN, li, ls, ha, hb⟩ := h.ex
  refine (cGrowCallLists hB (hN 98 (by omega) (by omega) (by omega)) (hN 101 (by omega) (by omega) (by omega))).mono ?_
  rintro e w' ⟨rfl, rfl⟩
  obtain ⟨f1, i1, s1, r1⟩ := BSt.upd_ (i := 98) (v := .slice none 0 0) (f' := f) hF hB hI hS (fun _ _ _ => rfl) (fun _ _ _ => rfl)
  have b1 := BSt.set_same hB (i := 98) (by omega) (hN 98 (by omega) (by omega) (by omega))
  obtain ⟨f2, i2, s2, r2⟩ := BSt.upd_ (i := 101) (v := .slice none 0 0) (f' := f) f1 b1 i1 s1 (fun _ _ _ => rfl) (fun _ _ _ => rfl)
  exact ⟨rfl, C, ⟨f, oi, wi, fi, os, ws, fs, f2, BSt.set_same b1 (by omega) (hN 101 (by omega) (by omega) (by omega)), i2, s2, h0, h1, h2, h3, h12, h39, hN, li, ls, ha, hb⟩, r1.trans r2⟩
set_option maxRecDepth 100000 in
set_option maxHeartbeats 1600000 in
theorem bMarks (h : BSt true true bb C turn deep si ss w) (hsi : si ≤ 40000) (hss : ss ≤ 40000) : Calls Tryz.prog 130 #[.pointer (some ⟨bb, 0, none⟩)] w fun e w' => e = .returned (.tuple #[]) ∧ ∃ C', BSt false false bb C' turn deep si ss w' ∧ BFr C w C' w' := by
  have HS : Hid _ := h
  have HF : Hid _ := BFr.refl C w
  clear h
  go_enter Tryz.func130, Tryz.ntmps130
  go_wp2_with (first
    | (go_at_call 139; refine (bMarkInts HS.out hsi).mono ?_; clear HS; rintro e wx ⟨rfl, CX, HS1, HF1⟩; have HS : Hid _ := HS1; have HF2 : Hid _ := HF.out.trans HF1; clear HS1 HF1 HF; have HF := HF2; clear HF2)
    | (go_at_call 140; refine (bMarkTexts HS.out).mono ?_; rintro e wx ⟨rfl, rfl⟩)
    | (go_at_call 141; refine (bMarkPairs HS.out).mono ?_; rintro e wx ⟨rfl, rfl⟩)
    | (go_at_call 142; refine (bMarkSlots HS.out hss).mono ?_; clear HS; rintro e wx ⟨rfl, CX, HS1, HF1⟩; have HS : Hid _ := HS1; have HF2 : Hid _ := HF.out.trans HF1; clear HS1 HF1 HF; have HF := HF2; clear HF2)
    | (go_at_call 143; refine (bMarkChanges HS.out).mono ?_; rintro e wx ⟨rfl, rfl⟩)
    | (go_at_call 144; refine (bMarkOpens HS.out).mono ?_; rintro e wx ⟨rfl, rfl⟩)
    | (go_at_call 145; refine (bMarkLists HS.out).mono ?_; rintro e wx ⟨rfl, rfl⟩)
    | (go_at_call 146; refine (bMarkAnswers HS.out).mono ?_; rintro e wx ⟨rfl, rfl⟩)
    | (go_at_call 147; refine (bMarkAnswerLists HS.out).mono ?_; rintro e wx ⟨rfl, rfl⟩)
    | (go_at_call 148; refine (bMarkCalls HS.out).mono ?_; rintro e wx ⟨rfl, rfl⟩)
    | (go_at_call 149; refine (bMarkCallLists HS.out).mono ?_; rintro e wx ⟨rfl, rfl⟩))
  refine bodyPost_end (results_none rfl _ _ _) rfl ⟨rfl, _, HS.out, HF.out⟩
set_option maxRecDepth 100000 in
set_option maxHeartbeats 1600000 in
theorem bGrows (h : BSt a b bb C turn deep si ss w) (hsi : si ≤ 40000) (hss : ss ≤ 40000) : Calls Tryz.prog 131 #[.pointer (some ⟨bb, 0, none⟩)] w fun e w' => e = .returned (.tuple #[]) ∧ ∃ C', BSt true true bb C' turn deep si ss w' ∧ BFr C w C' w' := by
  have HS : Hid _ := h
  have HF : Hid _ := BFr.refl C w
  clear h
  go_enter Tryz.func131, Tryz.ntmps131
  go_wp2_with (first
    | (go_at_call 150; refine (bGrowInts HS.out hsi).mono ?_; clear HS; rintro e wx ⟨rfl, CX, HS1, HF1⟩; have HS : Hid _ := HS1; have HF2 : Hid _ := HF.out.trans HF1; clear HS1 HF1 HF; have HF := HF2; clear HF2)
    | (go_at_call 151; refine (bGrowTexts HS.out).mono ?_; clear HS; rintro e wx ⟨rfl, CX, HS1, HF1⟩; have HS : Hid _ := HS1; have HF2 : Hid _ := HF.out.trans HF1; clear HS1 HF1 HF; have HF := HF2; clear HF2)
    | (go_at_call 152; refine (bGrowPairs HS.out).mono ?_; clear HS; rintro e wx ⟨rfl, CX, HS1, HF1⟩; have HS : Hid _ := HS1; have HF2 : Hid _ := HF.out.trans HF1; clear HS1 HF1 HF; have HF := HF2; clear HF2)
    | (go_at_call 153; refine (bGrowSlots HS.out hss).mono ?_; clear HS; rintro e wx ⟨rfl, CX, HS1, HF1⟩; have HS : Hid _ := HS1; have HF2 : Hid _ := HF.out.trans HF1; clear HS1 HF1 HF; have HF := HF2; clear HF2)
    | (go_at_call 154; refine (bGrowChanges HS.out).mono ?_; clear HS; rintro e wx ⟨rfl, CX, HS1, HF1⟩; have HS : Hid _ := HS1; have HF2 : Hid _ := HF.out.trans HF1; clear HS1 HF1 HF; have HF := HF2; clear HF2)
    | (go_at_call 155; refine (bGrowOpens HS.out).mono ?_; clear HS; rintro e wx ⟨rfl, CX, HS1, HF1⟩; have HS : Hid _ := HS1; have HF2 : Hid _ := HF.out.trans HF1; clear HS1 HF1 HF; have HF := HF2; clear HF2)
    | (go_at_call 156; refine (bGrowLists HS.out).mono ?_; clear HS; rintro e wx ⟨rfl, CX, HS1, HF1⟩; have HS : Hid _ := HS1; have HF2 : Hid _ := HF.out.trans HF1; clear HS1 HF1 HF; have HF := HF2; clear HF2)
    | (go_at_call 157; refine (bGrowAnswers HS.out).mono ?_; clear HS; rintro e wx ⟨rfl, CX, HS1, HF1⟩; have HS : Hid _ := HS1; have HF2 : Hid _ := HF.out.trans HF1; clear HS1 HF1 HF; have HF := HF2; clear HF2)
    | (go_at_call 158; refine (bGrowAnswerLists HS.out).mono ?_; clear HS; rintro e wx ⟨rfl, CX, HS1, HF1⟩; have HS : Hid _ := HS1; have HF2 : Hid _ := HF.out.trans HF1; clear HS1 HF1 HF; have HF := HF2; clear HF2)
    | (go_at_call 159; refine (bGrowCalls HS.out).mono ?_; clear HS; rintro e wx ⟨rfl, CX, HS1, HF1⟩; have HS : Hid _ := HS1; have HF2 : Hid _ := HF.out.trans HF1; clear HS1 HF1 HF; have HF := HF2; clear HF2)
    | (go_at_call 160; refine (bGrowCallLists HS.out).mono ?_; clear HS; rintro e wx ⟨rfl, CX, HS1, HF1⟩; have HS : Hid _ := HS1; have HF2 : Hid _ := HF.out.trans HF1; clear HS1 HF1 HF; have HF := HF2; clear HF2))
  refine bodyPost_end (results_none rfl _ _ _) rfl ⟨rfl, _, HS.out, HF.out⟩
end
end Go.Proofs.YtjbhnpofdafmbaaGreatDoor
/- The whole book: done, Ints, Slots, Hold by contract. -/
namespace Go.Proofs.YtjbhnpofdafmbaaGreatDoor
open Go.RowKit
section
variable {a b : Bool} {bb : Nat} {C : Own} {turn deep si ss : Nat} {w : World}
theorem BSt.cell2 (h : BSt a b bb C turn deep si ss w) : w.cell? ⟨bb, 2, none⟩ = some (.int .i64 (turn : Nat)) := by
  obtain ⟨f, oi, wi, fi, os, ws, fs, hF, hB, hI, hS, h0, h1, h2, h3, h12, h39, hN, li, ls, ha, hb⟩ := h.ex
  rw [hB.cell (by omega), h2]
theorem BSt.cell3 (h : BSt a b bb C turn deep si ss w) : w.cell? ⟨bb, 3, none⟩ = some (.int .i64 (deep : Nat)) := by
  obtain ⟨f, oi, wi, fi, os, ws, fs, hF, hB, hI, hS, h0, h1, h2, h3, h12, h39, hN, li, ls, ha, hb⟩ := h.ex
  rw [hB.cell (by omega), h3]
theorem BSt.cell1 (h : BSt a b bb C turn deep si ss w) : w.cell? ⟨bb, 1, none⟩ = some (.bool false) := by
  obtain ⟨f, oi, wi, fi, os, ws, fs, hF, hB, hI, hS, h0, h1, h2, h3, h12, h39, hN, li, ls, ha, hb⟩ := h.ex
  rw [hB.cell (by omega), h1]
theorem BSt.froz (h : BSt a b bb C turn deep si ss w) (i : Nat) : w.frozen? ⟨bb, i, none⟩ = false := by
  obtain ⟨f, oi, wi, fi, os, ws, fs, hF, hB, hI, hS, h0, h1, h2, h3, h12, h39, hN, li, ls, ha, hb⟩ := h.ex
  exact hB.froz i
theorem BSt.deeper (h : BSt a b bb C turn deep si ss w) (d : Nat) : BSt a b bb C turn d si ss (w.setCell ⟨bb, 3, none⟩ (.int .i64 (d : Nat))) ∧ BFr C w C (w.setCell ⟨bb, 3, none⟩ (.int .i64 (d : Nat))) := by
  obtain ⟨f, oi, wi, fi, os, ws, fs, hF, hB, hI, hS, h0, h1, h2, h3, h12, h39, hN, li, ls, ha, hb⟩ := h.ex
  obtain ⟨f1, i1, s1, r1⟩ := BSt.upd_ (i := 3) (v := .int .i64 (d : Nat)) (f' := upd f 3 (.int .i64 (d : Nat))) hF hB hI hS (fun j h _ => upd_other _ _ (by omega)) (fun j h _ => upd_other _ _ (by omega))
  exact ⟨⟨_, oi, wi, fi, os, ws, fs, f1, hB.put (by omega) _, i1, s1, (upd_other _ _ (by first | decide | nofun)).trans h0, (upd_other _ _ (by first | decide | nofun)).trans h1, (upd_other _ _ (by first | decide | nofun)).trans h2, upd_same _ _ _, (upd_other _ _ (by first | decide | nofun)).trans h12, (upd_other _ _ (by first | decide | nofun)).trans h39, fun i hi hc hm => (upd_other _ _ (by omega)).trans (hN i hi hc hm), li, ls, ha, hb⟩, r1⟩
theorem BSt.turned_up (h : BSt a b bb C turn deep si ss w) : BSt a b bb C (turn + 1) deep si ss (w.setCell ⟨bb, 2, none⟩ (.int .i64 ((turn : Int) + 1))) ∧ BFr C w C (w.setCell ⟨bb, 2, none⟩ (.int .i64 ((turn : Int) + 1))) := by
  obtain ⟨f, oi, wi, fi, os, ws, fs, hF, hB, hI, hS, h0, h1, h2, h3, h12, h39, hN, li, ls, ha, hb⟩ := h.ex
  obtain ⟨f1, i1, s1, r1⟩ := BSt.upd_ (i := 2) (v := .int .i64 ((turn : Int) + 1)) (f' := upd f 2 (.int .i64 ((turn : Int) + 1))) hF hB hI hS (fun j h _ => upd_other _ _ (by omega)) (fun j h _ => upd_other _ _ (by omega))
  exact ⟨⟨_, oi, wi, fi, os, ws, fs, f1, hB.put (by omega) _, i1, s1, (upd_other _ _ (by first | decide | nofun)).trans h0, (upd_other _ _ (by first | decide | nofun)).trans h1, (upd_same _ _ _).trans (by simp), (upd_other _ _ (by first | decide | nofun)).trans h3, (upd_other _ _ (by first | decide | nofun)).trans h12, (upd_other _ _ (by first | decide | nofun)).trans h39, fun i hi hc hm => (upd_other _ _ (by omega)).trans (hN i hi hc hm), li, ls, ha, hb⟩, r1⟩
theorem BSt.turned {w' : World} (h : BSt a b bb C turn deep si ss w) (ht : Turned [] w w') : BSt a b bb C turn deep si ss w' ∧ BFr C w C w' := by
  obtain ⟨f, oi, wi, fi, os, ws, fs, hF, hB, hI, hS, h0, h1, h2, h3, h12, h39, hN, li, ls, ha, hb⟩ := h.ex
  have hK : KFr 9 bb C w C w' := KFr.of (S := fun _ => False) (Stp.of ht (by simp)) (fun _ h => h.elim)
  have k1 : Keeps kcInts.κ C w C w' := Keeps.of hK hF (by first | decide | nofun) (by first | decide | nofun)
  have k2 : Keeps kcSlots.κ C w C w' := Keeps.of hK hF (by first | decide | nofun) (by first | decide | nofun)
  exact ⟨⟨f, oi, wi, fi, os, ws, fs, hF.of ht, hB.keep ht (by simp), ⟨k1.out hI.1 (fun _ _ _ => rfl), k1.rows hI.2⟩, ⟨k2.out hS.1 (fun _ _ _ => rfl), k2.rows hS.2⟩, h0, h1, h2, h3, h12, h39, hN, li, ls, ha, hb⟩, BFr.of hK hF⟩
set_option maxRecDepth 100000 in
set_option maxHeartbeats 1600000 in
theorem bDone (h : BSt true true bb C turn 1 si ss w) (hsi : si ≤ 40000) (hss : ss ≤ 40000) (htn : turn ≤ 1000000) : Calls Tryz.prog 94 #[.pointer (some ⟨bb, 0, none⟩)] w fun e w' => e = .returned (.tuple #[]) ∧ ∃ C', BSt true true bb C' (turn + 1) 0 si ss w' ∧ BFr C w C' w' := by
  have c3 : w.cell? ⟨bb, 3, none⟩ = some (.int .i64 1) := h.cell3
  have z3 := h.froz 3
  have HS : Hid (BSt true true bb C turn 0 si ss (w.setCell ⟨bb, 3, none⟩ (.int .i64 0))) := (h.deeper 0).1
  have HF : Hid (BFr C w C (w.setCell ⟨bb, 3, none⟩ (.int .i64 0))) := (h.deeper 0).2
  clear h
  go_enter Tryz.func94, Tryz.ntmps94
  go_wp2_with (first
    | (go_at_call 130; refine (bMarks HS.out hsi hss).mono ?_; clear HS; rintro e wx ⟨rfl, CX, HS1, HF1⟩; have HS : Hid _ := HS1; have HF2 : Hid _ := HF.out.trans HF1; clear HS1 HF1 HF; have HF := HF2; clear HF2 c3 z3)
    | (go_at_call 131; refine (bGrows HS.out hsi hss).mono ?_; clear HS; rintro e wx ⟨rfl, CX, HS1, HF1⟩; have c2 := HS1.cell2; have z2 := HS1.froz 2; have HS : Hid _ := HS1.turned_up; have HF2 : Hid _ := HF.out.trans HF1; clear HS1 HF1 HF; have HF := HF2; clear HF2))
  refine bodyPost_end (results_none rfl _ _ _) rfl ⟨rfl, _, HS.out.1, HF.out.trans HS.out.2⟩
theorem fresh_id (l : List Nat) : ∃ n, ∀ x ∈ l, x < n := by
  induction l with
  | nil => exact ⟨0, by simp⟩
  | cons y l ih =>
    obtain ⟨n, hn⟩ := ih
    refine ⟨n + y + 1, fun x hx => ?_⟩
    rcases List.mem_cons.1 hx with rfl | hx
    · omega
    · have := hn x hx
      omega
/-- The list's block is the book's from now on. -/
def lend (C : Own) (κ id : Nat) (l : Value) : Own := fun g => if l.ownBlock = some g then some (κ, .lst id) else C g
theorem lend_keeps {κ k id : Nat} {l : Value} (hl : ∀ g, l.ownBlock = some g → C g = none) : Keeps κ C w (lend C k id l) w := fun g t hg => ⟨rfl, by
  unfold lend
  rw [if_neg]
  · exact hg
  · intro e
    rw [hl g e] at hg
    cases hg⟩
theorem lend_fit {κ id e sz n : Nat} {l : Value} {xs : List Value} (hF : Fit C w bb) (hr : w.ownsRow 0 e sz l n xs) (hl : ∀ g, l.ownBlock = some g → C g = none) : Fit (lend C κ id l) w bb := ⟨fun g hg => by
  unfold lend at hg
  by_cases e : l.ownBlock = some g
  · obtain ⟨cur, hc⟩ := Row.obj hr e
    exact lt_of_heap hc
  · rw [if_neg e] at hg
    exact hF.dom g hg, by
  unfold lend
  rw [if_neg]
  · exact hF.bk
  · intro e
    have := hl bb e
    rw [hF.bk] at this
    cases this⟩
theorem lend_has {κ id : Nat} {l : Value} : Has (lend C κ id l) κ (.lst id) l := fun g hg => by
  unfold lend
  rw [if_pos hg]
set_option maxRecDepth 100000 in
set_option maxHeartbeats 1600000 in
theorem bInts {l : Value} {n : Nat} {zs : List Int} {mark : Int} (h : BSt true true bb C turn 0 si ss w) (hsi : si ≤ 39000) (hss : ss ≤ 39000) (htn : turn ≤ 1000000) (hl : IRow w 3 1 l n zs) (hn : n ≤ 4500) (hlb : ∀ g, l.ownBlock = some g → C g = none) (hmk : small mark) :
    Calls Tryz.prog 41 #[.pointer (some ⟨bb, 0, none⟩), l, .int .i64 mark] w fun e w' => e = .returned (.tuple #[]) ∧ ∃ C' id, BSt true true bb C' (turn + 1) 0 (si + 1) ss w' ∧ BFr (lend C 1 id l) w C' w' := by
  obtain ⟨f, oi, wi, fi, os, ws, fs, hF, hB, hI, hS, h0, h1, h2, h3, h12, h39, hN, li, ls, ha, hb⟩ := h.ex
  obtain rfl := ha rfl
  obtain rfl := hb rfl
  simp only [List.length_nil] at li ls
  obtain ⟨id, hid⟩ := fresh_id (wi.map (·.id) ++ oi.map (·.id))
  have k1 : Keeps kcInts.κ C w (lend C 1 id l) w := lend_keeps hlb
  have k2 : Keeps kcSlots.κ C w (lend C 1 id l) w := lend_keeps hlb
  have hF1 : Fit (lend C 1 id l) w bb := lend_fit hF hl hlb
  have hI1 : FullInts (lend C 1 id l) w f oi wi [] := ⟨k1.out hI.1 (fun _ _ _ => rfl), k1.rows hI.2⟩
  have hS1 : FullSlots (lend C 1 id l) w f os ws [] := ⟨k2.out hS.1 (fun _ _ _ => rfl), k2.rows hS.2⟩
  refine cIntsKeep (R := fun e w' => e = .returned (.tuple #[]) ∧ ∃ C' id, BSt true true bb C' (turn + 1) 0 (si + 1) ss w' ∧ BFr (lend C 1 id l) w C' w') hF1 hB hI1 h0 h2 h3 h12 (by omega) (by omega) (by omega) (by omega) (by omega) (by omega) (by omega) hl hn lend_has (fun q hq e => by
    have := hid q.id (List.mem_append.2 (.inl (List.mem_map.2 ⟨q, hq, rfl⟩)))
    omega) (fun q hq e => by
    have := hid q.id (List.mem_append.2 (.inr (List.mem_map.2 ⟨q, hq, rfl⟩)))
    omega) hmk ?_
  intro w' nt hP
  obtain ⟨C', f', hF', hB', hP', hSt, h3', h8', hff⟩ := hP.ex
  have hK : KFr 1 bb (lend C 1 id l) w C' w' := KFr.of hSt (fun x h => h.1)
  have kp : Keeps kcSlots.κ (lend C 1 id l) w C' w' := Keeps.of hK hF1 (by first | decide | nofun) (by first | decide | nofun)
  have hOth : FullSlots C' w' f' os ws [] := ⟨kp.out hS1.1 (fun i h1 h2 => hff i (by have : 31 ≤ i := h1; have : i < 39 := h2; omega) (by have : 31 ≤ i := h1; have : i < 39 := h2; omega) (by have : 31 ≤ i := h1; have : i < 39 := h2; omega) (by have : 31 ≤ i := h1; have : i < 39 := h2; omega) (by have : 31 ≤ i := h1; have : i < 39 := h2; omega) (by have : 31 ≤ i := h1; have : i < 39 := h2; omega)), kp.rows hS1.2⟩
  have hst : BSt true true bb C' turn 1 (si + 1) ss w' := by
    refine ⟨f', _, wi ++ [_], [], os, ws, [], hF', hB', hP', hOth, (hff 0 (by omega) (by omega) (by omega) (by omega) (by omega) (by omega)).trans h0, (hff 1 (by omega) (by omega) (by omega) (by omega) (by omega) (by omega)).trans h1, (hff 2 (by omega) (by omega) (by omega) (by omega) (by omega) (by omega)).trans h2, by rw [h3']; rfl, by rw [h8']; simp, (hff 39 (by omega) (by omega) (by omega) (by omega) (by omega) (by omega)).trans h39, fun i hi hc hm => (hff i (by omega) (by omega) (by omega) (by omega) (by omega) (by omega)).trans (hN i hi hc hm), ?_, ?_, fun _ => rfl, fun _ => rfl⟩
    · simp only [List.length_append, List.length_cons, List.length_nil]
      omega
    · simp only [List.length_nil]
      omega
  refine (bDone hst (by omega) (by omega) htn).mono ?_
  rintro e w2 ⟨rfl, C2, hs2, hr2⟩
  exact ⟨rfl, rfl, C2, id, hs2, (BFr.of hK hF1).trans hr2⟩
set_option maxRecDepth 100000 in
set_option maxHeartbeats 1600000 in
theorem bSlots {l : Value} {n : Nat} {zs : List Int} {mark : Int} (h : BSt true true bb C turn 0 si ss w) (hsi : si ≤ 39000) (hss : ss ≤ 39000) (htn : turn ≤ 1000000) (hl : IRow w 64 7 l n zs) (hn : n ≤ 4500) (hlb : ∀ g, l.ownBlock = some g → C g = none) (hmk : small mark) :
    Calls Tryz.prog 40 #[.pointer (some ⟨bb, 0, none⟩), l, .int .i64 mark] w fun e w' => e = .returned (.tuple #[]) ∧ ∃ C' id, BSt true true bb C' (turn + 1) 0 si (ss + 1) w' ∧ BFr (lend C 2 id l) w C' w' := by
  obtain ⟨f, oi, wi, fi, os, ws, fs, hF, hB, hI, hS, h0, h1, h2, h3, h12, h39, hN, li, ls, ha, hb⟩ := h.ex
  obtain rfl := ha rfl
  obtain rfl := hb rfl
  simp only [List.length_nil] at li ls
  obtain ⟨id, hid⟩ := fresh_id (ws.map (·.id) ++ os.map (·.id))
  have k1 : Keeps kcInts.κ C w (lend C 2 id l) w := lend_keeps hlb
  have k2 : Keeps kcSlots.κ C w (lend C 2 id l) w := lend_keeps hlb
  have hF1 : Fit (lend C 2 id l) w bb := lend_fit hF hl hlb
  have hI1 : FullInts (lend C 2 id l) w f oi wi [] := ⟨k1.out hI.1 (fun _ _ _ => rfl), k1.rows hI.2⟩
  have hS1 : FullSlots (lend C 2 id l) w f os ws [] := ⟨k2.out hS.1 (fun _ _ _ => rfl), k2.rows hS.2⟩
  refine cSlotsKeep (R := fun e w' => e = .returned (.tuple #[]) ∧ ∃ C' id, BSt true true bb C' (turn + 1) 0 si (ss + 1) w' ∧ BFr (lend C 2 id l) w C' w') hF1 hB hS1 h0 h2 h3 h39 (by omega) (by omega) (by omega) (by omega) (by omega) (by omega) (by omega) hl hn lend_has (fun q hq e => by
    have := hid q.id (List.mem_append.2 (.inl (List.mem_map.2 ⟨q, hq, rfl⟩)))
    omega) (fun q hq e => by
    have := hid q.id (List.mem_append.2 (.inr (List.mem_map.2 ⟨q, hq, rfl⟩)))
    omega) hmk ?_
  intro w' nt hP
  obtain ⟨C', f', hF', hB', hP', hSt, h3', h8', hff⟩ := hP.ex
  have hK : KFr 2 bb (lend C 2 id l) w C' w' := KFr.of hSt (fun x h => h.1)
  have kp : Keeps kcInts.κ (lend C 2 id l) w C' w' := Keeps.of hK hF1 (by first | decide | nofun) (by first | decide | nofun)
  have hOth : FullInts C' w' f' oi wi [] := ⟨kp.out hI1.1 (fun i h1 h2 => hff i (by have : 4 ≤ i := h1; have : i < 12 := h2; omega) (by have : 4 ≤ i := h1; have : i < 12 := h2; omega) (by have : 4 ≤ i := h1; have : i < 12 := h2; omega) (by have : 4 ≤ i := h1; have : i < 12 := h2; omega) (by have : 4 ≤ i := h1; have : i < 12 := h2; omega) (by have : 4 ≤ i := h1; have : i < 12 := h2; omega)), kp.rows hI1.2⟩
  have hst : BSt true true bb C' turn 1 si (ss + 1) w' := by
    refine ⟨f', oi, wi, [], _, ws ++ [_], [], hF', hB', hOth, hP', (hff 0 (by omega) (by omega) (by omega) (by omega) (by omega) (by omega)).trans h0, (hff 1 (by omega) (by omega) (by omega) (by omega) (by omega) (by omega)).trans h1, (hff 2 (by omega) (by omega) (by omega) (by omega) (by omega) (by omega)).trans h2, by rw [h3']; rfl, (hff 12 (by omega) (by omega) (by omega) (by omega) (by omega) (by omega)).trans h12, by rw [h8']; simp, fun i hi hc hm => (hff i (by omega) (by omega) (by omega) (by omega) (by omega) (by omega)).trans (hN i hi hc hm), ?_, ?_, fun _ => rfl, fun _ => rfl⟩
    · simp only [List.length_nil]
      omega
    · simp only [List.length_append, List.length_cons, List.length_nil]
      omega
  refine (bDone hst (by omega) (by omega) htn).mono ?_
  rintro e w2 ⟨rfl, C2, hs2, hr2⟩
  exact ⟨rfl, rfl, C2, id, hs2, (BFr.of hK hF1).trans hr2⟩
theorem bHoldInts (h : BSt a b bb C turn deep si ss w) (hsi : si ≤ 40000) : Calls Tryz.prog 42 #[.pointer (some ⟨bb, 0, none⟩)] w fun e w' => e = .returned (.bool true) ∧ Turned [] w w' := by
  obtain ⟨f, oi, wi, fi, os, ws, fs, hF, hB, hI, hS, h0, h1, h2, h3, h12, h39, hN, li, ls, ha, hb⟩ := h.ex
  refine cHoldInts (ps := oi) (qs := wi.map (fun q => ⟨q.l, q.c, q.n, q.zs, q.id⟩)) hB ?_ ?_ ?_ (by omega) ?_ ?_ ?_ (by simp; omega)
  · have := hI.1.rO.1; simpa using this
  · have := hI.1.rT.1; simpa using this
  · intro q hq
    obtain ⟨p1, p2, p3, -⟩ := hI.2.pO q hq
    exact ⟨p1, p2, p3⟩
  · have := hI.1.rW.1; simpa [Function.comp_def] using this
  · have := hI.1.rN.1; simpa [Function.comp_def] using this
  · intro q hq
    obtain ⟨x, hx', rfl⟩ := List.mem_map.1 hq
    obtain ⟨p1, p2, p3, -⟩ := hI.2.pW x hx'
    exact ⟨p1, p2, by show x.n ≤ 5000; omega⟩
theorem bHoldSlots (h : BSt a b bb C turn deep si ss w) (hss : ss ≤ 40000) : Calls Tryz.prog 45 #[.pointer (some ⟨bb, 0, none⟩)] w fun e w' => e = .returned (.bool true) ∧ Turned [] w w' := by
  obtain ⟨f, oi, wi, fi, os, ws, fs, hF, hB, hI, hS, h0, h1, h2, h3, h12, h39, hN, li, ls, ha, hb⟩ := h.ex
  refine cHoldSlots (ps := os) (qs := ws.map (fun q => ⟨q.l, q.c, q.n, q.zs, q.id⟩)) hB ?_ ?_ ?_ (by omega) ?_ ?_ ?_ (by simp; omega)
  · have := hS.1.rO.1; simpa using this
  · have := hS.1.rT.1; simpa using this
  · intro q hq
    obtain ⟨p1, p2, p3, -⟩ := hS.2.pO q hq
    exact ⟨p1, p2, p3⟩
  · have := hS.1.rW.1; simpa [Function.comp_def] using this
  · have := hS.1.rN.1; simpa [Function.comp_def] using this
  · intro q hq
    obtain ⟨x, hx', rfl⟩ := List.mem_map.1 hq
    obtain ⟨p1, p2, p3, -⟩ := hS.2.pW x hx'
    exact ⟨p1, p2, by show x.n ≤ 5000; omega⟩
set_option maxRecDepth 100000 in
set_option maxHeartbeats 1600000 in
theorem bHold (h : BSt a b bb C turn deep si ss w) (hsi : si ≤ 40000) (hss : ss ≤ 40000) : Calls Tryz.prog 8 #[.pointer (some ⟨bb, 0, none⟩)] w fun e w' => e = .returned (.bool true) ∧ BSt a b bb C turn deep si ss w' ∧ Turned [] w w' := by
  have c1 := h.cell1
  have HS : Hid _ := h
  have HT : Hid _ := Turned.refl [] w
  clear h
  go_enter Tryz.func8, Tryz.ntmps8
  go_wp2_with (first
    | (go_at_call 42; refine (bHoldInts HS.out hsi).mono ?_; rintro e wx ⟨rfl, HT1⟩; have HS1 := (HS.out.turned HT1).1; clear HS; have HS : Hid _ := HS1; have HT2 := HT.out.trans HT1; clear HS1 HT HT1; have HT : Hid _ := HT2; clear HT2)
    | (go_at_call 43; refine (bHoldTexts HS.out).mono ?_; rintro e wx ⟨rfl, rfl⟩)
    | (go_at_call 44; refine (bHoldPairs HS.out).mono ?_; rintro e wx ⟨rfl, rfl⟩)
    | (go_at_call 45; refine (bHoldSlots HS.out hss).mono ?_; rintro e wx ⟨rfl, HT1⟩; have HS1 := (HS.out.turned HT1).1; clear HS; have HS : Hid _ := HS1; have HT2 := HT.out.trans HT1; clear HS1 HT HT1; have HT : Hid _ := HT2; clear HT2)
    | (go_at_call 46; refine (bHoldChanges HS.out).mono ?_; rintro e wx ⟨rfl, rfl⟩)
    | (go_at_call 47; refine (bHoldOpens HS.out).mono ?_; rintro e wx ⟨rfl, rfl⟩)
    | (go_at_call 48; refine (bHoldLists HS.out).mono ?_; rintro e wx ⟨rfl, rfl⟩)
    | (go_at_call 49; refine (bHoldAnswers HS.out).mono ?_; rintro e wx ⟨rfl, rfl⟩)
    | (go_at_call 50; refine (bHoldAnswerLists HS.out).mono ?_; rintro e wx ⟨rfl, rfl⟩)
    | (go_at_call 51; refine (bHoldCalls HS.out).mono ?_; rintro e wx ⟨rfl, rfl⟩)
    | (go_at_call 52; refine (bHoldCallLists HS.out).mono ?_; rintro e wx ⟨rfl, rfl⟩))
  go_ret
  exact ⟨rfl, HS.out, HT.out⟩
end
end Go.Proofs.YtjbhnpofdafmbaaGreatDoor
