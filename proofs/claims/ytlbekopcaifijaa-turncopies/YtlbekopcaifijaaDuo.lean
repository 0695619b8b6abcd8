/-
  Two orders beside one another, the program's and the reference's: they go on alike.
-/
import Derived.Test.YtlbekopcaifijaaPick
import Derived.Test.YtlbekopcaifijaaPickR
import Derived.Test.YtlbekopcaifijaaSmall
namespace Go.Proofs.Ytlbekopcaifijaa
open Go.RowKit
/-- The same memory; draws aside. -/
structure Same (w w' : World) : Prop where
  heap : w'.heap = w.heap
  os : w'.os = w.os
  tape : w'.tape = w.tape
  output : w'.output = w.output
theorem Same.refl (w : World) : Same w w := ⟨rfl, rfl, rfl, rfl⟩
theorem Same.below {w w' : World} (h : Same w w') (B : Nat) : Below B w w' := ⟨h.os, h.tape, h.output, by rw [h.heap]; exact Nat.le_refl _, fun _ _ => by rw [h.heap]⟩
structure Duo (W w : World) (bo go br gr : Nat) (ts : List Int) (last : Int) : Prop where
  below : Below W.heap.size W w
  o : Ord 39 w bo go ts (last + 1)
  r : Ord 41 w br gr ts last
  newO : W.heap.size ≤ bo
  newR : W.heap.size ≤ br
  ne : bo ≠ br
  sep : ts ≠ [] → go ≠ br ∧ gr ≠ bo
section
variable {W w w' : World} {bo go br gr : Nat} {ts : List Int} {last : Int}
theorem Duo.size (h : Duo W w bo go br gr ts last) : W.heap.size ≤ w.heap.size := h.below.size
theorem Duo.keepB (h : Duo W w bo go br gr ts last) (k : Below w.heap.size w w') : Duo W w' bo go br gr ts last :=
  ⟨h.below.trans (k.mono h.size), h.o.keepB k, h.r.keepB k, h.newO, h.newR, h.ne, h.sep⟩
theorem Duo.same (h : Duo W w bo go br gr ts last) (k : Same w w') : Duo W w' bo go br gr ts last := h.keepB (k.below _)
theorem Duo.other (h : Duo W w bo go br gr ts last) {r : Nat} (k : Only r w w') (hr : W.heap.size ≤ r) (h1 : bo ≠ r) (h2 : br ≠ r) (h3 : ts ≠ [] → go ≠ r ∧ gr ≠ r) : Duo W w' bo go br gr ts last :=
  ⟨k.below h.below hr h.size, h.o.keep k h1 (fun e => (h3 e).1), h.r.keep k h2 (fun e => (h3 e).2), h.newO, h.newR, h.ne, h.sep⟩
theorem aft_sep {l : List Nat} {P : Prop} (h : ts ≠ [] → P) : tsAft l ts ≠ [] → P := by
  intro h1; apply h; intro e; subst e; apply h1; unfold tsAft; split <;> rfl
/-- What a pair of picks leaves: both orders alike, and of the rest nothing has turned. -/
structure Went (W w w2 : World) (bo go br gr : Nat) (l : List Nat) (ts : List Int) (last : Int) : Prop where
  duo : Duo W w2 bo go br gr (tsAft l ts) (lastAft l ts last)
  size : w.heap.size ≤ w2.heap.size
  block : ∀ k, k < w.heap.size → k ≠ bo → k ≠ br → w2.heap[k]? = w.heap[k]?
theorem duo_pick (h : Duo W w bo go br gr ts last) {la sa : Option Addr} {n lc sc : Nat} {B : Nat → Bool} (hl : Vals w la (bools B n)) (hs : Vals W sa (bools B n)) (hn : n ≤ 20000) (wx : World) (hx : Same w wx) :
    Calls Try.prog 10 #[.pointer (some ⟨bo, 0, none⟩), .slice la n lc] wx fun e w1 => e = .returned (.int .i64 (pickV (rdyN B n) ts last)) ∧ Below W.heap.size W w1 ∧
      ∀ wy, Same w1 wy → Calls Try.prog 11 #[.pointer (some ⟨br, 0, none⟩), .slice sa n sc] wy fun e w2 => e = .returned (.int .i64 (pickV (rdyN B n) ts last)) ∧ Went W w w2 bo go br gr (rdyN B n) ts last := by
  have hd := h.same hx
  have hb := hx.below w.heap.size
  refine (cPick wx bo go ts last hd.o la n lc B (hl.keepB hb) (by omega)).mono ?_
  rintro e w1 ⟨rfl, ho1, hd1⟩
  refine ⟨rfl, ho1.below hd.below hd.newO hd.size, fun wy hy => ?_⟩
  have hb1 := hy.below w1.heap.size
  have hr1 : Ord 41 wy br gr ts last := (hd.r.keep ho1 (fun e => hd.ne e.symm) (fun e => (hd.sep e).2)).keepB hb1
  have hW1 : Below W.heap.size W w1 := ho1.below hd.below hd.newO hd.size
  have hWy : Below W.heap.size W wy := hW1.trans (hb1.mono hW1.size)
  refine (cPickR wy br gr ts last hr1 sa n sc B (hs.keepB hWy) (by omega)).mono ?_
  rintro e w2 ⟨rfl, ho2, hd2⟩
  refine ⟨rfl, ⟨ho2.below hWy hd.newR hWy.size, ?_, hd2, hd.newO, hd.newR, hd.ne, aft_sep hd.sep⟩, ?_, fun k hk h1 h2 => ?_⟩
  · exact (hd1.keepB hb1).keep ho2 hd.ne (aft_sep fun e => (hd.sep e).1)
  · have e1 := ho1.size; have e2 := ho2.size; have e3 := hb1.size; have e4 := hb.size; omega
  · have e1 := ho1.size; have e3 := hb1.size; have e4 := hb.size
    rw [ho2.block k (by omega) h2, hb1.block k (by omega), ho1.block k (by omega) h1, hb.block k hk]
end
theorem Ord.glt {T : TypeId} {w : World} {b g : Nat} {ts : List Int} {x : Int} (h : Ord T w b g ts x) (hne : ts ≠ []) : g < w.heap.size := by
  obtain ⟨h1, h2, ao, cap, h3, h4, h5, h6, h7, h8⟩ := h
  have hl : 0 < ts.length := List.length_pos_iff.2 hne
  obtain ⟨p, q, e, hc⟩ := h8.int hl
  have := World.block_lt_of_cell? w _ (hc 0 hl)
  rw [h7 hne p q e] at this
  exact this
/-- A row of one's own in block gl: from k on it holds xs. -/
def OwnR (w : World) (e : TypeId) (gl : Nat) (xs : List Value) (k : Nat) : Prop := ∃ N f, w.rowIs gl e N f ∧ xs.length ≤ N ∧ ∀ j u, k ≤ j → xs[j]? = some u → f j = u
section
variable {w w' : World} {e : TypeId} {gl : Nat} {xs : List Value} {k : Nat}
theorem OwnR.lt (h : OwnR w e gl xs k) : gl < w.heap.size := by obtain ⟨N, f, h1, -⟩ := h; exact h1.lt
theorem OwnR.step (h : OwnR w e gl xs k) (v : Value) : OwnR (w.setCell ⟨gl, k, none⟩ v) e gl xs (k + 1) := by
  obtain ⟨N, f, h1, h2, h3⟩ := h
  refine ⟨N, _, h1.set k v, h2, fun j u hj hu => ?_⟩
  show (if j = k then v else f j) = u
  rw [if_neg (by omega), h3 j u (by omega) hu]
theorem OwnR.cell (h : OwnR w e gl xs k) {j : Nat} {u : Value} (hj : k ≤ j) (hu : xs[j]? = some u) : w.cell? ⟨gl, j, none⟩ = some u := by
  obtain ⟨N, f, h1, h2, h3⟩ := h
  have : j < xs.length := (List.getElem?_eq_some_iff.1 hu).1
  rw [h1.cell (by omega), h3 j u hj hu]
theorem OwnR.frozen (h : OwnR w e gl xs k) (j : Nat) : w.frozen? ⟨gl, j, none⟩ = false := by
  obtain ⟨N, f, h1, h2, h3⟩ := h
  exact h1.frozen j
theorem OwnR.of_block (h : OwnR w e gl xs k) (hb : w'.heap[gl]? = w.heap[gl]?) : OwnR w' e gl xs k := by
  obtain ⟨N, f, h1, h2, h3⟩ := h
  exact ⟨N, f, h1.of_block hb, h2, h3⟩
theorem Fresh.own {v : Value} (h : Fresh e w w' v xs) (hne : xs ≠ []) : ∃ gl cap, v = .slice (some ⟨gl, 0, none⟩) xs.length cap ∧ w.heap.size ≤ gl ∧ OwnR w' e gl xs 0 := by
  obtain ⟨ao, cap, g, N, f, rfl, h1, h2, h3, h4⟩ := h.row
  rcases h4 with ⟨_, _, h5⟩ | ⟨rfl, h5, h6, h7⟩
  · exact absurd h5 hne
  · exact ⟨g, cap, rfl, h3, N, f, h5, h6, fun j u _ hu => h7 j u hu⟩
end
end Go.Proofs.Ytlbekopcaifijaa
