/-
  Two pairs of orders beside one another: the first ones and their copies; neither pair touches the other one.
-/
import Derived.Test.YtlbekopcaifijaaCopy
namespace Go.Proofs.Ytlbekopcaifijaa
open Go.RowKit
structure Quad (W w : World) (bo go br gr : Nat) (ts : List Int) (last : Int) (bp gp bs gs : Nat) (ts2 : List Int) (last2 : Int) : Prop where
  a : Duo W w bo go br gr ts last
  b : Duo W w bp gp bs gs ts2 last2
  n : bo ≠ bp ∧ bo ≠ bs ∧ br ≠ bp ∧ br ≠ bs
  g1 : ts ≠ [] → go ≠ bp ∧ go ≠ bs ∧ gr ≠ bp ∧ gr ≠ bs
  g2 : ts2 ≠ [] → gp ≠ bo ∧ gp ≠ br ∧ gs ≠ bo ∧ gs ≠ br
section
variable {W w w' wa w2 : World} {bo go br gr bp gp bs gs : Nat} {ts ts2 : List Int} {last last2 : Int}
theorem Quad.swap (h : Quad W w bo go br gr ts last bp gp bs gs ts2 last2) : Quad W w bp gp bs gs ts2 last2 bo go br gr ts last :=
  ⟨h.b, h.a, ⟨fun e => h.n.1 e.symm, fun e => h.n.2.2.1 e.symm, fun e => h.n.2.1 e.symm, fun e => h.n.2.2.2 e.symm⟩, h.g2, h.g1⟩
theorem Quad.keepB (h : Quad W w bo go br gr ts last bp gp bs gs ts2 last2) (k : Below w.heap.size w w') : Quad W w' bo go br gr ts last bp gp bs gs ts2 last2 :=
  ⟨h.a.keepB k, h.b.keepB k, h.n, h.g1, h.g2⟩
theorem Ord.keepP {T : TypeId} {b g : Nat} {x : Int} (h : Ord T w b g ts x) (hs : w.heap.size ≤ w'.heap.size) (hb : w'.heap[b]? = w.heap[b]?) (hg : ts ≠ [] → w'.heap[g]? = w.heap[g]?) : Ord T w' b g ts x := by
  obtain ⟨h1, h2, ao, cap, h3, h4, h5, h6, h7, h8⟩ := h
  refine ⟨h1, Nat.lt_of_lt_of_le h2 hs, ao, cap, hb.trans h3, h4, h5, h6, h7, ?_⟩
  by_cases e : ts = []
  · subst e; exact .inl rfl
  · rcases h8 with h8 | ⟨p, off, hp, hc⟩
    · exact .inl h8
    · refine .inr ⟨p, off, hp, fun j u hu => ?_⟩
      rw [World.cell?_of_block (w := w) (a := ⟨p, off + j, none⟩) (by rw [h7 e p off hp]; exact hg e)]
      exact hc j u hu
theorem quad_went (h : Quad W w bo go br gr ts last bp gp bs gs ts2 last2) (ha : Below w.heap.size w wa) {l : List Nat} (hw : Went W wa w2 bo go br gr l ts last) :
    Quad W w2 bo go br gr (tsAft l ts) (lastAft l ts last) bp gp bs gs ts2 last2 := by
  have h' := h.keepB ha
  obtain ⟨n1, n2, n3, n4⟩ := h.n
  refine ⟨hw.duo, ⟨hw.duo.below, ?_, ?_, h.b.newO, h.b.newR, h.b.ne, h.b.sep⟩, h.n, aft_sep h.g1, h.g2⟩
  · exact h'.b.o.keepP hw.size (hw.block bp h'.b.o.lt (fun e => n1 e.symm) (fun e => n3 e.symm)) (fun e => hw.block gp (h'.b.o.glt e) (h.g2 e).1 (h.g2 e).2.1)
  · exact h'.b.r.keepP hw.size (hw.block bs h'.b.r.lt (fun e => n2 e.symm) (fun e => n4 e.symm)) (fun e => hw.block gs (h'.b.r.glt e) (h.g2 e).2.2.1 (h.g2 e).2.2.2)
theorem duo_copy (h : Duo W w bo go br gr ts last) (hn : ts.length ≤ 20000) :
    Calls Try.prog 14 #[.pointer (some ⟨bo, 0, none⟩)] w fun e w1 => ∃ bp gp, e = .returned (.pointer (some ⟨bp, 0, none⟩)) ∧
      Calls Try.prog 15 #[.pointer (some ⟨br, 0, none⟩)] w1 fun e w2 => ∃ bs gs, e = .returned (.pointer (some ⟨bs, 0, none⟩)) ∧ Quad W w2 bo go br gr ts last bp gp bs gs ts last := by
  have hs := h.size
  have ho := h.o.lt
  have hr := h.r.lt
  refine (cCopy w bo go ts _ h.o hn).mono ?_
  rintro e w1 ⟨bp, gp, rfl, hbp, hgp, hP, hB⟩
  refine ⟨bp, gp, rfl, ?_⟩
  have h1 := h.keepB hB
  have hs1 := hB.size
  have hpl := hP.lt
  refine (cCopyR w1 br gr ts _ h1.r hn).mono ?_
  rintro e w2 ⟨bs, gs, rfl, hbs, hgs, hS, hB2⟩
  refine ⟨bs, gs, rfl, h1.keepB hB2, ⟨(h1.keepB hB2).below, hP.keepB hB2, hS, by omega, by omega, by omega, fun e => ?_⟩, by omega, fun e => ?_, fun e => ?_⟩
  · have := hgp e; have := hgs e; omega
  · have := h.o.glt e; have := h.r.glt e; omega
  · have := hgp e; have := hgs e; omega
end
end Go.Proofs.Ytlbekopcaifijaa
