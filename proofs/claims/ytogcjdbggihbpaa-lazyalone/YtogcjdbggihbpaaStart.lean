/- From what was laid to the state ahead of the first call. -/
import Derived.Test.YtogcjdbggihbpaaState
namespace Go.Proofs.Ytogcjdbggihbpaa
open Go.RowKit Go.Conc Go.MuLone

def EE (e : Nat → Nat → Nat) (N s k : Nat) : Nat := if s < 10 then e s k else if s = 10 then N + 3 + 2 * k else N + 4 + 2 * k
def sta0 : Sta := ⟨false, false, false, false, false, false, 0, 0, 0⟩
/-- A slice of one pointer a maker, which nothing turns any more. -/
structure RowOf (wB : World) (n : Nat) (E : Nat → Nat → Nat) (v : Value) (s g c : Nat) : Prop where
  eq : v = .slice (some ⟨g, 0, none⟩) n c
  cell : ∀ k, k < n → wB.cell? ⟨g, k, none⟩ = some (.pointer (some ⟨E s k, 0, none⟩))
  ne : ∀ s' k, s' < 12 → k < n → g ≠ E s' k
section
variable {W : World} {B b3 : Nat} {wr wB : World} {n : Nat} {F : Nat → Int} {L : Nat → Bool} {V : Nat → Int} {e : Nat → Nat → Nat} {ob : Nat → Nat → Obj} {vs : Nat → Value} {xs : Nat → List Value} {fv : Value}
theorem EE_lo {N s : Nat} (k : Nat) (h : s < 10) : EE e N s k = e s k := by simp [EE, h]
theorem EE_10 (N k : Nat) : EE e N 10 k = N + 3 + 2 * k := rfl
theorem EE_11 (N k : Nat) : EE e N 11 k = N + 4 + 2 * k := rfl
theorem EE_parts {s : Nat} (N k : Nat) (h : s < 12) : (s < 10 ∧ EE e N s k = e s k) ∨ (s = 10 ∧ EE e N s k = N + 3 + 2 * k) ∨ (s = 11 ∧ EE e N s k = N + 4 + 2 * k) := by
  rcases (by omega : s < 10 ∨ s = 10 ∨ s = 11) with h | rfl | rfl
  · exact .inl ⟨h, EE_lo k h⟩
  · exact .inr (.inl ⟨rfl, rfl⟩)
  · exact .inr (.inr ⟨rfl, rfl⟩)
theorem sl_lt {t : Nat} (h : t < 8) : sl t < 10 := by unfold sl; split <;> (try split) <;> (try split) <;> omega
theorem row_of (hH : Head W B b3 wr n F L V e ob vs xs) (hT : Tbl wr.heap.size n fv wr wB n) (hn : 1 ≤ n) {t : Nat} (ht : t < 8) : ∃ g c, RowOf wB n (EE e wr.heap.size) (vs t) (sl t) g c := by
  have hr := hH.mid.row t
  have hlen := hH.len ht
  rcases hr.2 with ⟨_, h0⟩ | ⟨g, c, cur, hv, hb, hg, hnc, hm, hs, htk⟩
  · omega
  · have hgl := lt_of_heap hg
    refine ⟨g, c, by rw [hv, hlen], fun k hk => ?_, fun s k hs hk he => ?_⟩
    · have hc := hr.cells (g := g) (by rw [hv]; rfl) k (ptr (e (sl t) k)) (by rw [hH.rows t ht]; simp [hk])
      have hadd : (⟨g, 0, none⟩ : Addr).add k = ⟨g, k, none⟩ := by unfold Addr.add; split <;> simp_all
      rw [hadd] at hc
      rw [EE_lo k (sl_lt ht)]
      exact (hT.below.cell (p := ⟨g, k, none⟩) hgl).trans hc
    · rcases EE_parts (e := e) wr.heap.size k hs with ⟨h1, h2⟩ | ⟨h1, h2⟩ | ⟨h1, h2⟩
      · rw [h2] at he
        exact hH.mid.off t s k (.inl ⟨hk, h1⟩) (by rw [hv, he]; rfl)
      · omega
      · omega
theorem st_start (hH : Head W B b3 wr n F L V e ob vs xs) (hT : Tbl wr.heap.size n fv wr wB n) : St wB wB n wr.heap.size (EE e wr.heap.size) F L V (fun _ => sta0) := by
  have hsz := hT.size
  have hlt : ∀ s k, s < 10 → k < n → e s k < wr.heap.size := fun s k hs hk => hH.mid.lt (.inl ⟨hk, hs⟩)
  refine ⟨rfl, rfl, rfl, Nat.le_refl _, fun k hk s hs => ?_, fun s k s' k' hs hs' hk hk' he => ?_, fun s k hs hk => ?_, fun b hb hne => rfl, fun k hk hd => by cases hd⟩
  · rcases EE_parts (e := e) wr.heap.size k hs with ⟨h1, h2⟩ | ⟨h1, h2⟩ | ⟨h1, h2⟩
    · rw [h2]
      have ho := hH.mid.obj s k (.inl ⟨hk, h1⟩)
      have hob := hH.obs k hk
      have key : ob s k = objQ (EE e wr.heap.size) wr.heap.size k (F k) (L k) (V k) sta0 s := by
        rcases (by omega : s = 0 ∨ s = 1 ∨ s = 2 ∨ s = 3 ∨ s = 4 ∨ s = 5 ∨ s = 6 ∨ s = 7 ∨ s = 8 ∨ s = 9) with rfl | rfl | rfl | rfl | rfl | rfl | rfl | rfl | rfl | rfl
        · exact hob.o0
        · exact hob.o1
        · exact hob.o2
        · exact hob.o3
        · exact hob.o4
        · exact hob.o5
        · exact hob.o6
        · exact hob.o7
        · exact hob.o8
        · exact hob.o9
      rw [← key]
      exact (hT.below.block _ (hlt s k h1 hk)).trans ho
    · subst h1; rw [h2]; exact hT.ibox k hk
    · subst h1; rw [h2]; exact hT.once k hk
  · rcases EE_parts (e := e) wr.heap.size k hs with ⟨h1, h2⟩ | ⟨h1, h2⟩ | ⟨h1, h2⟩ <;> rcases EE_parts (e := e) wr.heap.size k' hs' with ⟨h1', h2'⟩ | ⟨h1', h2'⟩ | ⟨h1', h2'⟩ <;> rw [h2, h2'] at he
    · exact hH.mid.inj s k s' k' (.inl ⟨hk, h1⟩) (.inl ⟨hk', h1'⟩) he
    · have := hlt s k h1 hk; omega
    · have := hlt s k h1 hk; omega
    · have := hlt s' k' h1' hk'; omega
    · omega
    · omega
    · have := hlt s' k' h1' hk'; omega
    · omega
    · omega
  · rcases EE_parts (e := e) wr.heap.size k hs with ⟨h1, h2⟩ | ⟨h1, h2⟩ | ⟨h1, h2⟩
    · have := hlt s k h1 hk; omega
    · omega
    · omega
theorem tab_start (hH : Head W B b3 wr n F L V e ob vs xs) (hT : Tbl wr.heap.size n (.func (.func 10) #[] #[.pointer (some ⟨b3, 0, none⟩)]) wr wB n) {g c : Nat} (hR : RowOf wB n (EE e wr.heap.size) (vs 2) 2 g c) : Tab wB n wr.heap.size b3 g c (EE e wr.heap.size) := by
  have hb := lt_of_heap hH.mid.box
  have hlow := hH.mid.low
  have hlt : ∀ s k, s < 10 → k < n → e s k < wr.heap.size := fun s k hs hk => hH.mid.lt (.inl ⟨hk, hs⟩)
  refine ⟨hT.tab, fun k hk => ?_, cell_at hT.fbox 0, ?_, hR.cell, fun s k hs hk => ?_⟩
  · rw [hT.row.cell hk]; simp [hk, EE_11]
  · rw [← hR.eq]
    exact (hT.below.cell (p := ⟨b3, 0, none⟩) hb).trans (cell_at hH.mid.box 0)
  · have hne := hR.ne s k hs hk
    have hbl := hH.mid.bl
    rcases EE_parts (e := e) wr.heap.size k hs with ⟨h1, h2⟩ | ⟨h1, h2⟩ | ⟨h1, h2⟩
    · have h3 := hlt s k h1 hk
      have h4 := hlow s k (.inl ⟨hk, h1⟩)
      rw [h2] at hne ⊢
      exact ⟨by omega, by omega, by omega, by omega, hne⟩
    · rw [h2] at hne ⊢
      exact ⟨by omega, by omega, by omega, by omega, hne⟩
    · rw [h2] at hne ⊢
      exact ⟨by omega, by omega, by omega, by omega, hne⟩
theorem low_start (hH : Head W B b3 wr n F L V e ob vs xs) : ∀ s k, s < 12 → k < n → W.heap.size ≤ EE e wr.heap.size s k := fun s k hs hk => by
  have hw := hH.mid.wb
  have hbl := hH.mid.bl
  have hs2 := hH.mid.below.size
  rcases EE_parts (e := e) wr.heap.size k hs with ⟨h1, h2⟩ | ⟨h1, h2⟩ | ⟨h1, h2⟩
  · have := hH.mid.low s k (.inl ⟨hk, h1⟩); omega
  · omega
  · omega
end
end Go.Proofs.Ytogcjdbggihbpaa
