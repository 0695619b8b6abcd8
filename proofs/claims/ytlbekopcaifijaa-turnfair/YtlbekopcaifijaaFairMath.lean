/-
  Behind the last turn the picks go round and round: plain mathematics.
-/
import Derived.Test.YtlbekopcaifijaaMath
namespace Go.Proofs.Ytlbekopcaifijaa
/-- Who stands i places behind place s, round and round. -/
def ring (l : List Nat) (s i : Nat) : Nat := l.getD ((s + i) % l.length) 0
theorem ring_at {l : List Nat} (hl : l ≠ []) (s i : Nat) : ∃ h : (s + i) % l.length < l.length, ring l s i = l[(s + i) % l.length]'h := by
  have hp : 0 < l.length := List.length_pos_iff.2 hl
  have h := Nat.mod_lt (s + i) hp
  exact ⟨h, by unfold ring; rw [List.getD_eq_getElem?_getD, List.getElem?_eq_getElem h]; rfl⟩
theorem ring_mem {l : List Nat} (hl : l ≠ []) (s i : Nat) : ring l s i ∈ l := by
  obtain ⟨h, e⟩ := ring_at hl s i
  rw [e]; exact List.getElem_mem _
theorem ring_start {l : List Nat} (hl : l ≠ []) (last : Int) : ∃ s, nextV l last = ring l s 0 := by
  obtain ⟨s, hs, e⟩ := List.getElem_of_mem (next_mem hl last)
  refine ⟨s, ?_⟩
  unfold ring
  rw [Nat.add_zero, Nat.mod_eq_of_lt hs, List.getD_eq_getElem?_getD, List.getElem?_eq_getElem hs, ← e]; rfl
theorem sorted_at {l : List Nat} (h : l.Pairwise (· < ·)) {i j : Nat} (hi : i < l.length) (hj : j < l.length) (hij : i < j) : l[i]'hi < l[j]'hj :=
  List.pairwise_iff_getElem.1 h i j hi hj hij
theorem ring_next {l : List Nat} (hl : l ≠ []) (hs : l.Pairwise (· < ·)) (s i : Nat) : nextV l ((ring l s i : Nat) : Int) = ring l s (i + 1) := by
  have hp : 0 < l.length := List.length_pos_iff.2 hl
  obtain ⟨h1, e1⟩ := ring_at hl s i
  obtain ⟨h2, e2⟩ := ring_at hl s (i + 1)
  rw [e1, e2]
  generalize hq : (s + i) % l.length = q at *
  have h3 : (s + (i + 1)) % l.length = (q + 1) % l.length := by rw [← hq, ← Nat.add_assoc, Nat.mod_add_mod]
  by_cases hlast : q + 1 < l.length
  · have h4 : (s + (i + 1)) % l.length = q + 1 := by rw [h3, Nat.mod_eq_of_lt hlast]
    have h5 := find_front (l := l) (k := q + 1) (last := ((l[q]'h1 : Nat) : Int)) hlast (fun j hj hjq => by
      by_cases e : j = q
      · subst e; exact Int.le_refl _
      · have := sorted_at hs hj h1 (by omega); omega) (by have := sorted_at hs h1 hlast (by omega); omega)
    rw [h5]
    congr 1
    exact h4.symm
  · have h4 : (s + (i + 1)) % l.length = 0 := by
      rw [h3, show q + 1 = l.length by omega, Nat.mod_self]
    have h5 := find_none (l := l) (last := ((l[q]'h1 : Nat) : Int)) (fun j hj => by
      by_cases e : j = q
      · subst e; exact Int.le_refl _
      · have := sorted_at hs hj h1 (by omega); omega)
    rw [h5]
    have h6 : l.headD 0 = l[0]'hp := by cases l with | nil => exact absurd rfl hl | cons a r => rfl
    rw [h6]
    congr 1
    exact h4.symm
theorem ring_inj {l : List Nat} (hl : l ≠ []) (hs : l.Pairwise (· < ·)) (s : Nat) {i j : Nat} (hi : i < l.length) (hj : j < l.length) (h : ring l s i = ring l s j) : i = j := by
  obtain ⟨h1, e1⟩ := ring_at hl s i
  obtain ⟨h2, e2⟩ := ring_at hl s j
  rw [e1, e2] at h
  have hq : (s + i) % l.length = (s + j) % l.length := by
    rcases Nat.lt_trichotomy ((s + i) % l.length) ((s + j) % l.length) with h3 | h3 | h3
    · have := sorted_at hs h1 h2 h3; omega
    · exact h3
    · have := sorted_at hs h2 h1 h3; omega
  have e3 := Nat.div_add_mod (s + i) l.length
  have e4 := Nat.div_add_mod (s + j) l.length
  rw [hq] at e3
  generalize (s + i) / l.length = a at *
  generalize (s + j) / l.length = b at *
  generalize (s + j) % l.length = c at *
  rcases Nat.lt_trichotomy a b with h3 | h3 | h3
  · have := Nat.mul_le_mul_left l.length (show a + 1 ≤ b from h3)
    rw [Nat.mul_add, Nat.mul_one] at this; omega
  · subst h3; omega
  · have := Nat.mul_le_mul_left l.length (show b + 1 ≤ a from h3)
    rw [Nat.mul_add, Nat.mul_one] at this; omega
/-- Whether x was met among the first i of the ring. -/
def metV (l : List Nat) (s i x : Nat) : Bool := (List.range i).any fun q => ring l s q == x
theorem met_zero (l : List Nat) (s x : Nat) : metV l s 0 x = false := rfl
theorem met_new {l : List Nat} (hl : l ≠ []) (hs : l.Pairwise (· < ·)) (s : Nat) {i : Nat} (hi : i < l.length) : metV l s i (ring l s i) = false := by
  unfold metV
  rw [List.any_eq_false]
  intro q hq
  have hq' := List.mem_range.1 hq
  simp only [beq_iff_eq]
  intro e
  have := ring_inj hl hs s (by omega) hi e
  omega
theorem met_succ (l : List Nat) (s i x : Nat) : metV l s (i + 1) x = (if x = ring l s i then true else metV l s i x) := by
  unfold metV
  rw [List.range_succ, List.any_append]
  simp only [List.any_cons, List.any_nil, Bool.or_false]
  by_cases e : x = ring l s i
  · subst e; simp
  · rw [if_neg e, show (ring l s i == x) = false from beq_eq_false_iff_ne.2 (fun h => e h.symm), Bool.or_false]
theorem rdy_zero_iff {B : Nat → Bool} {n : Nat} : rdyN B n = [] ↔ (rdyN B n).length = 0 := by simp
end Go.Proofs.Ytlbekopcaifijaa
