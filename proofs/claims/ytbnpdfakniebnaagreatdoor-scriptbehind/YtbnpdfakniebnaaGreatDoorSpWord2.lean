/-
  Bounds on a text's lines and words. (By the verifier; no statement.)
-/
import Derived.Test.YtbnpdfakniebnaaGreatDoorSpMath
namespace Go.Proofs.YtbnpdfakniebnaaGreatDoor
theorem fieldsB_ok : ∀ (l cur : Bs), ∀ x ∈ fieldsB cur l, x ≠ [] ∧ x.length ≤ cur.length + l.length
  | [], cur, x, h => by
    rw [fieldsB] at h
    split at h
    · simp at h
    · rename_i hc
      rw [List.mem_singleton] at h
      subst h
      exact ⟨hc, by simp⟩
  | b :: t, cur, x, h => by
    rw [fieldsB] at h
    split at h
    · split at h
      · have := fieldsB_ok t [] x h
        exact ⟨this.1, by simp at this ⊢; omega⟩
      · rename_i hc
        rw [List.mem_cons] at h
        rcases h with rfl | h
        · exact ⟨hc, by simp⟩
        · have := fieldsB_ok t [] x h
          exact ⟨this.1, by simp at this ⊢; omega⟩
    · have := fieldsB_ok t (cur ++ [b]) x h
      exact ⟨this.1, by simp at this ⊢; omega⟩
theorem fieldsB_len : ∀ (l cur : Bs), (fieldsB cur l).length ≤ cur.length + l.length
  | [], cur => by
    rw [fieldsB]
    split
    · simp
    · rename_i hc
      have : 0 < cur.length := by
        rcases Nat.eq_zero_or_pos cur.length with e | e
        · exact absurd (List.length_eq_zero_iff.1 e) hc
        · exact e
      simp
      omega
  | b :: t, cur => by
    rw [fieldsB]
    split
    · have := fieldsB_len t []
      split
      · simp at this ⊢; omega
      · rename_i hc
        have h0 : 0 < cur.length := by
          rcases Nat.eq_zero_or_pos cur.length with e | e
          · exact absurd (List.length_eq_zero_iff.1 e) hc
          · exact e
        simp at this ⊢
        omega
    · have := fieldsB_len t (cur ++ [b])
      simp at this ⊢
      omega
theorem bareB_len (l : Bs) : (bareB l).length ≤ l.length := (List.takeWhile_sublist _).length_le
theorem wordsB_ok {l x : Bs} (h : x ∈ wordsB l) : x ≠ [] ∧ x.length ≤ l.length := by
  have := fieldsB_ok (bareB l) [] x h
  have h2 := bareB_len l
  exact ⟨this.1, by simp at this; omega⟩
theorem wordsB_len (l : Bs) : (wordsB l).length ≤ l.length := by
  have := fieldsB_len (bareB l) []
  have h2 := bareB_len l
  unfold wordsB
  simp at this
  omega
theorem linesB_ok : ∀ (l cur : Bs), (linesB cur l).length ≤ l.length + 1 ∧ linesB cur l ≠ [] ∧ ∀ x ∈ linesB cur l, x.length ≤ cur.length + l.length
  | [], cur => by
    rw [linesB]
    simp
  | b :: t, cur => by
    rw [linesB]
    split
    · have := linesB_ok t []
      refine ⟨by simp; omega, by simp, fun x hx => ?_⟩
      rw [List.mem_cons] at hx
      rcases hx with rfl | hx
      · simp
      · have := this.2.2 x hx
        simp at this ⊢
        omega
    · have := linesB_ok t (cur ++ [b])
      refine ⟨by simp; omega, this.2.1, fun x hx => ?_⟩
      have := this.2.2 x hx
      simp at this ⊢
      omega
end Go.Proofs.YtbnpdfakniebnaaGreatDoor
