/-
  What stands behind a fault is not read. (By the verifier; no statement.)
-/
import Derived.Test.YtbnpdfakniebnaaGreatDoorSpMath
import Derived.Test.YtbnpdfakniebnaaGreatDoorSpWord2
namespace Go.Proofs.YtbnpdfakniebnaaGreatDoor
theorem lines_app : ∀ (a cur m : Bs), linesB cur (a ++ 10 :: m) = linesB cur a ++ linesB [] m
  | [], cur, m => by simp [linesB]
  | b :: a, cur, m => by
    rw [List.cons_append, linesB, linesB]
    split
    · rw [lines_app a [] m]; rfl
    · exact lines_app a _ m
theorem lines_count : ∀ (a cur : Bs), (linesB cur a).length = a.count 10 + 1
  | [], cur => by simp [linesB]
  | b :: a, cur => by
    rw [linesB]
    split
    · rename_i h
      subst h
      rw [List.length_cons, lines_count a [], List.count_cons_self]
    · rename_i h
      rw [lines_count a _, List.count_cons_of_ne (by simpa using h)]
theorem reads_app : ∀ (A B : List Bs) (r : RS) (i : Nat) (x : Nat × Nat), RS.reads r i A = .error x → RS.reads r i (A ++ B) = .error x
  | [], _, _, _, _, h => by cases h
  | t :: A, B, r, i, x, h => by
    rw [List.cons_append]
    rw [RS.reads] at h ⊢
    split
    · rename_i hz
      rw [if_pos hz] at h
      exact reads_app A B _ _ x h
    · rename_i hz
      rw [if_neg hz] at h
      exact h
theorem reads_ne : ∀ (A : List Bs) (r : RS) (i : Nat) (x : Nat × Nat), RS.reads r i A = .error x → x.2 ≠ 0
  | [], _, _, _, h => by cases h
  | t :: A, r, i, x, h => by
    rw [RS.reads] at h
    split at h
    · exact reads_ne A _ _ x h
    · rename_i hz
      cases h
      exact hz
theorem parse_ne {t : Bs} {x : Nat × Nat} (h : parseB t = .error x) : x.2 ≠ 0 := by
  unfold parseB at h
  split at h
  · cases h; decide
  · split at h
    · rename_i e he
      cases h
      exact reads_ne _ _ _ _ he
    · split at h
      · cases h; exact (by decide : (224 : Nat) ≠ 0)
      · cases h
theorem behind {t m : Bs} {x : Nat × Nat} (ht : t.length ≤ 30000) (hm : m.length ≤ 30000) (h : parseB t = .error x) (hn : ¬ (x.2 = 224 ∧ x.1 = t.count 10 + 1)) : parseB (t ++ [10] ++ m) = .error x := by
  unfold parseB at h ⊢
  rw [if_neg (by omega)] at h
  rw [if_neg (by simp only [List.length_append, List.length_cons, List.length_nil]; omega), List.append_assoc, List.singleton_append, lines_app]
  split at h
  · rename_i e he
    cases h
    rw [reads_app _ _ _ _ _ he]
  · split at h
    · cases h
      exact absurd ⟨rfl, lines_count t []⟩ hn
    · cases h
end Go.Proofs.YtbnpdfakniebnaaGreatDoor
