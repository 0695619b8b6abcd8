/- A row of records in memory: n of them, of sz cells each. -/
import Derived.Test.YtfebndolnnaiiabMem
namespace Go.Proofs.Ytfebndolnnaiiab
open Go.RowKit
abbrev recObj (T : TypeId) (sz : Nat) (f : Nat → Nat → Value) (n : Nat) : Obj := .cells ((List.range (n * sz)).map fun t => f (t / sz) (t % sz)).toArray T (0, 0)
def upd2 (f : Nat → Nat → Value) (i j : Nat) (v : Value) : Nat → Nat → Value := fun a b => if a = i ∧ b = j then v else f a b
theorem rec_div {sz i j : Nat} (hj : j < sz) : (i * sz + j) / sz = i ∧ (i * sz + j) % sz = j := by
  have h0 : 0 < sz := by omega
  constructor
  · rw [Nat.mul_comm, Nat.mul_add_div h0, Nat.div_eq_of_lt hj]; rfl
  · rw [Nat.mul_comm, Nat.mul_add_mod, Nat.mod_eq_of_lt hj]
theorem rec_lt {sz i j n : Nat} (hi : i < n) (hj : j < sz) : i * sz + j < n * sz := by
  have : (i + 1) * sz ≤ n * sz := Nat.mul_le_mul_right _ hi
  rw [Nat.add_mul] at this
  omega
theorem rec_cell {w : World} {b n sz : Nat} {T : TypeId} {f : Nat → Nat → Value} (h : w.heap[b]? = some (recObj T sz f n)) {i j : Nat} (hi : i < n) (hj : j < sz) : w.cell? ⟨b, i * sz + j, none⟩ = some (f i j) := by
  rw [cell_at h, List.getElem?_toArray, List.getElem?_map, List.getElem?_range (rec_lt hi hj)]
  simp only [Option.map_some, (rec_div (i := i) hj).1, (rec_div (i := i) hj).2]
theorem rec_put {w : World} {b n sz : Nat} {T : TypeId} {f : Nat → Nat → Value} (h : w.heap[b]? = some (recObj T sz f n)) {i j : Nat} (hj : j < sz) (v : Value) : (w.setCell ⟨b, i * sz + j, none⟩ v).heap[b]? = some (recObj T sz (upd2 f i j v) n) := by
  rw [blk_set h]
  congr 2
  apply Array.ext
  · simp
  · intro t h1 h2
    simp only [List.size_toArray, List.length_map, List.length_range] at h2
    by_cases e : i * sz + j = t
    · subst e
      simp [upd2, (rec_div (i := i) hj).1, (rec_div (i := i) hj).2]
    · have e' : ¬ t = i * sz + j := fun x => e x.symm
      have : ¬ (t / sz = i ∧ t % sz = j) := fun ⟨a1, a2⟩ => e (by
        have := Nat.div_add_mod t sz
        rw [a1, a2, Nat.mul_comm] at this
        exact this)
      simp [upd2, e, this]
theorem rec_made (T : TypeId) (zs : Array Value) (n : Nat) : (.cells (madeCells zs (n * zs.size)) T : Obj) = recObj T zs.size (fun _ j => zs.getD j undef) n := by
  unfold recObj
  congr 1
  apply Array.ext
  · simp [madeCells]
  · intro i h1 h2
    simp only [List.size_toArray, List.length_map, List.length_range] at h2
    have h0 : 0 < zs.size := by
      rcases Nat.eq_zero_or_pos zs.size with e | e
      · rw [e] at h2; simp at h2
      · exact e
    have hm : i % zs.size < zs.size := Nat.mod_lt _ h0
    simp [madeCells, hm]
theorem upd2_same (f : Nat → Nat → Value) (i j : Nat) (v : Value) : upd2 f i j v i j = v := by simp [upd2]
theorem upd2_other (f : Nat → Nat → Value) {i j a b : Nat} (v : Value) (h : ¬ (a = i ∧ b = j)) : upd2 f i j v a b = f a b := by unfold upd2; rw [if_neg h]
end Go.Proofs.Ytfebndolnnaiiab
