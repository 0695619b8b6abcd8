/-
  A line's first fault stays; bounds of what is read. (By the verifier; no statement.)
-/
import Derived.Test.YtbnpdfakniebnaaGreatDoorSpMath
namespace Go.Proofs.YtbnpdfakniebnaaGreatDoor
namespace Ln
variable {s : Ln}
theorem fault_bad (h : s.err ≠ 0) (e : Nat) : s.fault e = s := by unfold fault; rw [if_neg h]
theorem fault_err (h : s.err = 0) (e : Nat) : (s.fault e).err = e := by unfold fault; rw [if_pos h]
theorem next_bad (h : s.err ≠ 0) : s.next.2 = s := by
  unfold next
  split
  · exact fault_bad h _
  · rw [if_neg h]
theorem number_bad (h : s.err ≠ 0) : s.number.2 = s := by
  unfold number
  split
  · exact next_bad h
  · rw [next_bad h]; exact fault_bad h _
theorem more_bad (h : s.err ≠ 0) : s.more = false := by unfold more; simp [h]
theorem pairsF_bad (h : s.err ≠ 0) : ∀ g, (pairsF g s).2 = s
  | 0 => rfl
  | g + 1 => by rw [pairsF, more_bad h]; rfl
theorem fin_bad (h : s.err ≠ 0) : s.fin = s := by unfold fin; rw [more_bad h]; rfl
theorem atMost_bad (h : s.err ≠ 0) (n m : Int) : s.atMost n m = s := by
  unfold atMost
  split
  · exact fault_bad h _
  · rfl
end Ln
theorem numIf_bad {s : Ln} (h : s.err ≠ 0) (b : Bool) : (numIf b s).2 = s := by
  cases b
  · rfl
  · exact Ln.number_bad h
theorem pairsIf_bad {s : Ln} (h : s.err ≠ 0) (b : Bool) : (pairsIf b s).2 = s := by
  cases b
  · rfl
  · exact Ln.pairsF_bad h _
theorem readCall_bad {s : Ln} (h : s.err ≠ 0) (k : Nat) : (readCall k s).2 = s := by
  unfold readCall
  show (pairsIf _ (numIf _ (numIf _ (numIf _ s).2).2).2).2.fin = s
  rw [numIf_bad h, numIf_bad h, numIf_bad h, pairsIf_bad h, Ln.fin_bad h]
/-- A call that is taken has a worker, and room. -/
theorem call_ok {r : RS} {k : Nat} {s : Ln} (h : ((readCall k (r.needW s)).2.atMost (r.callsN + r.body.length + 1) 64).err = 0) : r.work ≠ [] ∧ r.callsN + r.body.length + 1 ≤ 64 ∧ s.err = 0 := by
  have h1 : (readCall k (r.needW s)).2.err = 0 := by
    apply Classical.byContradiction
    intro hb
    rw [Ln.atMost_bad hb] at h
    exact hb h
  have h2 : (r.needW s).err = 0 := by
    apply Classical.byContradiction
    intro hb
    rw [readCall_bad hb] at h1
    exact hb h1
  have h3 : s.err = 0 := by
    apply Classical.byContradiction
    intro hb
    unfold RS.needW at h2
    split at h2
    · rw [Ln.fault_bad hb] at h2; exact hb h2
    · exact hb h2
  refine ⟨fun hw => ?_, ?_, h3⟩
  · unfold RS.needW at h2
    rw [if_pos hw, Ln.fault_err h3] at h2
    cases h2
  · apply Classical.byContradiction
    intro hb
    unfold Ln.atMost at h
    rw [if_pos (by omega), Ln.fault_err h1] at h
    cases h
/-- A repeat that is laid has room. -/
theorem fold_ok {r : RS} {s : Ln} (h : (s.fin.atMost (r.callsN + r.times * r.body.length) 64).err = 0) : r.callsN + r.times * r.body.length ≤ 64 := by
  have h1 : s.fin.err = 0 := by
    apply Classical.byContradiction
    intro hb
    rw [Ln.atMost_bad hb] at h
    exact hb h
  apply Classical.byContradiction
  intro hb
  unfold Ln.atMost at h
  rw [if_pos (by omega), Ln.fault_err h1] at h
  cases h
end Go.Proofs.YtbnpdfakniebnaaGreatDoor
