/-
  What gather leaves in the room that it is handed: the numbers of those that are ready, rising.
-/
import Derived.Test.YtlbekopcaifijaaWorld
namespace Go.Proofs.Ytlbekopcaifijaa
open Go.RowKit
/-- The room's first cells hold l. -/
def Room (w : World) (r : Nat) (t : TypeId) (m : Nat) (l : List Nat) : Prop := ∃ f, w.rowIs r t m f ∧ ∀ j (h : j < l.length), f j = .int .i64 ((l[j]'h : Nat) : Int)
theorem Room.push {w : World} {r m : Nat} {t : TypeId} {l : List Nat} (h : Room w r t m l) (k : Nat) : Room (w.setCell ⟨r, l.length, none⟩ (.int .i64 k)) r t m (l ++ [k]) := by
  obtain ⟨f, h1, h2⟩ := h
  refine ⟨_, h1.set l.length _, fun j hj => ?_⟩
  by_cases e : j = l.length
  · subst e; simp
  · have hj' : j < l.length := by simp at hj; omega
    rw [if_neg e, h2 j hj', List.getElem_append_left hj']
theorem Room.cell {w : World} {r m : Nat} {t : TypeId} {l : List Nat} (h : Room w r t m l) (hm : l.length ≤ m) : ∀ j (h : j < l.length), w.cell? ⟨r, j, none⟩ = some (.int .i64 ((l[j]'h : Nat) : Int)) := by
  obtain ⟨f, h1, h2⟩ := h
  intro j hj
  rw [h1.cell (by omega), h2 j hj]
theorem Room.any {w : World} {r m : Nat} {t : TypeId} {l : List Nat} (h : Room w r t m l) {j : Nat} (hj : j < m) : ∃ v, w.cell? ⟨r, j, none⟩ = some v ∧ w.frozen? ⟨r, j, none⟩ = false := by
  obtain ⟨f, h1, -⟩ := h
  exact ⟨_, h1.cell hj, h1.frozen j⟩
set_option maxHeartbeats 800000 in
theorem cGather (w : World) (ao : Option Addr) (n cap : Nat) (B : Nat → Bool) (r m mc : Nat) (t : TypeId) (hv : Vals w ao (bools B n)) (hne : 0 < n → ∀ b off, ao = some ⟨b, off, none⟩ → b ≠ r) (hr : Room w r t m []) (hm : n ≤ m) (hmc : m ≤ mc) (hn : mc ≤ 140737488355328) :
    Calls Try.prog 18 #[.slice ao n cap, .slice (some ⟨r, 0, none⟩) m mc] w fun e w' => e = .returned (.slice (some ⟨r, 0, none⟩) (rdyN B n).length mc) ∧ Only r w w' ∧ Room w' r t m (rdyN B n) := by
  have hlr := hr
  clear hr
  go_enter Try.func18, Try.ntmps18
  go_wp2
  go_loopw [5, 10] (fun c i wr => ∃ k : Nat, k ≤ n ∧ i = .int .i64 k ∧ c = .int .i64 (rdyN B k).length ∧ Only r w wr ∧ Room wr r t m (rdyN B k)) (fun _ i _ => n - (intOf i).toNat)
  case atStart => exact ⟨0, Nat.zero_le _, rfl, rfl, Only.refl _ _, hlr⟩
  case round =>
    obtain ⟨k, hk, rfl, rfl, hO, hR⟩ := hrel
    clear hlr
    have hl := rdy_len B k
    by_cases hlt : k < n
    · obtain ⟨b, off, rfl, hc⟩ := hv.bool (by omega)
      have hck : wr.cell? ⟨b, off + k, none⟩ = some (.bool (B k)) := hO.cell (hc k hlt) (hne (by omega) b off rfl)
      obtain ⟨v, hc1, hf1⟩ := hR.any (j := (rdyN B k).length) (by omega)
      have hlm : (rdyN B k).length < m := by omega
      cases hB : B k with
      | true =>
        rw [hB] at hck
        have R2 := hR.push k
        rw [← rdy_yes hB] at R2
        have L2 : Hid ((rdyN B (k + 1)).length = (rdyN B k).length + 1) := by rw [Hid, rdy_yes hB]; simp
        have HR : Hid (Room (wr.setCell ⟨r, (rdyN B k).length, none⟩ (.int .i64 k)) r t m (rdyN B (k + 1))) := R2
        clear R2 hR hc hv hB
        go_wp2
        go_roundw
        case rel => exact ⟨k + 1, by omega, by go_num, by rw [L2.out]; go_num, hO.set _ _, HR.out⟩
        case measure => simp [intOf]; omega
      | false =>
        rw [hB] at hck
        have HR : Hid (Room wr r t m (rdyN B (k + 1))) := by rw [rdy_no hB]; exact hR
        have L2 : Hid ((rdyN B (k + 1)).length = (rdyN B k).length) := by rw [Hid, rdy_no hB]
        clear hR hc hv hB
        go_wp2
        go_roundw
        case rel => exact ⟨k + 1, by omega, by go_num, by rw [L2.out], hO, HR.out⟩
        case measure => simp [intOf]; omega
    · obtain rfl : k = n := by omega
      have HR : Hid (Room wr r t m (rdyN B k)) := hR
      clear hR
      go_wp2
      go_ret
      exact ⟨rfl, hO, HR.out⟩
end Go.Proofs.Ytlbekopcaifijaa
