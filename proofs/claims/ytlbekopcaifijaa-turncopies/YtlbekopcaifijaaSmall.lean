/-
  A list of lists in memory; what 'small' answers, and what its yes tells.
-/
import Derived.Test.YtlbekopcaifijaaWorld
namespace Go.Proofs.Ytlbekopcaifijaa
open Go.RowKit
/-- A slice of G rows of bools: row r begins at A r, has L r cells, which hold B r. -/
structure Grid (w : World) (ga : Option Addr) (G : Nat) (A : Nat → Option Addr) (L C : Nat → Nat) (B : Nat → Nat → Bool) : Prop where
  rows : 0 < G → ∃ gb go, ga = some ⟨gb, go, none⟩ ∧ ∀ r, r < G → w.cell? ⟨gb, go + r, none⟩ = some (.slice (A r) (L r) (C r))
  vals : ∀ r, r < G → Vals w (A r) (bools (B r) (L r))
  nil : ∀ r, r < G → A r = none → C r = 0
  len : ∀ r, r < G → L r ≤ 140737488355328
theorem Grid.keepB {w w' : World} {ga : Option Addr} {G : Nat} {A : Nat → Option Addr} {L C : Nat → Nat} {B : Nat → Nat → Bool} (h : Grid w ga G A L C B) (ho : Below w.heap.size w w') : Grid w' ga G A L C B := by
  refine ⟨fun hG => ?_, fun r hr => (h.vals r hr).keepB ho, h.nil, h.len⟩
  obtain ⟨gb, go, e, hc⟩ := h.rows hG
  exact ⟨gb, go, e, fun r hr => by rw [ho.cell (World.block_lt_of_cell? w _ (hc r hr))]; exact hc r hr⟩
def sumL (L : Nat → Nat) : Nat → Nat
  | 0 => 0
  | k + 1 => sumL L k + L k
theorem sumL_mono (L : Nat → Nat) {k m : Nat} (h : k ≤ m) : sumL L k ≤ sumL L m := by
  induction m with
  | zero => obtain rfl : k = 0 := by omega
            exact Nat.le_refl _
  | succ m ih =>
    by_cases e : k = m + 1
    · subst e; exact Nat.le_refl _
    · have := ih (by omega); simp only [sumL]; omega
theorem sumL_le (L : Nat → Nat) {k m : Nat} (h : k < m) : L k ≤ sumL L m := by
  have := sumL_mono L (k := k + 1) (m := m) (by omega)
  simp only [sumL] at this; omega
def smallV (tl G : Nat) (L : Nat → Nat) : Bool := decide (tl + G + sumL L G ≤ 20000)
theorem small_no {tl G : Nat} {L : Nat → Nat} {k : Nat} (hk : k ≤ G) (h : 20000 < tl + G + sumL L k) : smallV tl G L = false := by
  have := sumL_mono L hk
  exact decide_eq_false (by omega)
theorem small_yes {tl G : Nat} {L : Nat → Nat} (h : smallV tl G L = true) : tl ≤ 20000 ∧ G ≤ 20000 ∧ ∀ r, r < G → L r ≤ 20000 := by
  have h' := of_decide_eq_true h
  refine ⟨by omega, by omega, fun r hr => ?_⟩
  have := sumL_le L hr
  omega
set_option maxHeartbeats 800000 in
theorem cSmall (w : World) (ta : Option Addr) (tl tc : Nat) (ga : Option Addr) (G gc : Nat) (A : Nat → Option Addr) (L C : Nat → Nat) (B : Nat → Nat → Bool) (h : Grid w ga G A L C B) (ht : tl ≤ 140737488355328) (hG : G ≤ 140737488355328) :
    Calls Try.prog 7 #[.slice ta tl tc, .slice ga G gc] w fun e w' => e = .returned (.bool (smallV tl G L)) ∧ w' = w := by
  go_enter Try.func7, Try.ntmps7
  go_wp2
  go_loop [5, 6] (fun n i => ∃ k s : Nat, k ≤ G ∧ n = .int .i64 s ∧ i = .int .i64 k ∧ s ≤ 562949953421312 ∧ Hid (s = tl + G + sumL L k)) (fun _ i => G - (intOf i).toNat)
  case atStart => exact ⟨0, tl + G, Nat.zero_le _, by go_num, rfl, by omega, rfl⟩
  case round =>
    obtain ⟨k, s, hk, rfl, rfl, hsb, hr⟩ := hrel
    by_cases hlt : k < G
    · by_cases hsm : s ≤ 20000
      · obtain ⟨gb, go, rfl, hc⟩ := h.rows (by omega)
        have hck := hc k hlt
        have hL := h.len k hlt
        clear h hc
        go_wp2
        go_round
        case rel => exact ⟨k + 1, s + L k, by omega, by go_num, by go_num, by omega, by rw [hr.out]; show _ = tl + G + (sumL L k + L k); omega⟩
        case measure => simp [intOf]; omega
      · have hd : decide ((s : Int) ≤ 20000) = false := decide_eq_false (by omega)
        have hv : Hid (smallV tl G L = false) := small_no hk (by have := hr.out; omega)
        clear h
        go_wp2
        go_ret
        exact ⟨by rw [hv.out]; rfl, rfl⟩
    · clear h
      have hkG : k = G := by omega
      have hv : Hid (smallV tl G L = decide ((s : Int) ≤ 20000)) := by
        subst hkG
        have := hr.out
        show decide _ = decide _
        rw [← this]
        by_cases e : s ≤ 20000
        · rw [decide_eq_true e, decide_eq_true (by omega)]
        · rw [decide_eq_false e, decide_eq_false (by omega)]
      clear hr
      go_wp2
      go_ret
      exact ⟨by rw [hv.out]; rfl, rfl⟩
end Go.Proofs.Ytlbekopcaifijaa
