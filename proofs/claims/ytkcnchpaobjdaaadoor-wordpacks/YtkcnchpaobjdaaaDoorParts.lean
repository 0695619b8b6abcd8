/-
  What the program's and the reference's Part and Range answer, at every input: the document's numbers; the world stays.
-/
import Derived.Test.YtkcnchpaobjdaaaDoorRows
import Derived.Test.YtkcnchpaobjdaaaDoorKeys
import Derived.WalkKit
import Derived.WalkSpells
import Derived.WalkLawsBesides
namespace Go.Proofs.YtkcnchpaobjdaaaDoor
open Go.RowKit
set_option maxHeartbeats 400000 in
theorem cPart (k n : Int) (w : World) :
    Calls Tryd.prog 23 #[.int .i64 k, .int .i64 n] w fun e w' => e = .returned (.tuple #[.int .i64 (partV k n), .int .i64 (partE k n)]) ∧ w' = w := by
  rcases (by omega : k < 0 ∨ 4294967295 < k ∨ (0 ≤ k ∧ k ≤ 4294967295 ∧ n < 1) ∨ (0 ≤ k ∧ k ≤ 4294967295 ∧ 64 < n) ∨ (0 ≤ k ∧ k ≤ 4294967295 ∧ 1 ≤ n ∧ n ≤ 64)) with h | h | ⟨h0, h1, h⟩ | ⟨h0, h1, h⟩ | ⟨h0, h1, h2, h3⟩
  · rw [(part_badK k n (.inl h)).1, (part_badK k n (.inl h)).2]
    go_enter Tryd.func23, Tryd.ntmps23
    go_wp2
    go_ret2
    exact ⟨rfl, rfl⟩
  · rw [(part_badK k n (.inr h)).1, (part_badK k n (.inr h)).2]
    have hd : decide (k ≤ 4294967295) = false := decide_eq_false (by omega)
    go_enter Tryd.func23, Tryd.ntmps23
    go_wp2
    go_ret2
    exact ⟨rfl, rfl⟩
  · rw [(part_badN k n h0 h1 (.inl h)).1, (part_badN k n h0 h1 (.inl h)).2]
    go_enter Tryd.func23, Tryd.ntmps23
    go_wp2
    go_ret2
    exact ⟨rfl, rfl⟩
  · rw [(part_badN k n h0 h1 (.inr h)).1, (part_badN k n h0 h1 (.inr h)).2]
    have hd : decide (n ≤ 64) = false := decide_eq_false (by omega)
    go_enter Tryd.func23, Tryd.ntmps23
    go_wp2
    go_ret2
    exact ⟨rfl, rfl⟩
  · rw [(part_ok k n h0 h1 h2 h3).1, (part_ok k n h0 h1 h2 h3).2]
    obtain ⟨hm0, hm1⟩ := mul_bd k n 4294967295 64 h0 (by omega) h1 h3
    go_enter Tryd.func23, Tryd.ntmps23
    go_wp2
    go_ret2
    exact ⟨ret_two rfl rfl, rfl⟩
set_option maxHeartbeats 400000 in
theorem cPartR (k n : Int) (w : World) :
    Calls Tryd.prog 24 #[.int .i64 k, .int .i64 n] w fun e w' => e = .returned (.tuple #[.int .i64 (partV k n), .int .i64 (partE k n)]) ∧ w' = w := by
  rcases (by omega : k < 0 ∨ 4294967295 < k ∨ (0 ≤ k ∧ k ≤ 4294967295 ∧ n < 1) ∨ (0 ≤ k ∧ k ≤ 4294967295 ∧ 64 < n) ∨ (0 ≤ k ∧ k ≤ 4294967295 ∧ 1 ≤ n ∧ n ≤ 64)) with h | h | ⟨h0, h1, h⟩ | ⟨h0, h1, h⟩ | ⟨h0, h1, h2, h3⟩
  · rw [(part_badK k n (.inl h)).1, (part_badK k n (.inl h)).2]
    go_enter Tryd.func24, Tryd.ntmps24
    go_wp2
    go_ret2
    exact ⟨rfl, rfl⟩
  · rw [(part_badK k n (.inr h)).1, (part_badK k n (.inr h)).2]
    have hd : decide (k ≤ 4294967295) = false := decide_eq_false (by omega)
    go_enter Tryd.func24, Tryd.ntmps24
    go_wp2
    go_ret2
    exact ⟨rfl, rfl⟩
  · rw [(part_badN k n h0 h1 (.inl h)).1, (part_badN k n h0 h1 (.inl h)).2]
    go_enter Tryd.func24, Tryd.ntmps24
    go_wp2
    go_ret2
    exact ⟨rfl, rfl⟩
  · rw [(part_badN k n h0 h1 (.inr h)).1, (part_badN k n h0 h1 (.inr h)).2]
    have hd : decide (n ≤ 64) = false := decide_eq_false (by omega)
    go_enter Tryd.func24, Tryd.ntmps24
    go_wp2
    go_ret2
    exact ⟨rfl, rfl⟩
  · rw [(part_ok k n h0 h1 h2 h3).1, (part_ok k n h0 h1 h2 h3).2]
    obtain ⟨hm0, hm1⟩ := mul_bd k n 4294967295 64 h0 (by omega) h1 h3
    go_enter Tryd.func24, Tryd.ntmps24
    go_wp2
    go_ret2
    exact ⟨ret_two rfl rfl, rfl⟩
set_option maxHeartbeats 400000 in
theorem cLeast (p n : Int) (w : World) (h0 : 0 ≤ p) (h1 : p ≤ 64) (h2 : 1 ≤ n) (h3 : n ≤ 64) :
    Calls Tryd.prog 33 #[.int .i64 p, .int .i64 n] w fun e w' => e = .returned (.int .i64 (leastV p n)) ∧ w' = w := by
  unfold leastV
  go_enter Tryd.func33, Tryd.ntmps33
  go_wp2
  go_ret
  exact ⟨ret_int rfl, rfl⟩
set_option maxHeartbeats 400000 in
theorem cFirst (p n : Int) (w : World) (h0 : 0 ≤ p) (h1 : p ≤ 64) (h2 : 1 ≤ n) (h3 : n ≤ 64) :
    Calls Tryd.prog 34 #[.int .i64 p, .int .i64 n] w fun e w' => e = .returned (.int .i64 (leastV p n)) ∧ w' = w := by
  obtain ⟨g0, g1⟩ := first_start p n h0 h2
  go_enter Tryd.func34, Tryd.ntmps34
  go_wp2
  go_loop [5] (fun t => ∃ k : Int, 0 ≤ k ∧ k * n < p * 4294967296 + n ∧ t = .int .i64 k) (fun t => (p * 4294967296 + n - intOf t * n).toNat)
  case atStart => exact ⟨_, g0, by omega, rfl⟩
  case round =>
    obtain ⟨k, hk0, hk1, rfl⟩ := hrel
    have hkn : 0 ≤ k * n := Int.mul_nonneg hk0 (by omega)
    have hkk : k ≤ k * n := by have := Int.mul_le_mul_of_nonneg_left h2 hk0; omega
    clear g0 g1
    by_cases hc : p * 4294967296 ≤ k * n
    · go_wp2
      go_ret
      exact ⟨ret_int (least_iff p n k h2 hc hk1), rfl⟩
    · have hs : (k + 1) * n = k * n + n := by rw [Int.add_mul]; omega
      have HS : Hid ((k + 1) * n = k * n + n) := hs
      clear hs
      go_wp2
      go_round
      case rel => exact ⟨k + 1, by omega, by rw [HS.out]; omega, by go_num⟩
      case measure => simp [intOf]; have := HS.out; omega
set_option maxHeartbeats 400000 in
theorem cRange (p n : Int) (w : World) :
    Calls Tryd.prog 25 #[.int .i64 p, .int .i64 n] w fun e w' => e = .returned (.tuple #[.int .i64 (loV p n), .int .i64 (hiV p n), .int .i64 (rangeE p n)]) ∧ w' = w := by
  rcases (by omega : n < 1 ∨ 64 < n ∨ (1 ≤ n ∧ n ≤ 64 ∧ p < 0) ∨ (1 ≤ n ∧ n ≤ 64 ∧ 0 ≤ p ∧ n ≤ p) ∨ (1 ≤ n ∧ n ≤ 64 ∧ 0 ≤ p ∧ p < n)) with h | h | ⟨h0, h1, h⟩ | ⟨h0, h1, h2, h⟩ | ⟨h2, h3, h0, h1⟩
  · obtain ⟨e1, e2, e3⟩ := range_bad p n (.inl h)
    rw [e1, e2, e3]
    clear e1 e2 e3
    go_enter Tryd.func25, Tryd.ntmps25
    go_wp2
    go_ret3
    exact ⟨rfl, rfl⟩
  · obtain ⟨e1, e2, e3⟩ := range_bad p n (.inr (.inl h))
    rw [e1, e2, e3]
    clear e1 e2 e3
    have hd : decide (n ≤ 64) = false := decide_eq_false (by omega)
    have hd' : decide (64 < n) = true := decide_eq_true (by omega)
    go_enter Tryd.func25, Tryd.ntmps25
    go_wp2
    go_ret3
    exact ⟨rfl, rfl⟩
  · obtain ⟨e1, e2, e3⟩ := range_bad p n (.inr (.inr (.inl h)))
    rw [e1, e2, e3]
    clear e1 e2 e3
    go_enter Tryd.func25, Tryd.ntmps25
    go_wp2
    go_ret3
    exact ⟨rfl, rfl⟩
  · obtain ⟨e1, e2, e3⟩ := range_bad p n (.inr (.inr (.inr h)))
    rw [e1, e2, e3]
    clear e1 e2 e3
    have hd : decide (p ≤ n - 1) = false := decide_eq_false (by omega)
    have hd' : decide (n ≤ p) = true := decide_eq_true (by omega)
    go_enter Tryd.func25, Tryd.ntmps25
    go_wp2
    go_ret3
    exact ⟨rfl, rfl⟩
  · obtain ⟨e1, e2, e3⟩ := range_ok p n h0 h1 h2 h3
    rw [e1, e2, e3]
    clear e1 e2 e3
    obtain ⟨l0, l1⟩ := least_bd (p + 1) n (by omega) (by omega) h2
    have hd : decide (p ≤ n - 1) = true := decide_eq_true (by omega)
    have hd' : decide (n ≤ p) = false := decide_eq_false (by omega)
    go_enter Tryd.func25, Tryd.ntmps25
    go_wp2_with (first | (go_at_call 33; refine (cLeast _ _ _ (by omega) (by omega) h2 h3).mono ?_; rintro e w' ⟨rfl, rfl⟩) | go_in)
    go_ret3
    exact ⟨ret_three rfl rfl rfl, rfl⟩
set_option maxHeartbeats 400000 in
theorem cRangeR (p n : Int) (w : World) :
    Calls Tryd.prog 26 #[.int .i64 p, .int .i64 n] w fun e w' => e = .returned (.tuple #[.int .i64 (loV p n), .int .i64 (hiV p n), .int .i64 (rangeE p n)]) ∧ w' = w := by
  rcases (by omega : n < 1 ∨ 64 < n ∨ (1 ≤ n ∧ n ≤ 64 ∧ p < 0) ∨ (1 ≤ n ∧ n ≤ 64 ∧ 0 ≤ p ∧ n ≤ p) ∨ (1 ≤ n ∧ n ≤ 64 ∧ 0 ≤ p ∧ p < n)) with h | h | ⟨h0, h1, h⟩ | ⟨h0, h1, h2, h⟩ | ⟨h2, h3, h0, h1⟩
  · obtain ⟨e1, e2, e3⟩ := range_bad p n (.inl h)
    rw [e1, e2, e3]
    clear e1 e2 e3
    go_enter Tryd.func26, Tryd.ntmps26
    go_wp2
    go_ret3
    exact ⟨rfl, rfl⟩
  · obtain ⟨e1, e2, e3⟩ := range_bad p n (.inr (.inl h))
    rw [e1, e2, e3]
    clear e1 e2 e3
    have hd : decide (n ≤ 64) = false := decide_eq_false (by omega)
    have hd' : decide (64 < n) = true := decide_eq_true (by omega)
    go_enter Tryd.func26, Tryd.ntmps26
    go_wp2
    go_ret3
    exact ⟨rfl, rfl⟩
  · obtain ⟨e1, e2, e3⟩ := range_bad p n (.inr (.inr (.inl h)))
    rw [e1, e2, e3]
    clear e1 e2 e3
    go_enter Tryd.func26, Tryd.ntmps26
    go_wp2
    go_ret3
    exact ⟨rfl, rfl⟩
  · obtain ⟨e1, e2, e3⟩ := range_bad p n (.inr (.inr (.inr h)))
    rw [e1, e2, e3]
    clear e1 e2 e3
    have hd : decide (p ≤ n - 1) = false := decide_eq_false (by omega)
    have hd' : decide (n ≤ p) = true := decide_eq_true (by omega)
    go_enter Tryd.func26, Tryd.ntmps26
    go_wp2
    go_ret3
    exact ⟨rfl, rfl⟩
  · obtain ⟨e1, e2, e3⟩ := range_ok p n h0 h1 h2 h3
    rw [e1, e2, e3]
    clear e1 e2 e3
    obtain ⟨l0, l1⟩ := least_bd (p + 1) n (by omega) (by omega) h2
    have hd : decide (p ≤ n - 1) = true := decide_eq_true (by omega)
    have hd' : decide (n ≤ p) = false := decide_eq_false (by omega)
    go_enter Tryd.func26, Tryd.ntmps26
    go_wp2_with (first | (go_at_call 34; refine (cFirst _ _ _ (by omega) (by omega) h2 h3).mono ?_; rintro e w' ⟨rfl, rfl⟩) | go_in)
    go_ret3
    exact ⟨ret_three rfl rfl rfl, rfl⟩
end Go.Proofs.YtkcnchpaobjdaaaDoor
