/-
  The walk of the statement WordRanges: it answers true at every input, wherever the table of bits is laid; the world stays.
-/
import Derived.Test.YtkcnchpaobjdaaaDoorKnown
namespace Go.Proofs.YtkcnchpaobjdaaaDoor
open Go.RowKit
theorem least_le (p n k : Int) (hn : 1 ≤ n) : leastV p n ≤ k ↔ p * 4294967296 ≤ k * n := by
  have h := @Int.ediv_lt_iff_lt_mul (p * 4294967296 + n - 1) (k + 1) n (by omega)
  have e : (k + 1) * n = k * n + n := by rw [Int.add_mul]; omega
  rw [e] at h
  unfold leastV
  omega
theorem least_zero (n : Int) (hn : 1 ≤ n) : leastV 0 n = 0 := by
  unfold leastV
  exact Int.ediv_eq_zero_of_lt (by omega) (by omega)
theorem least_all (n : Int) (hn : 1 ≤ n) : leastV n n = 4294967296 := by
  have h1 := (least_le n n 4294967296 hn).2 (by rw [Int.mul_comm]; exact Int.le_refl _)
  have h2 := mt (least_le n n 4294967295 hn).1 (by omega)
  omega
theorem part_mono (k o n : Int) (hn : 1 ≤ n) (h : k ≤ o) : k * n / 4294967296 ≤ o * n / 4294967296 := by
  have := Int.mul_le_mul_of_nonneg_right h (by omega : 0 ≤ n)
  omega
theorem range_facts (k n : Int) (j : Nat) (h0 : 0 ≤ k) (h1 : k ≤ 4294967295) (h2 : 1 ≤ n) (h3 : n ≤ 64) :
    (leastV j n ≤ leastV (j + 1) n - 1) ∧
    (((((j : Int) == partV k n) = true) ∧ leastV j n ≤ k ∧ k ≤ leastV (j + 1) n - 1) ∨ ((((j : Int) == partV k n) = false) ∧ k < leastV j n) ∨ ((((j : Int) == partV k n) = false) ∧ leastV j n ≤ k ∧ leastV (j + 1) n - 1 < k)) := by
  have e := (part_ok k n h0 h1 h2 h3).1
  have a1 := least_le j n k h2
  have a2 := least_le (j + 1) n k h2
  have a3 := least_le (j + 1) n (leastV j n) h2
  have a4 := least_le j n (leastV j n - 1) h2
  have e4 : (leastV j n - 1) * n = leastV j n * n - n := by rw [Int.sub_mul]; omega
  rw [e4] at a4
  rw [e]
  simp only [beq_iff_eq, beq_eq_false_iff_ne]
  generalize leastV j n * n = z at *
  generalize k * n = y at *
  generalize leastV j n = u at *
  generalize leastV (j + 1) n = v at *
  omega
set_option maxRecDepth 100000 in
set_option maxHeartbeats 2000000 in
theorem wRanges (k o n : Int) (w : World) (ht : Tab w) : Calls Tryd.prog 8 #[.int .i64 k, .int .i64 o, .int .i64 n] w fun e w' => e = .returned (.bool true) ∧ w' = w := by
  have HT : Hid (Tab w) := ht
  clear ht
  rcases (by omega : (n < 1 ∨ 64 < n ∨ (1 ≤ n ∧ n ≤ 64 ∧ k < 0) ∨ (1 ≤ n ∧ n ≤ 64 ∧ 0 ≤ k ∧ 4294967295 < k) ∨ (1 ≤ n ∧ n ≤ 64 ∧ 0 ≤ k ∧ k ≤ 4294967295 ∧ o < 0) ∨ (1 ≤ n ∧ n ≤ 64 ∧ 0 ≤ k ∧ k ≤ 4294967295 ∧ 0 ≤ o ∧ 4294967295 < o)) ∨ (1 ≤ n ∧ n ≤ 64 ∧ 0 ≤ k ∧ k ≤ 4294967295 ∧ 0 ≤ o ∧ o ≤ 4294967295)) with h | ⟨h0, h1, h2, h3, h4, h5⟩
  · rcases h with h | h | ⟨h0, h1, h⟩ | ⟨h0, h1, h2, h⟩ | ⟨h0, h1, h2, h3, h⟩ | ⟨h0, h1, h2, h3, h4, h⟩
    all_goals
      go_enter Tryd.func8, Tryd.ntmps8
      go_wp2_with (go_at_call 9; refine (cKnown _ HT.out).mono ?_; rintro e w' ⟨rfl, rfl⟩)
      go_ret
      exact ⟨rfl, rfl⟩
  · have hd1 : decide (64 < n) = false := decide_eq_false (by omega)
    have hd2 : decide (4294967295 < k) = false := decide_eq_false (by omega)
    have hd3 : decide (4294967295 < o) = false := decide_eq_false (by omega)
    have p1 := (part_ok k n h2 h3 h0 h1).2
    have p2 := (part_ok o n h4 h5 h0 h1).2
    have hm : k ≤ o → partV k n ≤ partV o n := by
      intro h; rw [(part_ok k n h2 h3 h0 h1).1, (part_ok o n h4 h5 h0 h1).1]; exact part_mono k o n h0 h
    rcases (by by_cases h : k ≤ o; exact .inl ⟨h, decide_eq_false (by have := hm h; omega)⟩; exact .inr (decide_eq_false h) : (k ≤ o ∧ decide (partV o n < partV k n) = false) ∨ decide (k ≤ o) = false) with ⟨hc, hc'⟩ | hc
    all_goals
      clear hm
      go_enter Tryd.func8, Tryd.ntmps8
      go_wp2_with (first
        | (go_at_call 9; refine (cKnown _ HT.out).mono ?_; rintro e w' ⟨rfl, rfl⟩)
        | (go_at_call 12; refine (cNum _ _).mono ?_; rintro e w' ⟨rfl, rfl⟩)
        | (go_at_call 23; refine (cPart _ _ _).mono ?_; rintro e w' ⟨rfl, rfl⟩))
      go_loop [11, 12] (fun a i => ∃ j : Nat, (j : Int) ≤ n ∧ a = .int .i64 (leastV j n - 1) ∧ i = .int .i64 j) (fun _ i => (n - intOf i).toNat)
      case atStart => exact ⟨0, by omega, by rw [show ((0 : Nat) : Int) = 0 from rfl, least_zero n h0]; rfl, rfl⟩
      case round =>
        obtain ⟨j, hjn, rfl, rfl⟩ := hrel
        by_cases hj : (j : Int) < n
        · obtain ⟨r1, r2, r3⟩ := range_ok j n (by omega) hj h0 h1
          obtain ⟨f1, f2⟩ := range_facts k n j h2 h3 h0 h1
          obtain ⟨l0, l1⟩ := least_bd j n (by omega) hjn h0
          obtain ⟨l2, l3⟩ := least_bd (j + 1) n (by omega) (by omega) h0
          rcases f2 with ⟨g1, g2, g3⟩ | ⟨g1, g2⟩ | ⟨g1, g2, g3⟩
          all_goals
            first
              | have g4 : decide (k ≤ leastV (j + 1) n - 1) = false := decide_eq_false (by omega)
              | have g4 : decide (leastV j n ≤ k) = false := decide_eq_false (by omega)
              | have g4 : decide (leastV j n ≤ k) = true := decide_eq_true (by omega)
            go_wp2_with (first
              | (go_at_call 12; refine (cNum _ _).mono ?_; rintro e w' ⟨rfl, rfl⟩)
              | (go_at_call 25; refine (cRange _ _ _).mono ?_; rintro e w' ⟨rfl, rfl⟩))
            go_round
            case rel => exact ⟨j + 1, by omega, by rw [Int.natCast_add]; rfl, by go_num⟩
            case measure => simp [intOf]; omega
        · have hl : leastV j n = 4294967296 := by
            have e : (j : Int) = n := by omega
            rw [e]; exact least_all n h0
          go_wp2
          go_ret
          exact ⟨rfl, rfl⟩
end Go.Proofs.YtkcnchpaobjdaaaDoor
