/-
  Sets of places as numbers of 64 bits. (By the verifier; no statement.)
-/
import Derived.Test.YtbielnehggcaoaaDoorRows
import Derived.Laws.Bits64b
namespace Go.Proofs.YtbielnehggcaoaaDoor
theorem u64_pow {i : Nat} (hi : i < 64) : IntKind.u64.wrap ((2 : Int) ^ i) = ((2 ^ i : Nat) : Int) := by
  have h : (2 : Nat) ^ i < 2 ^ 64 := Nat.pow_lt_pow_right (by decide) hi
  have e : ((2 : Int) ^ i) = ((2 ^ i : Nat) : Int) := by simp
  rw [IntKind.wrap_u64, e]
  generalize (2 : Nat) ^ i = y at h
  omega
theorem bits_with {m i : Nat} (hm : m < 18446744073709551616) (hi : i < 64) : bits .or .u64 (m : Int) (IntKind.u64.wrap ((2 : Int) ^ i)) = ((m ||| 2 ^ i : Nat) : Int) := by
  have h : (2 : Nat) ^ i < 2 ^ 64 := Nat.pow_lt_pow_right (by decide) hi
  rw [u64_pow hi, bits_or_u64_nat _ _ hm (by omega)]
theorem with_lt {m i : Nat} (hm : m < 18446744073709551616) (hi : i < 64) : m ||| 2 ^ i < 18446744073709551616 := by
  have h : (2 : Nat) ^ i < 2 ^ 64 := Nat.pow_lt_pow_right (by decide) hi
  exact Nat.or_lt_two_pow (n := 64) (by omega) h
theorem bits_has {m i : Nat} (hm : m < 18446744073709551616) : (bits .and .u64 ((m : Int) / 2 ^ i) 1 == 1) = m.testBit i := by
  have e : ((m : Int) / 2 ^ i) = ((m / 2 ^ i : Nat) : Int) := by simp
  have hlt : m / 2 ^ i < 18446744073709551616 := Nat.lt_of_le_of_lt (Nat.div_le_self _ _) hm
  have := bits_and_u64_nat (m / 2 ^ i) 1 hlt (by decide)
  rw [e, show (1 : Int) = ((1 : Nat) : Int) from rfl, this, Nat.testBit, Nat.shiftRight_eq_div_pow, Nat.and_comm]
  have h2 : 1 &&& m / 2 ^ i = 0 ∨ 1 &&& m / 2 ^ i = 1 := by
    rw [Nat.one_and_eq_mod_two]; omega
  rcases h2 with h2 | h2 <;> rw [h2] <;> rfl
/-- 'a &^ b'. -/
def anN (a b : Nat) : Nat := (BitVec.ofNat 64 a &&& ~~~BitVec.ofNat 64 b).toNat
theorem anN_lt {a b : Nat} : anN a b < 18446744073709551616 := (BitVec.ofNat 64 a &&& ~~~BitVec.ofNat 64 b).isLt
theorem bits_andNot {a b : Nat} : bits .andNot .u64 (a : Int) (b : Int) = ((anN a b : Nat) : Int) := by
  show IntKind.u64.wrap ((BitVec.ofInt 64 (a : Int) &&& ~~~BitVec.ofInt 64 (b : Int)).toNat : Int) = _
  rw [BitVec.ofInt_natCast, BitVec.ofInt_natCast, IntKind.wrap_u64]
  have := anN_lt (a := a) (b := b)
  unfold anN at *
  omega
theorem anN_bit {a b j : Nat} (ha : a < 18446744073709551616) : (anN a b).testBit j = (a.testBit j && !b.testBit j) := by
  unfold anN
  rw [BitVec.testBit_toNat, BitVec.getLsbD_and, BitVec.getLsbD_not, BitVec.getLsbD_ofNat, BitVec.getLsbD_ofNat]
  by_cases hj : j < 64
  · simp [hj]
  · have : a.testBit j = false := Nat.testBit_lt_two_pow (Nat.lt_of_lt_of_le ha (Nat.pow_le_pow_right (n := 2) (by decide) (show 64 ≤ j by omega)))
    simp [hj, this]
theorem zero_of_bits {a : Nat} (h : ∀ j, a.testBit j = false) : a = 0 := Nat.eq_of_testBit_eq fun j => by rw [h j, Nat.zero_testBit]
theorem bits_eq_zero {a : Nat} : ((a : Int) == 0) = true ↔ ∀ j, a.testBit j = false := by
  constructor
  · intro h j
    have : a = 0 := by simpa using h
    rw [this, Nat.zero_testBit]
  · intro h
    simp [zero_of_bits h]
/-- The lowest place of a number that isn't 0. -/
theorem low_of {x : Nat} (hx : x < 18446744073709551616) (h0 : x ≠ 0) : ∃ k q, k < 64 ∧ q < 2 ^ (63 - k) ∧ x = 2 ^ k * (2 * q + 1) := by
  have key : ∀ n x : Nat, x < 2 ^ n → x ≠ 0 → ∃ k q, k < n ∧ q < 2 ^ (n - 1 - k) ∧ x = 2 ^ k * (2 * q + 1) := by
    intro n
    induction n with
    | zero => intro x h1 h2; simp at h1; exact absurd h1 h2
    | succ n ih =>
      intro x h1 h2
      by_cases ho : x % 2 = 1
      · refine ⟨0, x / 2, Nat.succ_pos _, ?_, by omega⟩
        have : 2 ^ (n + 1) = 2 * 2 ^ n := by rw [Nat.pow_succ, Nat.mul_comm]
        simp only [Nat.add_sub_cancel, Nat.sub_zero]
        omega
      · have e2 : 2 ^ (n + 1) = 2 * 2 ^ n := by rw [Nat.pow_succ, Nat.mul_comm]
        obtain ⟨k, q, hk, hq, e⟩ := ih (x / 2) (by omega) (by omega)
        refine ⟨k + 1, q, Nat.succ_lt_succ hk, ?_, ?_⟩
        · rw [show n + 1 - 1 - (k + 1) = n - 1 - k by omega]; exact hq
        · rw [Nat.pow_succ, Nat.mul_comm (2 ^ k) 2, Nat.mul_assoc, ← e]; omega
  exact key 64 x hx h0
theorem low_bit {k q j : Nat} : (2 ^ k * (2 * q + 1)).testBit j = (decide (j = k) || (decide (k < j) && q.testBit (j - k - 1))) := by
  rw [Nat.testBit_two_pow_mul]
  rcases Nat.lt_trichotomy j k with h | rfl | h
  · have : ¬ k ≤ j := by omega
    have h2 : ¬ j = k := by omega
    have h3 : ¬ k < j := by omega
    simp [this, h2, h3]
  · simp
  · have h2 : ¬ j = k := by omega
    obtain ⟨t, rfl⟩ : ∃ t, j = k + 1 + t := ⟨j - k - 1, by omega⟩
    rw [show k + 1 + t - k = t + 1 by omega, Nat.testBit_succ, show (2 * q + 1) / 2 = q by omega]
    simp only [h2, h, show k ≤ k + 1 + t by omega, decide_true, decide_false, Bool.true_and, Bool.false_or]
    rw [show t + 1 - 1 = t by omega]
theorem low_and_neg {k q : Nat} (hk : k < 64) (hq : q < 2 ^ (63 - k)) : (2 ^ k * (2 * q + 1)) &&& (18446744073709551616 - 2 ^ k * (2 * q + 1)) = 2 ^ k := by
  have e1 : (18446744073709551616 : Nat) = 2 ^ k * (2 * 2 ^ (63 - k)) := by
    rw [show 2 * 2 ^ (63 - k) = 2 ^ (64 - k) by rw [← Nat.pow_succ']; congr 1; omega, ← Nat.pow_add, show k + (64 - k) = 64 by omega]
  have e2 : 18446744073709551616 - 2 ^ k * (2 * q + 1) = 2 ^ k * (2 * (2 ^ (63 - k) - (q + 1)) + 1) := by
    rw [e1, ← Nat.mul_sub]
    congr 1
    omega
  rw [e2]
  refine Nat.eq_of_testBit_eq fun j => ?_
  rw [Nat.testBit_and, low_bit, low_bit, Nat.testBit_two_pow, Nat.testBit_two_pow_sub_succ hq]
  by_cases h : j = k
  · subst h; simp
  · have h2 : ¬ k = j := fun e => h e.symm
    simp only [h, h2, decide_false, Bool.false_or]
    cases q.testBit (j - k - 1) <;> simp
theorem low_and_pred {k q j : Nat} : ((2 ^ k * (2 * q + 1)) &&& (2 ^ k * (2 * q + 1) - 1)).testBit j = ((2 ^ k * (2 * q + 1)).testBit j && !decide (j = k)) := by
  have hp : 0 < 2 ^ k := Nat.two_pow_pos k
  have e : 2 ^ k * (2 * q + 1) - 1 = 2 ^ k * (2 * q) + (2 ^ k - 1) := by
    rw [Nat.mul_add, Nat.mul_one]; omega
  rw [Nat.testBit_and, e, Nat.testBit_two_pow_mul_add _ (by omega), low_bit]
  rcases Nat.lt_trichotomy j k with h | rfl | h
  · have h2 : ¬ j = k := by omega
    have h3 : ¬ k < j := by omega
    simp [h2, h3]
  · simp
  · have h2 : ¬ j = k := by omega
    obtain ⟨t, rfl⟩ : ∃ t, j = k + 1 + t := ⟨j - k - 1, by omega⟩
    have h4 : ¬ k + 1 + t < k := by omega
    rw [if_neg h4, show k + 1 + t - k = t + 1 by omega, Nat.testBit_succ, show 2 * q / 2 = q by omega]
    simp only [h2, decide_false, Bool.false_or, h, decide_true, Bool.true_and, show t + 1 - 1 = t by omega, Bool.not_false, Bool.and_true, Bool.and_self]
end Go.Proofs.YtbielnehggcaoaaDoor
