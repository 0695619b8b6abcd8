/-
  Plain mathematics of keys, their bits, the highest place at which two of them differ, and of parts; nothing of the program.
-/
import Derived.Test.YtkcnchpaobjdaaaDoorMath
namespace Go.Proofs.YtkcnchpaobjdaaaDoor

def p2 (i : Nat) : Int := ((2 ^ i : Nat) : Int)
def hv (A k : Nat) : Int := ((A / 2 ^ k : Nat) : Int)
abbrev isKey (k : Int) : Prop := 0 ≤ k ∧ k ≤ 4294967295
abbrev isPlc (p : Int) : Prop := 0 ≤ p ∧ p ≤ 31
abbrev isNum (n : Int) : Prop := 1 ≤ n ∧ n ≤ 64
def bitV (k p : Int) : Int := if isKey k ∧ isPlc p then hv k.toNat p.toNat % 2 else 0
def bitE (k p : Int) : Int := if isKey k ∧ isPlc p then 0 else 12
def lg (x : Int) : Int := ((x.toNat.log2 : Nat) : Int)
def plc (a b : Int) : Int := if a = b then -1 else (((a.toNat ^^^ b.toNat).log2 : Nat) : Int)
def placeV (a b : Int) : Int := if isKey a ∧ isKey b then plc a b else 0
def placeE (a b : Int) : Int := if isKey a ∧ isKey b then 0 else 12
def partV (k n : Int) : Int := if isKey k ∧ isNum n then k * n / 4294967296 else 0
def partE (k n : Int) : Int := if isKey k then (if isNum n then 0 else 13) else 12
def leastV (p n : Int) : Int := (p * 4294967296 + n - 1) / n
def loV (p n : Int) : Int := if isNum n ∧ 0 ≤ p ∧ p < n then leastV p n else 0
def hiV (p n : Int) : Int := if isNum n ∧ 0 ≤ p ∧ p < n then leastV (p + 1) n - 1 else 0
def rangeE (p n : Int) : Int := if isNum n ∧ 0 ≤ p ∧ p < n then 0 else 13

/- powers and halves -/
theorem p2_pos (i : Nat) : 1 ≤ p2 i := by
  have : 1 ≤ 2 ^ i := Nat.one_le_two_pow
  unfold p2; omega
theorem p2_le (i j : Nat) (h : i ≤ j) : p2 i ≤ p2 j := by
  have : 2 ^ i ≤ 2 ^ j := Nat.pow_le_pow_right (by omega) h
  unfold p2; omega
theorem p2_max (i : Nat) (h : i < 32) : p2 i ≤ 2147483648 := p2_le i 31 (by omega)
theorem p2_32 : p2 32 = 4294967296 := by decide
theorem p2_0 : p2 0 = 1 := by decide
theorem hv_half (A k : Nat) : hv A k / 2 = hv A (k + 1) := by
  unfold hv; rw [Nat.pow_succ, ← Nat.div_div_eq_div_mul]; omega
theorem hv_nonneg (A k : Nat) : 0 ≤ hv A k := Int.natCast_nonneg _
theorem hv_le (A k : Nat) : hv A k ≤ A := by
  have := Nat.div_le_self A (2 ^ k)
  unfold hv; omega
theorem hv_zero (A : Nat) : hv A 0 = A := by simp [hv]
theorem hv_end (A : Nat) (h : A < 4294967296) (k : Nat) (hk : 32 ≤ k) : hv A k = 0 := by
  have : A / 2 ^ k = 0 := Nat.div_eq_of_lt (Nat.lt_of_lt_of_le h (Nat.pow_le_pow_right (n := 2) (by omega) hk))
  unfold hv; omega
theorem lg_of (x : Int) (p : Nat) (h0 : p2 p ≤ x) (h1 : x < p2 (p + 1)) : (p : Int) = lg x := by
  have hx := p2_pos p
  unfold lg
  have : x.toNat.log2 = p := by
    rw [Nat.log2_eq_iff (by omega)]
    unfold p2 at h0 h1
    omega
  rw [this]
theorem xor_eq_zero {a b : Nat} : a ^^^ b = 0 ↔ a = b := by
  constructor
  · intro h
    have e : a ^^^ b ^^^ b = b := by rw [h]; simp
    rwa [Nat.xor_assoc, Nat.xor_self, Nat.xor_zero] at e
  · rintro rfl; simp
theorem xor_div (a b k : Nat) : (a ^^^ b) / 2 ^ k = a / 2 ^ k ^^^ b / 2 ^ k := by
  have := @Nat.shiftRight_xor_distrib k a b
  simpa [Nat.shiftRight_eq_div_pow] using this
theorem log2_xor (A B k : Nat) (h1 : A / 2 ^ (k + 1) = B / 2 ^ (k + 1)) (h2 : A / 2 ^ k ≠ B / 2 ^ k) : (A ^^^ B).log2 = k := by
  have e1 : (A ^^^ B) / 2 ^ (k + 1) = 0 := by rw [xor_div, h1]; simp
  have e2 : (A ^^^ B) / 2 ^ k ≠ 0 := by rw [xor_div]; intro h; exact h2 (xor_eq_zero.1 h)
  have hp : 0 < 2 ^ k := Nat.two_pow_pos k
  have hp' : 0 < 2 ^ (k + 1) := Nat.two_pow_pos _
  have l1 : A ^^^ B < 2 ^ (k + 1) := by
    rcases Nat.div_eq_zero_iff.1 e1 with h | h
    · omega
    · exact h
  have l2 : 2 ^ k ≤ A ^^^ B := by
    rcases Nat.lt_or_ge (A ^^^ B) (2 ^ k) with h | h
    · exact absurd (Nat.div_eq_of_lt h) e2
    · exact h
  exact (Nat.log2_eq_iff (by omega)).2 ⟨l2, l1⟩
/- what the place says, back: of two unlike keys -/
theorem plc_spec (a b : Int) (ha : isKey a) (hb : isKey b) (hne : a ≠ b) : ∃ k : Nat, k < 32 ∧ plc a b = k ∧ a.toNat / 2 ^ (k + 1) = b.toNat / 2 ^ (k + 1) ∧ a.toNat / 2 ^ k ≠ b.toNat / 2 ^ k := by
  unfold isKey at ha hb
  have hx : a.toNat ^^^ b.toNat ≠ 0 := by intro h; have := xor_eq_zero.1 h; omega
  have hlt : a.toNat ^^^ b.toNat < 2 ^ 32 := Nat.xor_lt_two_pow (by omega) (by omega)
  obtain ⟨l1, l2⟩ := (Nat.log2_eq_iff hx).1 (rfl : (a.toNat ^^^ b.toNat).log2 = _)
  refine ⟨(a.toNat ^^^ b.toNat).log2, (Nat.log2_lt hx).2 hlt, by simp [plc, hne], ?_, ?_⟩
  · apply xor_eq_zero.1; rw [← xor_div]; exact Nat.div_eq_of_lt l2
  · intro h
    have := xor_eq_zero.2 h
    rw [← xor_div] at this
    have hp : 0 < 2 ^ (a.toNat ^^^ b.toNat).log2 := Nat.two_pow_pos _
    rcases Nat.div_eq_zero_iff.1 this with h | h <;> omega
/- the loop of the reference -/
theorem plc_of (a b : Int) (k : Nat) (h1 : hv a.toNat (k + 1) = hv b.toNat (k + 1)) (h2 : hv a.toNat k ≠ hv b.toNat k) : (k : Int) = plc a b := by
  have hne : a ≠ b := by rintro rfl; exact h2 rfl
  unfold hv at h1 h2
  rw [plc, if_neg hne, log2_xor a.toNat b.toNat k (by omega) (by omega)]
theorem plc_same (a : Int) : plc a a = -1 := by simp [plc]
theorem plc_xor (a b : Int) (ha : isKey a) (hb : isKey b) (hne : a ≠ b) : lg (bits .xor .i64 a b) = plc a b ∧ 0 < bits .xor .i64 a b ∧ bits .xor .i64 a b < 4294967296 := by
  unfold isKey at ha hb
  have e : bits .xor .i64 a b = ((a.toNat ^^^ b.toNat : Nat) : Int) := by
    have := i64_xor_nat a.toNat b.toNat (by omega) (by omega)
    rwa [Int.toNat_of_nonneg ha.1, Int.toNat_of_nonneg hb.1] at this
  have hx : a.toNat ^^^ b.toNat ≠ 0 := by intro h; have := xor_eq_zero.1 h; omega
  have hlt : a.toNat ^^^ b.toNat < 2 ^ 32 := Nat.xor_lt_two_pow (by omega) (by omega)
  rw [e]
  refine ⟨?_, by omega, by omega⟩
  simp [lg, plc, hne]
/- bits -/
theorem and_p2 (K i : Nat) (hK : K < 4294967296) (hi : i < 32) : bits .and .i64 (K : Int) (p2 i) = if hv K i % 2 = 0 then 0 else p2 i := by
  have hm : (2 : Nat) ^ i ≤ 2 ^ 31 := Nat.pow_le_pow_right (by omega) (by omega)
  unfold p2
  rw [i64_and_nat K (2 ^ i) (by omega) (by omega)]
  have hb : K.testBit i = decide (K / 2 ^ i % 2 = 1) := by rw [Nat.testBit_eq_decide_div_mod_eq]
  unfold hv
  by_cases h : K / 2 ^ i % 2 = 1
  · have e : K &&& 2 ^ i = 2 ^ i := by
      apply Nat.eq_of_testBit_eq
      intro j
      rw [Nat.testBit_and, Nat.testBit_two_pow]
      by_cases hj : i = j
      · subst hj; simp [hb, h]
      · simp [hj]
    rw [if_neg (by omega), e]
  · have e : K &&& 2 ^ i = 0 := by
      apply Nat.eq_of_testBit_eq
      intro j
      rw [Nat.testBit_and, Nat.testBit_two_pow]
      by_cases hj : i = j
      · subst hj; simp [hb, h]
      · simp [hj]
    rw [if_pos (by omega), e]; rfl
/- parts -/
theorem mul_bd (a b m n : Int) (ha : 0 ≤ a) (hb : 0 ≤ b) (h1 : a ≤ m) (h2 : b ≤ n) : 0 ≤ a * b ∧ a * b ≤ m * n := by
  refine ⟨Int.mul_nonneg ha hb, ?_⟩
  exact Int.mul_le_mul h1 h2 hb (by omega)
theorem least_iff (p n k : Int) (hn : 1 ≤ n) (h1 : p * 4294967296 ≤ k * n) (h2 : k * n < p * 4294967296 + n) : k = leastV p n := by
  unfold leastV
  symm
  rw [Int.ediv_eq_iff_of_pos (by omega)]
  constructor <;> omega
/- the answers, way by way -/
theorem part_ok (k n : Int) (h0 : 0 ≤ k) (h1 : k ≤ 4294967295) (h2 : 1 ≤ n) (h3 : n ≤ 64) : partV k n = k * n / 4294967296 ∧ partE k n = 0 := by
  simp [partV, partE, isKey, isNum, h0, h1, h2, h3]
theorem part_badK (k n : Int) (h : k < 0 ∨ 4294967295 < k) : partV k n = 0 ∧ partE k n = 12 := by
  have hk : ¬ isKey k := by unfold isKey; omega
  simp [partV, partE, hk]
theorem part_badN (k n : Int) (h0 : 0 ≤ k) (h1 : k ≤ 4294967295) (h : n < 1 ∨ 64 < n) : partV k n = 0 ∧ partE k n = 13 := by
  have hn : ¬ isNum n := by unfold isNum; omega
  simp [partV, partE, isKey, hn, h0, h1]
theorem range_ok (p n : Int) (h0 : 0 ≤ p) (h1 : p < n) (h2 : 1 ≤ n) (h3 : n ≤ 64) : loV p n = leastV p n ∧ hiV p n = leastV (p + 1) n - 1 ∧ rangeE p n = 0 := by
  simp [loV, hiV, rangeE, isNum, h0, h1, h2, h3]
theorem range_bad (p n : Int) (h : n < 1 ∨ 64 < n ∨ p < 0 ∨ n ≤ p) : loV p n = 0 ∧ hiV p n = 0 ∧ rangeE p n = 13 := by
  have hn : ¬ (isNum n ∧ 0 ≤ p ∧ p < n) := by unfold isNum; omega
  unfold loV hiV rangeE
  exact ⟨if_neg hn, if_neg hn, if_neg hn⟩
theorem bit_bad (k p : Int) (h : k < 0 ∨ 4294967295 < k ∨ p < 0 ∨ 31 < p) : bitV k p = 0 ∧ bitE k p = 12 := by
  have hn : ¬ (isKey k ∧ isPlc p) := by unfold isKey isPlc; omega
  unfold bitV bitE
  exact ⟨if_neg hn, if_neg hn⟩
theorem bit_ok (K P : Nat) (h1 : K < 4294967296) (h3 : P < 32) : bitV K P = hv K P % 2 ∧ bitE K P = 0 := by
  have hn : isKey (K : Int) ∧ isPlc (P : Int) := by unfold isKey isPlc; omega
  unfold bitV bitE
  exact ⟨if_pos hn, if_pos hn⟩
theorem place_bad (a b : Int) (h : a < 0 ∨ 4294967295 < a ∨ b < 0 ∨ 4294967295 < b) : placeV a b = 0 ∧ placeE a b = 12 := by
  have hn : ¬ (isKey a ∧ isKey b) := by unfold isKey; omega
  unfold placeV placeE
  exact ⟨if_neg hn, if_neg hn⟩
theorem place_ok (a b : Int) (h0 : 0 ≤ a) (h1 : a ≤ 4294967295) (h2 : 0 ≤ b) (h3 : b ≤ 4294967295) : placeV a b = plc a b ∧ placeE a b = 0 := by
  have hn : isKey a ∧ isKey b := by unfold isKey; omega
  unfold placeV placeE
  exact ⟨if_pos hn, if_pos hn⟩
theorem least_bd (p n : Int) (h0 : 0 ≤ p) (h1 : p ≤ n) (h2 : 1 ≤ n) : 0 ≤ leastV p n ∧ leastV p n ≤ 4294967296 := by
  unfold leastV
  constructor
  · exact Int.ediv_nonneg (by omega) (by omega)
  · have h := Int.mul_le_mul_of_nonneg_right h1 (by omega : (0 : Int) ≤ 4294967296)
    have : (p * 4294967296 + n - 1) < (4294967296 + 1) * n := by rw [Int.add_mul]; omega
    have := (Int.ediv_lt_iff_lt_mul (by omega)).2 this
    omega
/- the reference's search: it begins at or below the answer -/
theorem first_start (p n : Int) (h0 : 0 ≤ p) (h2 : 1 ≤ n) : 0 ≤ p * 4294967296 / n ∧ p * 4294967296 / n * n ≤ p * 4294967296 := by
  exact ⟨Int.ediv_nonneg (by omega) (by omega), Int.ediv_mul_le _ (by omega)⟩
end Go.Proofs.YtkcnchpaobjdaaaDoor
