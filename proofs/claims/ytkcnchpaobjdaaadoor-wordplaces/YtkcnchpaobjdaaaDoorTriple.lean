/-
  Plain mathematics of the places of three keys and of the bits at and above a place; nothing of the program.
-/
import Derived.Test.YtkcnchpaobjdaaaDoorKeys
namespace Go.Proofs.YtkcnchpaobjdaaaDoor

theorem hv_up (A B i j : Nat) (h : hv A i = hv B i) (hij : i ≤ j) : hv A j = hv B j := by
  obtain ⟨d, rfl⟩ := Nat.exists_eq_add_of_le hij
  induction d with
  | zero => exact h
  | succ d ih => rw [← Nat.add_assoc, ← hv_half, ← hv_half, ih (by omega)]
theorem hv_mono (A B i : Nat) (h : A ≤ B) : hv A i ≤ hv B i := by
  have := Nat.div_le_div_right (c := 2 ^ i) h
  unfold hv; omega
/- the place, as a number: like -1, or the highest unlike bit -/
theorem plc_cases (a b : Int) (ha : isKey a) (hb : isKey b) : (a = b ∧ plc a b = -1) ∨ (a ≠ b ∧ ∃ k : Nat, k < 32 ∧ plc a b = k ∧ hv a.toNat (k + 1) = hv b.toNat (k + 1) ∧ hv a.toNat k ≠ hv b.toNat k) := by
  by_cases h : a = b
  · subst h; exact .inl ⟨rfl, plc_same a⟩
  · obtain ⟨k, k1, k2, k3, k4⟩ := plc_spec a b ha hb h
    refine .inr ⟨h, k, k1, k2, ?_, ?_⟩ <;> (unfold hv; omega)
theorem plc_symm (a b : Int) : plc b a = plc a b := by
  unfold plc
  by_cases h : a = b
  · subst h; rfl
  · rw [if_neg h, if_neg (fun e => h e.symm), Nat.xor_comm]
theorem plc_bd (a b : Int) (ha : isKey a) (hb : isKey b) : -1 ≤ plc a b ∧ plc a b ≤ 31 := by
  rcases plc_cases a b ha hb with ⟨_, h⟩ | ⟨_, k, h1, h2, _⟩ <;> omega
/- the same above m: just if the place is below m -/
theorem plc_lt (a b : Int) (ha : isKey a) (hb : isKey b) (m : Nat) : hv a.toNat m = hv b.toNat m ↔ plc a b < m := by
  rcases plc_cases a b ha hb with ⟨rfl, h⟩ | ⟨_, k, h1, h2, h3, h4⟩
  · constructor
    · intro _; omega
    · intro _; rfl
  · constructor
    · intro e
      rcases Nat.lt_or_ge k m with hk | hk
      · omega
      · exact absurd (hv_up _ _ m k e hk) h4
    · intro e
      exact hv_up _ _ (k + 1) m h3 (by omega)
theorem plc_tri (a b c : Int) (ha : isKey a) (hb : isKey b) (hc : isKey c) : plc a c ≤ max (plc a b) (plc b c) := by
  obtain ⟨l1, _⟩ := plc_bd a b ha hb
  obtain ⟨l2, _⟩ := plc_bd b c hb hc
  rcases Int.lt_or_le (max (plc a b) (plc b c)) (plc a c) with h | h
  · have hm : 0 ≤ max (plc a b) (plc b c) + 1 := by omega
    obtain ⟨m, hm'⟩ := Int.eq_ofNat_of_zero_le hm
    have e1 := (plc_lt a b ha hb m).2 (by omega)
    have e2 := (plc_lt b c hb hc m).2 (by omega)
    have := (plc_lt a c ha hc m).1 (e1.trans e2)
    omega
  · exact h
theorem plc_three (a b c : Int) (ha : isKey a) (hb : isKey b) (hc : isKey c) :
    (plc b c = plc a b ∧ plc a c ≤ plc a b) ∨ (plc a c = plc b c ∧ plc a b < plc b c) ∨ (plc a c = plc a b ∧ plc b c < plc a b) := by
  have t1 := plc_tri a b c ha hb hc
  have t2 := plc_tri a c b ha hc hb
  have t3 := plc_tri b a c hb ha hc
  rw [plc_symm b c] at t2
  rw [plc_symm a b] at t3
  omega
theorem plc_neg (a b : Int) (ha : isKey a) (hb : isKey b) : (plc a b == -1) = (a == b) := by
  rcases plc_cases a b ha hb with ⟨rfl, h⟩ | ⟨hne, k, h1, h2, _⟩
  · simp [h]
  · have e1 : (a == b) = false := by simpa using hne
    have e2 : (plc a b == -1) = false := by rw [h2, beq_eq_false_iff_ne]; omega
    rw [e1, e2]
theorem hv_bit (A i : Nat) : hv A i = 2 * hv A (i + 1) + hv A i % 2 := by
  have := hv_half A i; omega
/- the bits at the place, and above it -/
theorem bits_at (a b : Int) (ha : isKey a) (hb : isKey b) (i : Nat) (h : plc a b = i) :
    (bitV a i == bitV b i) = false ∧ ((bitV a i < bitV b i) ↔ a < b) := by
  rcases plc_cases a b ha hb with ⟨rfl, h'⟩ | ⟨hne, k, h1, h2, h3, h4⟩
  · omega
  · obtain rfl : i = k := by omega
    unfold isKey at ha hb
    have ea : bitV a i = hv a.toNat i % 2 := by
      have := (bit_ok a.toNat i (by omega) h1).1; rwa [Int.toNat_of_nonneg ha.1] at this
    have eb : bitV b i = hv b.toNat i % 2 := by
      have := (bit_ok b.toNat i (by omega) h1).1; rwa [Int.toNat_of_nonneg hb.1] at this
    have fa := hv_bit a.toNat i
    have fb := hv_bit b.toNat i
    have m1 := hv_mono a.toNat b.toNat i
    have m2 := hv_mono b.toNat a.toNat i
    rw [ea, eb, beq_eq_false_iff_ne]
    constructor
    · omega
    · constructor
      · intro hl
        rcases Int.lt_or_le a b with h | h
        · exact h
        · have := m2 (by omega); omega
      · intro hl
        have := m1 (by omega); omega
theorem bits_above (a b : Int) (ha : isKey a) (hb : isKey b) (i : Nat) (hi : i < 32) (h : plc a b < i) : bitV b i = bitV a i := by
  have e := (plc_lt a b ha hb i).2 h
  unfold isKey at ha hb
  have ea : bitV a i = hv a.toNat i % 2 := by
    have := (bit_ok a.toNat i (by omega) hi).1; rwa [Int.toNat_of_nonneg ha.1] at this
  have eb : bitV b i = hv b.toNat i % 2 := by
    have := (bit_ok b.toNat i (by omega) hi).1; rwa [Int.toNat_of_nonneg hb.1] at this
  rw [ea, eb, e]
end Go.Proofs.YtkcnchpaobjdaaaDoor
