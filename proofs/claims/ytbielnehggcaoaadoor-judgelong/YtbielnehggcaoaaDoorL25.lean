/-
  Plain mathematics of words, keys and parts; nothing of the program: the answers of the document as functions on integers, and what they do.
-/
import Derived.Laws.Bits64
import Derived.Test.YtbielnehggcaoaaDoorL24
namespace Go.Proofs.YtbielnehggcaoaaDoor

def packV (i t : Int) : Int := if (0 ≤ i ∧ i ≤ 1048575) ∧ (0 ≤ t ∧ t ≤ 1099511627775) then i * 1099511627776 + t else 0
def packE (i t : Int) : Int := if 0 ≤ i ∧ i ≤ 1048575 then (if 0 ≤ t ∧ t ≤ 1099511627775 then 0 else 11) else 10
def idxV (w : Int) : Int := if 0 ≤ w ∧ w ≤ 1152921504606846975 then w / 1099511627776 else 0
def tagV (w : Int) : Int := if 0 ≤ w ∧ w ≤ 1152921504606846975 then w % 1099511627776 else 0
def nextV (w i : Int) : Int := if (0 ≤ i ∧ i ≤ 1048575) ∧ (0 ≤ w ∧ w ≤ 1152921504606846975) then i * 1099511627776 + (w % 1099511627776 + 1) % 1099511627776 else 0
def nextE (w i : Int) : Int := if 0 ≤ i ∧ i ≤ 1048575 then (if 0 ≤ w ∧ w ≤ 1152921504606846975 then 0 else 11) else 10

/- bit operations on integers of 64 bits that are not below 0 -/
theorem ofInt_i64 (a : Nat) (ha : a < 9223372036854775808) : (BitVec.ofInt 64 (a : Int)).toNat = a := by
  rw [BitVec.ofInt_natCast, BitVec.toNat_ofNat]; exact Nat.mod_eq_of_lt (by omega)
theorem wrapI64 (n : Int) (h0 : 0 ≤ n) (h : n < 9223372036854775808) : IntKind.i64.wrap n = n := by
  simp [IntKind.wrap, IntKind.bits, IntKind.signed]; omega
theorem i64_and_nat (a b : Nat) (ha : a < 9223372036854775808) (hb : b < 9223372036854775808) : bits .and .i64 (a : Int) (b : Int) = ((a &&& b : Nat) : Int) := by
  have hx : a &&& b ≤ a := Nat.and_le_left
  show IntKind.i64.wrap ((BitVec.ofInt 64 (a : Int) &&& BitVec.ofInt 64 (b : Int)).toNat : Int) = _
  rw [BitVec.toNat_and, ofInt_i64 a ha, ofInt_i64 b hb]
  exact wrapI64 _ (by omega) (by omega)
theorem i64_or_nat (a b : Nat) (ha : a < 9223372036854775808) (hb : b < 9223372036854775808) : bits .or .i64 (a : Int) (b : Int) = ((a ||| b : Nat) : Int) := by
  have hx : a ||| b < 2 ^ 63 := Nat.or_lt_two_pow (by omega) (by omega)
  show IntKind.i64.wrap ((BitVec.ofInt 64 (a : Int) ||| BitVec.ofInt 64 (b : Int)).toNat : Int) = _
  rw [BitVec.toNat_or, ofInt_i64 a ha, ofInt_i64 b hb]
  exact wrapI64 _ (by omega) (by omega)
theorem i64_xor_nat (a b : Nat) (ha : a < 9223372036854775808) (hb : b < 9223372036854775808) : bits .xor .i64 (a : Int) (b : Int) = ((a ^^^ b : Nat) : Int) := by
  have hx : a ^^^ b < 2 ^ 63 := Nat.xor_lt_two_pow (by omega) (by omega)
  show IntKind.i64.wrap ((BitVec.ofInt 64 (a : Int) ^^^ BitVec.ofInt 64 (b : Int)).toNat : Int) = _
  rw [BitVec.toNat_xor, ofInt_i64 a ha, ofInt_i64 b hb]
  exact wrapI64 _ (by omega) (by omega)
theorem i64_and_mask (a : Int) (k : Nat) (m : Int) (hm : m = 2 ^ k - 1) (hk : k < 63) (h0 : 0 ≤ a) (ha : a < 9223372036854775808) : bits .and .i64 a m = a % (m + 1) := by
  obtain ⟨A, rfl⟩ := Int.eq_ofNat_of_zero_le h0
  have h2 : 2 ^ k < 2 ^ 63 := Nat.pow_lt_pow_right (by omega) hk
  have h1 : 1 ≤ 2 ^ k := Nat.one_le_two_pow
  have e : m = ((2 ^ k - 1 : Nat) : Int) := by
    rw [hm]; push_cast [h1]; rfl
  rw [e, i64_and_nat A _ (by omega) (by omega), Nat.and_two_pow_sub_one_eq_mod]
  push_cast [h1]
  congr 1
  omega
theorem i64_or_join (i t : Int) (h0 : 0 ≤ i) (h1 : i ≤ 1048575) (h2 : 0 ≤ t) (h3 : t ≤ 1099511627775) : bits .or .i64 (i * 1099511627776) t = i * 1099511627776 + t := by
  obtain ⟨I, rfl⟩ := Int.eq_ofNat_of_zero_le h0
  obtain ⟨T, rfl⟩ := Int.eq_ofNat_of_zero_le h2
  have hT : T < 2 ^ 40 := by omega
  have e := Nat.two_pow_add_eq_or_of_lt hT I
  have e1 : ((I : Int) * 1099511627776) = ((2 ^ 40 * I : Nat) : Int) := by omega
  rw [e1, i64_or_nat _ _ (by omega) (by omega), ← e]
  omega
theorem i64_and_index (x : Int) (h0 : 0 ≤ x) (h1 : x ≤ 1152921504606846975) : bits .and .i64 (x / 1099511627776) 1048575 = x / 1099511627776 := by
  rw [i64_and_mask _ 20 1048575 (by decide) (by decide) (by omega) (by omega)]; omega
theorem i64_and_tag (x : Int) (h0 : 0 ≤ x) (h1 : x ≤ 1152921504606846976) : bits .and .i64 x 1099511627775 = x % 1099511627776 := by
  rw [i64_and_mask _ 40 1099511627775 (by decide) (by decide) (by omega) (by omega)]; omega
/- the answers, way by way -/
theorem pack_ok (i t : Int) (h0 : 0 ≤ i) (h1 : i ≤ 1048575) (h2 : 0 ≤ t) (h3 : t ≤ 1099511627775) : packV i t = i * 1099511627776 + t ∧ packE i t = 0 := by
  simp [packV, packE, h0, h1, h2, h3]
theorem pack_badI (i t : Int) (h : i < 0 ∨ 1048575 < i) : packV i t = 0 ∧ packE i t = 10 := by
  unfold packV packE; constructor
  · rw [if_neg (by omega)]
  · rw [if_neg (by omega)]
theorem pack_badT (i t : Int) (h0 : 0 ≤ i) (h1 : i ≤ 1048575) (h : t < 0 ∨ 1099511627775 < t) : packV i t = 0 ∧ packE i t = 11 := by
  unfold packV packE; constructor
  · rw [if_neg (by omega)]
  · rw [if_pos (by omega), if_neg (by omega)]
theorem idx_ok (x : Int) (h0 : 0 ≤ x) (h1 : x ≤ 1152921504606846975) : idxV x = x / 1099511627776 := by simp [idxV, h0, h1]
theorem idx_bad (x : Int) (h : x < 0 ∨ 1152921504606846975 < x) : idxV x = 0 := by unfold idxV; rw [if_neg (by omega)]
theorem tag_ok (x : Int) (h0 : 0 ≤ x) (h1 : x ≤ 1152921504606846975) : tagV x = x % 1099511627776 := by simp [tagV, h0, h1]
theorem tag_bad (x : Int) (h : x < 0 ∨ 1152921504606846975 < x) : tagV x = 0 := by unfold tagV; rw [if_neg (by omega)]
theorem next_ok (x i : Int) (h0 : 0 ≤ i) (h1 : i ≤ 1048575) (h2 : 0 ≤ x) (h3 : x ≤ 1152921504606846975) : nextV x i = i * 1099511627776 + (x % 1099511627776 + 1) % 1099511627776 ∧ nextE x i = 0 := by
  simp [nextV, nextE, h0, h1, h2, h3]
theorem next_badI (x i : Int) (h : i < 0 ∨ 1048575 < i) : nextV x i = 0 ∧ nextE x i = 10 := by
  unfold nextV nextE; constructor
  · rw [if_neg (by omega)]
  · rw [if_neg (by omega)]
theorem next_badW (x i : Int) (h0 : 0 ≤ i) (h1 : i ≤ 1048575) (h : x < 0 ∨ 1152921504606846975 < x) : nextV x i = 0 ∧ nextE x i = 11 := by
  unfold nextV nextE; constructor
  · rw [if_neg (by omega)]
  · rw [if_pos (by omega), if_neg (by omega)]
theorem ret_int {k : IntKind} {a b : Int} (h : a = b) : Ending.returned (.int k a) = .returned (.int k b) := by rw [h]
theorem ret_two {k l : IntKind} {a b c d : Int} (h : a = c) (g : b = d) : Ending.returned (.tuple #[.int k a, .int l b]) = .returned (.tuple #[.int k c, .int l d]) := by rw [h, g]
theorem ret_three {k l m : IntKind} {a b c d e f : Int} (h : a = d) (g : b = e) (i : c = f) : Ending.returned (.tuple #[.int k a, .int l b, .int m c]) = .returned (.tuple #[.int k d, .int l e, .int m f]) := by rw [h, g, i]
end Go.Proofs.YtbielnehggcaoaaDoor
/-
  Numbers one behind the other; deeds that are gathered; by contract. (By the verifier; no statement.)
-/
namespace Go.Proofs.YtbielnehggcaoaaDoor
open Go.RowKit
set_option maxHeartbeats 800000 in
theorem cPlace {k n : Int} (w : World) (hn : 0 < n) (hn2 : n ≤ 4000000000) : Calls Tryd.prog 26 #[.int .i64 k, .int .i64 n] w fun r w' => (∃ q : Int, r = .returned (.int .i64 q) ∧ 0 ≤ q ∧ q < n) ∧ w' = w := by
  have h1 : -n < Int.tmod k n := by
    have h := Int.tmod_lt_of_pos (-k) hn
    rw [Int.neg_tmod] at h
    omega
  have h2 : Int.tmod k n < n := Int.tmod_lt_of_pos k hn
  have h0 : n ≠ 0 := by omega
  by_cases g : Int.tmod k n < 0
  · have d1 : decide (Int.tmod k n < 0) = true := decide_eq_true g
    have e1 : wrap64 (Int.tmod k n) = Int.tmod k n := by unfold wrap64; omega
    have e2 : wrap64 (Int.tmod k n + n) = Int.tmod k n + n := by unfold wrap64; omega
    go_enter Tryd.func26, Tryd.ntmps26
    go_wp2
    go_ret
    exact ⟨⟨_, rfl, by omega, by omega⟩, rfl⟩
  · have d1 : decide (Int.tmod k n < 0) = false := decide_eq_false g
    have e1 : wrap64 (Int.tmod k n) = Int.tmod k n := by unfold wrap64; omega
    go_enter Tryd.func26, Tryd.ntmps26
    go_wp2
    go_ret
    exact ⟨⟨_, rfl, by omega, by omega⟩, rfl⟩
def tObj (x : Int) : Obj := .cells #[.int .i64 x] 60 (0, 0)
set_option maxHeartbeats 800000 in
theorem cNext {w : World} {tb : Nat} {x n : Int} (h : w.heap[tb]? = some (tObj x)) (hx : 0 ≤ x ∧ x < 2147483648) (hn : 0 < n) (hn2 : n ≤ 1000) : Calls Tryd.prog 28 #[.pointer (some ⟨tb, 0, none⟩), .int .i64 n] w fun r w' => ∃ q x' : Int, r = .returned (.int .i64 q) ∧ 0 ≤ q ∧ q < n ∧ 0 ≤ x' ∧ x' < 2147483648 ∧ w'.heap[tb]? = some (tObj x') ∧ Turned [tb] w w' := by
  have c0 : w.cell? ⟨tb, 0, none⟩ = some (.int .i64 x) := by rw [cell_at h]; rfl
  have f0 := froz_at h 0
  have hl := lt_of_heap h
  obtain ⟨x', hx'⟩ : ∃ x' : Int, x' = (x * 1103515 + 12345) % 2147483648 := ⟨_, rfl⟩
  have hb : 0 ≤ x' ∧ x' < 2147483648 := by omega
  have e1 : bits .and .i64 (x * 1103515 + 12345) 2147483647 = x' := by
    rw [i64_and_mask _ 31 2147483647 (by decide) (by decide) (by omega) (by omega), hx']
    rfl
  have H : Hid (w.heap[tb]? = some (tObj x)) := h
  have e3 : Int.tdiv x' 64 = x' / 64 := Int.tdiv_eq_ediv_of_nonneg hb.1
  have e4 : Int.tmod (x' / 64) n = (x' / 64) % n := Int.tmod_eq_emod_of_nonneg (by omega)
  have q1 : 0 ≤ (x' / 64) % n := Int.emod_nonneg _ (by omega)
  have q2 : (x' / 64) % n < n := Int.emod_lt_of_pos _ hn
  have h0 : n ≠ 0 := by omega
  clear h hx'
  go_enter Tryd.func28, Tryd.ntmps28
  go_wp2
  go_ret
  refine ⟨x' / 64 % n, x', ?_, q1, q2, hb.1, hb.2, ?_, ?_⟩
  · rfl
  · exact blk_set H.out 0 (.int .i64 x')
  · exact (Turned.refl [tb] w).set (by simp) 0 (.int .i64 x')
end Go.Proofs.YtbielnehggcaoaaDoor
