/-
  What the program's and the reference's Bit and Place answer, at every input, where the table of bits is laid: the document's numbers; the world stays.
-/
import Derived.Test.YtkcnchpaobjdaaaDoorRows
import Derived.Test.YtkcnchpaobjdaaaDoorKeys
import Derived.WalkKit
import Derived.WalkSpells
import Derived.WalkLawsBesides
namespace Go.Proofs.YtkcnchpaobjdaaaDoor
open Go.RowKit
/- the table of bits lies in the world -/
def Tab (w : World) : Prop := ∀ i : Nat, i < 32 → w.cell? ⟨0, i, none⟩ = some (.int .i64 (p2 i))
theorem and_zero (K P : Nat) (hK : K < 4294967296) (hP : P < 32) : (bits .and .i64 (K : Int) (p2 P) == 0) = decide (hv K P % 2 = 0) := by
  have hp := p2_pos P
  rw [and_p2 K P hK hP]
  by_cases h : hv K P % 2 = 0
  · simp [h]
  · rw [if_neg h, decide_eq_false h]; simp; omega
set_option maxHeartbeats 400000 in
theorem cBit (k p : Int) (w : World) (ht : Tab w) :
    Calls Tryd.prog 19 #[.int .i64 k, .int .i64 p] w fun e w' => e = .returned (.tuple #[.int .i64 (bitV k p), .int .i64 (bitE k p)]) ∧ w' = w := by
  rcases (by omega : k < 0 ∨ 4294967295 < k ∨ (0 ≤ k ∧ k ≤ 4294967295 ∧ p < 0) ∨ (0 ≤ k ∧ k ≤ 4294967295 ∧ 31 < p) ∨ (0 ≤ k ∧ k ≤ 4294967295 ∧ 0 ≤ p ∧ p ≤ 31)) with h | h | ⟨h0, h1, h⟩ | ⟨h0, h1, h⟩ | ⟨h0, h1, h2, h3⟩
  · obtain ⟨e1, e2⟩ := bit_bad k p (.inl h)
    rw [e1, e2]
    clear e1 e2
    go_enter Tryd.func19, Tryd.ntmps19
    go_wp2
    go_ret2
    exact ⟨rfl, rfl⟩
  · obtain ⟨e1, e2⟩ := bit_bad k p (.inr (.inl h))
    rw [e1, e2]
    clear e1 e2
    have hd : decide (k ≤ 4294967295) = false := decide_eq_false (by omega)
    go_enter Tryd.func19, Tryd.ntmps19
    go_wp2
    go_ret2
    exact ⟨rfl, rfl⟩
  · obtain ⟨e1, e2⟩ := bit_bad k p (.inr (.inr (.inl h)))
    rw [e1, e2]
    clear e1 e2
    go_enter Tryd.func19, Tryd.ntmps19
    go_wp2
    go_ret2
    exact ⟨rfl, rfl⟩
  · obtain ⟨e1, e2⟩ := bit_bad k p (.inr (.inr (.inr h)))
    rw [e1, e2]
    clear e1 e2
    have hd : decide (p ≤ 31) = false := decide_eq_false (by omega)
    have hd' : decide (31 < p) = true := decide_eq_true (by omega)
    go_enter Tryd.func19, Tryd.ntmps19
    go_wp2
    go_ret2
    exact ⟨rfl, rfl⟩
  · obtain ⟨K, rfl⟩ := Int.eq_ofNat_of_zero_le h0
    obtain ⟨P, rfl⟩ := Int.eq_ofNat_of_zero_le h2
    obtain ⟨e1, e2⟩ := bit_ok K P (by omega) (by omega)
    rw [e1, e2]
    clear e1 e2
    have hc := ht P (by omega)
    clear ht
    have ha := and_zero K P (by omega) (by omega)
    by_cases hb : hv K P % 2 = 0
    · have hz : (bits .and .i64 (K : Int) (p2 P) == 0) = true := by rw [ha]; simp [hb]
      have HB : Hid (hv K P % 2 = 0) := hb
      clear ha hb
      go_enter Tryd.func19, Tryd.ntmps19
      go_wp2
      go_ret2
      exact ⟨ret_two HB.out.symm rfl, rfl⟩
    · have hz : (bits .and .i64 (K : Int) (p2 P) == 0) = false := by rw [ha]; simp [hb]
      have HB : Hid (hv K P % 2 = 1) := by show hv K P % 2 = 1; omega
      clear ha hb
      go_enter Tryd.func19, Tryd.ntmps19
      go_wp2
      go_ret2
      exact ⟨ret_two HB.out.symm rfl, rfl⟩
set_option maxHeartbeats 400000 in
theorem cBitR (k p : Int) (w : World) :
    Calls Tryd.prog 20 #[.int .i64 k, .int .i64 p] w fun e w' => e = .returned (.tuple #[.int .i64 (bitV k p), .int .i64 (bitE k p)]) ∧ w' = w := by
  rcases (by omega : k < 0 ∨ 4294967295 < k ∨ (0 ≤ k ∧ k ≤ 4294967295 ∧ p < 0) ∨ (0 ≤ k ∧ k ≤ 4294967295 ∧ 31 < p) ∨ (0 ≤ k ∧ k ≤ 4294967295 ∧ 0 ≤ p ∧ p ≤ 31)) with h | h | ⟨h0, h1, h⟩ | ⟨h0, h1, h⟩ | ⟨h0, h1, h2, h3⟩
  · obtain ⟨e1, e2⟩ := bit_bad k p (.inl h)
    rw [e1, e2]
    clear e1 e2
    go_enter Tryd.func20, Tryd.ntmps20
    go_wp2
    go_ret2
    exact ⟨rfl, rfl⟩
  · obtain ⟨e1, e2⟩ := bit_bad k p (.inr (.inl h))
    rw [e1, e2]
    clear e1 e2
    have hd : decide (k ≤ 4294967295) = false := decide_eq_false (by omega)
    go_enter Tryd.func20, Tryd.ntmps20
    go_wp2
    go_ret2
    exact ⟨rfl, rfl⟩
  · obtain ⟨e1, e2⟩ := bit_bad k p (.inr (.inr (.inl h)))
    rw [e1, e2]
    clear e1 e2
    go_enter Tryd.func20, Tryd.ntmps20
    go_wp2
    go_ret2
    exact ⟨rfl, rfl⟩
  · obtain ⟨e1, e2⟩ := bit_bad k p (.inr (.inr (.inr h)))
    rw [e1, e2]
    clear e1 e2
    have hd : decide (p ≤ 31) = false := decide_eq_false (by omega)
    have hd' : decide (31 < p) = true := decide_eq_true (by omega)
    go_enter Tryd.func20, Tryd.ntmps20
    go_wp2
    go_ret2
    exact ⟨rfl, rfl⟩
  · obtain ⟨K, rfl⟩ := Int.eq_ofNat_of_zero_le h0
    obtain ⟨P, rfl⟩ := Int.eq_ofNat_of_zero_le h2
    obtain ⟨e1, e2⟩ := bit_ok K P (by omega) (by omega)
    rw [e1, e2]
    clear e1 e2
    go_enter Tryd.func20, Tryd.ntmps20
    go_wp2
    go_loop [0, 6] (fun a i => ∃ j : Nat, j ≤ P ∧ a = .int .i64 (hv K j) ∧ i = .int .i64 j) (fun _ i => P - (intOf i).toNat)
    case atStart => exact ⟨0, Nat.zero_le _, by rw [hv_zero], rfl⟩
    case round =>
      obtain ⟨j, hj, rfl, rfl⟩ := hrel
      have g0 := hv_nonneg K j
      have g1 := hv_le K j
      by_cases hlt : j < P
      · go_wp2
        go_round
        case rel => exact ⟨j + 1, by omega, by rw [← hv_half], by go_num⟩
        case measure => simp [intOf]; omega
      · have HJ : Hid (j = P) := by show j = P; omega
        go_wp2
        go_ret2
        exact ⟨ret_two (by rw [HJ.out]) rfl, rfl⟩
set_option maxHeartbeats 400000 in
theorem cHighest (x : Int) (w : World) (ht : Tab w) (h0 : 0 < x) (h1 : x < 4294967296) :
    Calls Tryd.prog 31 #[.int .i64 x] w fun e w' => e = .returned (.int .i64 (lg x)) ∧ w' = w := by
  have HT : Hid (Tab w) := ht
  clear ht
  go_enter Tryd.func31, Tryd.ntmps31
  go_wp2
  go_loop [3, 4] (fun a i => ∃ p h wd : Nat, ((h = 0 ∧ wd = 1) ∨ (wd = 2 * h ∧ (h = 1 ∨ h = 2 ∨ h = 4 ∨ h = 8 ∨ h = 16))) ∧ p + wd ≤ 32 ∧ p2 p ≤ x ∧ x < p2 (p + wd) ∧ a = .int .i64 p ∧ i = .int .i64 h) (fun _ i => (intOf i).toNat)
  case atStart => exact ⟨0, 16, 32, by omega, by omega, by rw [p2_0]; omega, by rw [Nat.zero_add, p2_32]; omega, rfl, rfl⟩
  case round =>
    obtain ⟨p, h, wd, hq, hp, hlo, hhi, rfl, rfl⟩ := hrel
    have HQ : Hid ((h = 0 ∧ wd = 1) ∨ (wd = 2 * h ∧ (h = 1 ∨ h = 2 ∨ h = 4 ∨ h = 8 ∨ h = 16))) := hq
    by_cases hz : h = 0
    · have HZ : Hid (wd = 1) := by show wd = 1; omega
      clear hq
      subst hz
      go_wp2
      go_ret
      exact ⟨ret_int (lg_of x p hlo (by rw [HZ.out] at hhi; exact hhi)), rfl⟩
    · have hh : 0 < h := by omega
      have h16 : h ≤ 16 := by omega
      have HW : Hid (wd = h + h) := by show wd = h + h; omega
      have hph : p + h < 32 := by omega
      have HN : Hid ((h / 2 = 0 ∧ h = 1) ∨ (h = 2 * (h / 2) ∧ (h / 2 = 1 ∨ h / 2 = 2 ∨ h / 2 = 4 ∨ h / 2 = 8 ∨ h / 2 = 16))) := by show _ ∨ _; omega
      have hpp : p + h + h ≤ 32 := by omega
      have HH : Hid (x < p2 (p + wd)) := hhi
      clear hq hz hhi hp
      have hc := HT.out (p + h) hph
      by_cases ht : p2 (p + h) ≤ x
      · go_wp2
        go_round
        case rel => exact ⟨p + h, h / 2, h, HN.out, by omega, ht, by have := HH.out; rw [HW.out, ← Nat.add_assoc] at this; exact this, by go_num, by go_num⟩
        case measure => simp [intOf]; omega
      · go_wp2
        go_round
        case rel => exact ⟨p, h / 2, h, HN.out, by omega, hlo, by omega, by go_num, by go_num⟩
        case measure => simp [intOf]; omega
set_option maxHeartbeats 400000 in
theorem cPlace (a b : Int) (w : World) (ht : Tab w) :
    Calls Tryd.prog 21 #[.int .i64 a, .int .i64 b] w fun e w' => e = .returned (.tuple #[.int .i64 (placeV a b), .int .i64 (placeE a b)]) ∧ w' = w := by
  have HT : Hid (Tab w) := ht
  clear ht
  rcases (by omega : a < 0 ∨ 4294967295 < a ∨ (0 ≤ a ∧ a ≤ 4294967295 ∧ b < 0) ∨ (0 ≤ a ∧ a ≤ 4294967295 ∧ 4294967295 < b) ∨ (0 ≤ a ∧ a ≤ 4294967295 ∧ 0 ≤ b ∧ b ≤ 4294967295)) with h | h | ⟨h0, h1, h⟩ | ⟨h0, h1, h⟩ | ⟨h0, h1, h2, h3⟩
  · obtain ⟨e1, e2⟩ := place_bad a b (.inl h)
    rw [e1, e2]
    clear e1 e2
    go_enter Tryd.func21, Tryd.ntmps21
    go_wp2
    go_ret2
    exact ⟨rfl, rfl⟩
  · obtain ⟨e1, e2⟩ := place_bad a b (.inr (.inl h))
    rw [e1, e2]
    clear e1 e2
    have hd : decide (a ≤ 4294967295) = false := decide_eq_false (by omega)
    go_enter Tryd.func21, Tryd.ntmps21
    go_wp2
    go_ret2
    exact ⟨rfl, rfl⟩
  · obtain ⟨e1, e2⟩ := place_bad a b (.inr (.inr (.inl h)))
    rw [e1, e2]
    clear e1 e2
    go_enter Tryd.func21, Tryd.ntmps21
    go_wp2
    go_ret2
    exact ⟨rfl, rfl⟩
  · obtain ⟨e1, e2⟩ := place_bad a b (.inr (.inr (.inr h)))
    rw [e1, e2]
    clear e1 e2
    have hd : decide (b ≤ 4294967295) = false := decide_eq_false (by omega)
    go_enter Tryd.func21, Tryd.ntmps21
    go_wp2
    go_ret2
    exact ⟨rfl, rfl⟩
  · obtain ⟨e1, e2⟩ := place_ok a b h0 h1 h2 h3
    rw [e1, e2]
    clear e1 e2
    by_cases hab : a = b
    · subst hab
      rw [plc_same]
      go_enter Tryd.func21, Tryd.ntmps21
      go_wp2
      go_ret2
      exact ⟨rfl, rfl⟩
    · obtain ⟨x1, x2, x3⟩ := plc_xor a b ⟨h0, h1⟩ ⟨h2, h3⟩ hab
      have hne : (a == b) = false := by simpa using hab
      rw [← x1]
      clear x1 hab
      go_enter Tryd.func21, Tryd.ntmps21
      go_wp2_with (first | (go_at_call 31; refine (cHighest _ _ HT.out x2 x3).mono ?_; rintro e w' ⟨rfl, rfl⟩) | go_in)
      go_ret2
      exact ⟨ret_two rfl rfl, rfl⟩
set_option maxHeartbeats 400000 in
theorem cPlaceR (a b : Int) (w : World) :
    Calls Tryd.prog 22 #[.int .i64 a, .int .i64 b] w fun e w' => e = .returned (.tuple #[.int .i64 (placeV a b), .int .i64 (placeE a b)]) ∧ w' = w := by
  rcases (by omega : a < 0 ∨ 4294967295 < a ∨ (0 ≤ a ∧ a ≤ 4294967295 ∧ b < 0) ∨ (0 ≤ a ∧ a ≤ 4294967295 ∧ 4294967295 < b) ∨ (0 ≤ a ∧ a ≤ 4294967295 ∧ 0 ≤ b ∧ b ≤ 4294967295)) with h | h | ⟨h0, h1, h⟩ | ⟨h0, h1, h⟩ | ⟨h0, h1, h2, h3⟩
  · obtain ⟨e1, e2⟩ := place_bad a b (.inl h)
    rw [e1, e2]
    clear e1 e2
    go_enter Tryd.func22, Tryd.ntmps22
    go_wp2
    go_ret2
    exact ⟨rfl, rfl⟩
  · obtain ⟨e1, e2⟩ := place_bad a b (.inr (.inl h))
    rw [e1, e2]
    clear e1 e2
    have hd : decide (a ≤ 4294967295) = false := decide_eq_false (by omega)
    go_enter Tryd.func22, Tryd.ntmps22
    go_wp2
    go_ret2
    exact ⟨rfl, rfl⟩
  · obtain ⟨e1, e2⟩ := place_bad a b (.inr (.inr (.inl h)))
    rw [e1, e2]
    clear e1 e2
    go_enter Tryd.func22, Tryd.ntmps22
    go_wp2
    go_ret2
    exact ⟨rfl, rfl⟩
  · obtain ⟨e1, e2⟩ := place_bad a b (.inr (.inr (.inr h)))
    rw [e1, e2]
    clear e1 e2
    have hd : decide (b ≤ 4294967295) = false := decide_eq_false (by omega)
    go_enter Tryd.func22, Tryd.ntmps22
    go_wp2
    go_ret2
    exact ⟨rfl, rfl⟩
  · obtain ⟨e1, e2⟩ := place_ok a b h0 h1 h2 h3
    rw [e1, e2]
    clear e1 e2
    obtain ⟨A, rfl⟩ := Int.eq_ofNat_of_zero_le h0
    obtain ⟨B, rfl⟩ := Int.eq_ofNat_of_zero_le h2
    go_enter Tryd.func22, Tryd.ntmps22
    go_wp2
    go_loop [0, 1, 6] (fun x y n => ∃ j : Nat, j ≤ 32 ∧ (∀ i : Nat, j = i + 1 → hv A i ≠ hv B i) ∧ x = .int .i64 (hv A j) ∧ y = .int .i64 (hv B j) ∧ n = .int .i64 ((j : Int) - 1)) (fun _ _ n => (32 - intOf n).toNat)
    case atStart => exact ⟨0, by omega, fun i hi => by omega, by rw [hv_zero], by rw [hv_zero], rfl⟩
    case round =>
      obtain ⟨j, hj, hne, rfl, rfl, rfl⟩ := hrel
      have HN : Hid (∀ i : Nat, j = i + 1 → hv A i ≠ hv B i) := hne
      clear hne
      have g0 := hv_nonneg A j
      have g1 := hv_le A j
      have g2 := hv_nonneg B j
      have g3 := hv_le B j
      by_cases he : hv A j = hv B j
      · have HE : Hid (hv A j = hv B j) := he
        have hb : (hv A j != hv B j) = false := by simp [he]
        clear he
        go_wp2
        go_ret2
        refine ⟨ret_two ?_ rfl, rfl⟩
        cases j with
        | zero =>
          have := HE.out
          rw [hv_zero, hv_zero] at this
          rw [this, plc_same]; rfl
        | succ i =>
          have := plc_of (A : Int) (B : Int) i (by simpa using HE.out) (by simpa using HN.out i rfl)
          rw [← this]; omega
      · have HE : Hid (hv A j ≠ hv B j) := he
        have hb : (hv A j != hv B j) = true := by simpa using he
        have hj' : j < 32 := by
          rcases Nat.lt_or_ge j 32 with h | h
          · exact h
          · exact absurd (by rw [hv_end A (by omega) j h, hv_end B (by omega) j h]) he
        clear he
        go_wp2
        go_round
        case rel => exact ⟨j + 1, by omega, fun i hi => by obtain rfl : j = i := by omega
                                                           exact HE.out, by rw [← hv_half], by rw [← hv_half], by go_num⟩
        case measure => simp [intOf]; omega
end Go.Proofs.YtkcnchpaobjdaaaDoor
