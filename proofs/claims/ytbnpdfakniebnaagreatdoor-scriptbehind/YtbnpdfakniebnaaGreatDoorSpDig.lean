/-
  The number that a word is: digits and numberOf by contract. (By the verifier; no statement.)
-/
import Derived.Test.YtbnpdfakniebnaaGreatDoorProg
import Derived.Test.YtbnpdfakniebnaaGreatDoorMem
import Derived.Test.YtbnpdfakniebnaaGreatDoorSpMath
namespace Go.Proofs.YtbnpdfakniebnaaGreatDoor
open Go.RowKit
theorem digG_fail {b : UInt8} {l : Bs} {n : Int} (h : (b.toNat : Int) - 48 < 0 ∨ 9 < (b.toNat : Int) - 48 ∨ (mostN - ((b.toNat : Int) - 48)) / 10 < n) : digG (b :: l) n = none := by
  rw [digG, if_pos h]
theorem digG_go {b : UInt8} {l : Bs} {n : Int} (h : ¬ ((b.toNat : Int) - 48 < 0 ∨ 9 < (b.toNat : Int) - 48 ∨ (mostN - ((b.toNat : Int) - 48)) / 10 < n)) : digG (b :: l) n = digG l (10 * n + ((b.toNat : Int) - 48)) := by
  rw [digG, if_neg h]
theorem drop_byte (s : ByteArray) {k : Nat} (h : k < s.size) : s.data.toList.drop k = s[k] :: s.data.toList.drop (k + 1) := by
  have h' : k < s.data.toList.length := by rw [← Lib.size_eq]; exact h
  rw [List.drop_eq_getElem_cons h']
  congr 1
set_option maxRecDepth 100000 in
set_option maxHeartbeats 3200000 in
theorem cDigits {s : ByteArray} {w : World} (hs : s.size ≤ 140737488355328) : Calls Tryz.prog 203 #[.string s] w fun r w' => r = .returned (.tuple #[.int .i64 ((digitsB s.data.toList).getD 0), .bool (digitsB s.data.toList).isSome]) ∧ w' = w := by
  by_cases h0 : s.size = 0
  · have e : s = ⟨#[]⟩ := by
      obtain ⟨d⟩ := s
      congr 1
      exact Array.eq_empty_of_size_eq_zero h0
    subst e
    go_enter Tryz.func203, Tryz.ntmps203
    go_wp2
    go_ret2
    exact ⟨rfl, rfl⟩
  · have hp : 0 < s.size := by omega
    have hne : ¬ s.toList = [] := fun e => by
      have := congrArg List.length e
      rw [ByteArray.toList_eq, ← Lib.size_eq] at this
      exact h0 this
    have hem : s.toList.isEmpty = false := by simpa using hne
    by_cases hz : s[0] = 48
    · have hr : Hid (digitsB s.data.toList = none) := by
        have := drop_byte s hp
        rw [List.drop_zero] at this
        rw [Hid, this, digitsB, hz]
        simp
      have hb : (((s[0]'hp).toNat : Int) == 48) = true := by rw [hz]; rfl
      clear hz
      go_enter Tryz.func203, Tryz.ntmps203
      go_wp2
      go_ret2
      rw [hr.out]
      exact ⟨rfl, rfl⟩
    · have hr : Hid (digitsB s.data.toList = digG s.data.toList 0) := by
        have := drop_byte s hp
        rw [List.drop_zero] at this
        rw [Hid, this, digitsB, if_neg]
        simp [hz]
      have hb : (((s[0]'hp).toNat : Int) == 48) = false := by
        rw [beq_eq_false_iff_ne]
        intro e
        exact hz (UInt8.toNat_inj.1 (by exact_mod_cast e))
      clear hz
      go_enter Tryz.func203, Tryz.ntmps203
      go_wp2
      go_loop [4, 16] (fun v i => ∃ k : Nat, k ≤ s.size ∧ i = .int .i64 k ∧ ∃ n : Int, v = .int .i64 n ∧ 0 ≤ n ∧ n ≤ 1152921504606846976 ∧ Hid (digG (s.data.toList.drop k) n = digG s.data.toList 0)) (fun _ i => s.size - (intOf i).toNat)
      case atStart => exact ⟨0, Nat.zero_le _, rfl, 0, rfl, by omega, by omega, by rw [Hid, List.drop_zero]⟩
      case round =>
        obtain ⟨k, hk, rfl, n, rfl, hn0, hn1, HD⟩ := hrel
        by_cases hlt : k < s.size
        · have hd := drop_byte s hlt
          have hx0 : (0 : Int) ≤ ((s[k]'hlt).toNat : Int) := by omega
          have hx1 : ((s[k]'hlt).toNat : Int) ≤ 255 := by have := (s[k]'hlt).toNat_lt; omega
          by_cases hf : (((s[k]'hlt).toNat : Int) - 48 < 0 ∨ 9 < ((s[k]'hlt).toNat : Int) - 48 ∨ (mostN - (((s[k]'hlt).toNat : Int) - 48)) / 10 < n)
          · have HR : Hid (digitsB s.data.toList = none) := by rw [Hid, hr.out, ← HD.out, hd, digG_fail hf]
            simp only [mostN] at hf
            clear hd HD hr
            go_wp2
            all_goals (go_ret2; rw [HR.out]; exact ⟨rfl, rfl⟩)
          · have HR : Hid (digG (s.data.toList.drop (k + 1)) (10 * n + (((s[k]'hlt).toNat : Int) - 48)) = digG s.data.toList 0) := by rw [Hid, ← HD.out, hd, digG_go hf]
            simp only [mostN] at hf
            clear hd HD
            go_wp2
            go_round
            case rel => exact ⟨k + 1, by omega, by go_num, _, rfl, by omega, by omega, HR⟩
            case measure => simp [intOf]; omega
        · obtain rfl : k = s.size := by omega
          have HR : Hid (digitsB s.data.toList = some n) := by
            rw [Hid, hr.out, ← HD.out, List.drop_eq_nil_of_le (by rw [← Lib.size_eq]; exact Nat.le_refl _)]
            rfl
          clear HD hr
          go_wp2
          go_ret2
          rw [HR.out]
          exact ⟨rfl, rfl⟩
/-- What a number of a text is. -/
theorem digG_le : ∀ (l : Bs) (n m : Int), 0 ≤ n → n ≤ mostN → digG l n = some m → 0 ≤ m ∧ m ≤ mostN
  | [], n, m, h0, h1, h => by cases h; exact ⟨h0, h1⟩
  | b :: l, n, m, h0, h1, h => by
    by_cases hf : ((b.toNat : Int) - 48 < 0 ∨ 9 < (b.toNat : Int) - 48 ∨ (mostN - ((b.toNat : Int) - 48)) / 10 < n)
    · rw [digG_fail hf] at h; cases h
    · rw [digG_go hf] at h
      simp only [mostN] at hf h1
      exact digG_le l _ m (by omega) (by simp only [mostN]; omega) h
theorem digits_le {l : Bs} {m : Int} (h : digitsB l = some m) : 0 ≤ m ∧ m ≤ mostN := by
  unfold digitsB at h
  split at h
  · cases h
  · exact digG_le l 0 m (by omega) (by decide) h
theorem num_le {l : Bs} {m : Int} (h : numB l = some m) : -mostN ≤ m ∧ m ≤ mostN := by
  unfold numB at h
  have hp : (0 : Int) ≤ mostN := by decide
  split at h
  · cases h; omega
  · split at h
    · obtain ⟨n, hn, rfl⟩ := Option.map_eq_some_iff.1 h
      have := digits_le hn
      omega
    · have := digits_le h
      omega
set_option maxRecDepth 100000 in
set_option maxHeartbeats 3200000 in
theorem cNumOf {s : ByteArray} {w : World} (hs : s.size ≤ 140737488355328) : Calls Tryz.prog 187 #[.string s] w fun r w' => r = .returned (.tuple #[.int .i64 ((numB s.data.toList).getD 0), .bool (numB s.data.toList).isSome]) ∧ w' = w := by
  have hl : s.toList = s.data.toList := ByteArray.toList_eq s
  by_cases h0 : s.data.toList = [48]
  · have HR : Hid (numB s.data.toList = some 0) := by rw [Hid, h0]; rfl
    have d1 : s.toList = [48] := hl.trans h0
    clear hl h0
    go_enter Tryz.func187, Tryz.ntmps187
    go_wp2_with (fail)
    go_ret2
    rw [HR.out]
    exact ⟨rfl, rfl⟩
  · have d1 : ¬ s.toList = [48] := fun e => h0 (hl.symm.trans e)
    have d2 : (s.toList == [48]) = false := by simpa using d1
    by_cases hp : 0 < s.size
    · have hne : ¬ s.toList = [] := fun e => by
        have := congrArg List.length e
        rw [hl, ← Lib.size_eq] at this
        have h2 : s.size = 0 := this
        omega
      have hem : s.toList.isEmpty = false := by simpa using hne
      have hd := drop_byte s hp
      rw [List.drop_zero] at hd
      by_cases hm : s[0] = 45
      · have HR : Hid (numB s.data.toList = (digitsB (s.extract 1 s.size).data.toList).map (fun n => -n)) := by
          rw [Hid, numB, if_neg h0, hd, hm, Lib.extract_to_end]
          show (if some (45 : UInt8) = some 45 then _ else _) = _
          rw [if_pos rfl]
          rfl
        have hb : (((s[0]'hp).toNat : Int) == 45) = true := by rw [hm]; rfl
        have hxs : (s.extract 1 s.size).size ≤ 140737488355328 := by rw [ByteArray.size_extract]; omega
        have hle := fun m => @digits_le (s.extract 1 s.size).data.toList m
        clear hm hd hl h0
        go_enter Tryz.func187, Tryz.ntmps187
        go_wp2_with (go_at_call 203; refine (cDigits hxs).mono ?_; rintro r w' ⟨rfl, rfl⟩; generalize digitsB (s.extract 1 s.size).data.toList = R at *)
        go_ret2
        rw [HR.out]
        cases R with
        | none =>
          refine ⟨?_, rfl⟩
          show Ending.returned (.tuple #[.int .i64 (wrap64 (-(0 : Int))), .bool false]) = _
          rw [show wrap64 (-(0 : Int)) = 0 by unfold wrap64; omega]
          rfl
        | some m =>
          obtain ⟨m0, m1⟩ := hle m rfl
          have hw : wrap64 (-m) = -m := by unfold wrap64; simp only [mostN] at m1; omega
          refine ⟨?_, rfl⟩
          show Ending.returned (.tuple #[.int .i64 (wrap64 (-m)), .bool true]) = _
          rw [hw]
          rfl
      · have HR : Hid (numB s.data.toList = digitsB s.data.toList) := by
          rw [Hid, numB, if_neg h0, if_neg]
          rw [hd]
          simpa using hm
        have hb : (((s[0]'hp).toNat : Int) == 45) = false := by
          rw [beq_eq_false_iff_ne]
          intro e
          exact hm (UInt8.toNat_inj.1 (by exact_mod_cast e))
        clear hm hd hl h0
        go_enter Tryz.func187, Tryz.ntmps187
        go_wp2_with (go_at_call 203; refine (cDigits hs).mono ?_; rintro r w' ⟨rfl, rfl⟩)
        go_ret2
        rw [HR.out]
        exact ⟨rfl, rfl⟩
    · have e : s = ⟨#[]⟩ := by
        obtain ⟨d⟩ := s
        congr 1
        exact Array.eq_empty_of_size_eq_zero (by have : ¬ 0 < d.size := hp; omega)
      subst e
      go_enter Tryz.func187, Tryz.ntmps187
      go_wp2_with (go_at_call 203; refine (cDigits hs).mono ?_; rintro r w' ⟨rfl, rfl⟩)
      go_ret2
      exact ⟨rfl, rfl⟩
end Go.Proofs.YtbnpdfakniebnaaGreatDoor
