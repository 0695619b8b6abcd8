/-
  The walk of the statement WordPlaces: it answers true at every input, wherever the table of bits is laid; the world stays.
-/
import Derived.Test.YtkcnchpaobjdaaaDoorKnown
import Derived.Test.YtkcnchpaobjdaaaDoorTriple
namespace Go.Proofs.YtkcnchpaobjdaaaDoor
open Go.RowKit
set_option maxRecDepth 100000 in
set_option maxHeartbeats 2000000 in
theorem wPlaces (a b c : Int) (w : World) (ht : Tab w) : Calls Tryd.prog 7 #[.int .i64 a, .int .i64 b, .int .i64 c] w fun e w' => e = .returned (.bool true) ∧ w' = w := by
  have HT : Hid (Tab w) := ht
  clear ht
  rcases (by omega : (a < 0 ∨ (0 ≤ a ∧ b < 0) ∨ (0 ≤ a ∧ 0 ≤ b ∧ c < 0) ∨ (0 ≤ a ∧ 0 ≤ b ∧ 0 ≤ c ∧ 4294967295 < a) ∨ (0 ≤ a ∧ 0 ≤ b ∧ 0 ≤ c ∧ a ≤ 4294967295 ∧ 4294967295 < b) ∨ (0 ≤ a ∧ 0 ≤ b ∧ 0 ≤ c ∧ a ≤ 4294967295 ∧ b ≤ 4294967295 ∧ 4294967295 < c)) ∨ (0 ≤ a ∧ a ≤ 4294967295 ∧ 0 ≤ b ∧ b ≤ 4294967295 ∧ 0 ≤ c ∧ c ≤ 4294967295)) with h | ⟨h0, h1, h2, h3, h4, h5⟩
  · rcases h with h | ⟨h0, h⟩ | ⟨h0, h1, h⟩ | ⟨h0, h1, h2, h⟩ | ⟨h0, h1, h2, h3, h⟩ | ⟨h0, h1, h2, h3, h4, h⟩
    all_goals
      go_enter Tryd.func7, Tryd.ntmps7
      go_wp2_with (go_at_call 9; refine (cKnown _ HT.out).mono ?_; rintro e w' ⟨rfl, rfl⟩)
      go_ret
      exact ⟨rfl, rfl⟩
  · have hd1 : decide (4294967295 < a) = false := decide_eq_false (by omega)
    have hd2 : decide (4294967295 < b) = false := decide_eq_false (by omega)
    have hd3 : decide (4294967295 < c) = false := decide_eq_false (by omega)
    have e1 := (place_ok a b h0 h1 h2 h3).1
    have e2 := (place_ok b c h2 h3 h4 h5).1
    have e3 := (place_ok a c h0 h1 h4 h5).1
    have e4 := (place_ok b a h2 h3 h0 h1).1
    rw [plc_symm a b] at e4
    have en := plc_neg a b ⟨h0, h1⟩ ⟨h2, h3⟩
    obtain ⟨d1, d2⟩ := plc_bd a b ⟨h0, h1⟩ ⟨h2, h3⟩
    rcases plc_three a b c ⟨h0, h1⟩ ⟨h2, h3⟩ ⟨h4, h5⟩ with ⟨t1, t2⟩ | ⟨t1, t2⟩ | ⟨t1, t2⟩
    all_goals
      go_enter Tryd.func7, Tryd.ntmps7
      go_wp2_with (first
        | (go_at_call 9; refine (cKnown _ HT.out).mono ?_; rintro e w' ⟨rfl, rfl⟩)
        | (go_at_call 21; refine (cPlace _ _ _ HT.out).mono ?_; rintro e w' ⟨rfl, rfl⟩))
    all_goals
      clear e1 e2 e3 e4 t1 t2
      have EN : Hid (plc a b ≤ 31) := d2
      clear en
      go_loop [15] (fun i => ∃ m : Int, (m = plc a b ∨ (0 ≤ plc a b ∧ plc a b < m)) ∧ m ≤ 32 ∧ i = .int .i64 m) (fun i => (32 - intOf i).toNat)
      case atStart => exact ⟨_, .inl rfl, by have := EN.out; omega, rfl⟩
      case round =>
        obtain ⟨m, hm, hm32, rfl⟩ := hrel
        by_cases hneg : m < 0
        · clear hm
          go_wp2
          go_ret
          exact ⟨rfl, rfl⟩
        · by_cases hend : m = 32
          · subst hend
            clear hm
            go_wp2
            go_ret
            exact ⟨rfl, rfl⟩
          · obtain ⟨i, rfl⟩ := Int.eq_ofNat_of_zero_le (by omega : 0 ≤ m)
            have hi : i < 32 := by omega
            have HP : Hid (0 ≤ plc a b) := by show 0 ≤ plc a b; omega
            rcases hm with hm | ⟨_, hm⟩
            · obtain ⟨n1, n2⟩ := bits_at a b ⟨h0, h1⟩ ⟨h2, h3⟩ i hm.symm
              have n3 : decide (bitV a i < bitV b i) = decide (a < b) := decide_eq_decide.2 n2
              have n4 : ((i : Int) == plc a b) = true := by rw [hm]; simp
              have HM : Hid ((i : Int) = plc a b) := hm
              clear n2 hm hend
              go_wp2_with (go_at_call 19; refine (cBit _ _ _ HT.out).mono ?_; rintro e w' ⟨rfl, rfl⟩)
              go_round
              case rel => exact ⟨(i : Int) + 1, .inr ⟨HP.out, by have := HM.out; omega⟩, by omega, rfl⟩
              case measure => simp [intOf]; omega
            · have n1 := bits_above a b ⟨h0, h1⟩ ⟨h2, h3⟩ i hi hm
              have n4 : ((i : Int) == plc a b) = false := by rw [beq_eq_false_iff_ne]; omega
              have HM : Hid (plc a b < i) := hm
              clear hm hend
              go_wp2_with (go_at_call 19; refine (cBit _ _ _ HT.out).mono ?_; rintro e w' ⟨rfl, rfl⟩)
              go_round
              case rel => exact ⟨(i : Int) + 1, .inr ⟨HP.out, by have := HM.out; omega⟩, by omega, rfl⟩
              case measure => simp [intOf]; omega
end Go.Proofs.YtkcnchpaobjdaaaDoor
