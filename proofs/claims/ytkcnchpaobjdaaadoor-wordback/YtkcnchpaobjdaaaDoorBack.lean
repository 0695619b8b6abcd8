/-
  The walk of the statement WordBack: it answers true at every input, wherever the table of bits is laid; the world stays.
-/
import Derived.Test.YtkcnchpaobjdaaaDoorKnown
namespace Go.Proofs.YtkcnchpaobjdaaaDoor
open Go.RowKit
/- the word in hand at the round j: the first one, or v's index and the tag that has gone on -/
def bk (x v : Int) (j : Nat) : Int := if j = 1 then x else idxV v * 1099511627776 + (tagV x + j - 1) % 1099511627776
theorem bk_one (x v : Int) : bk x v 1 = x := by simp [bk]
theorem bk_round (x v : Int) (j : Nat) (hx0 : 0 ≤ x) (hx1 : x < 1152921504606846976) (hv0 : 0 ≤ v) (hv1 : v < 1152921504606846976) (hj : 1 ≤ j) (hj5 : j ≤ 5) :
    nextV (bk x v j) (idxV v) = bk x v (j + 1) ∧ nextE (bk x v j) (idxV v) = 0 ∧ (bk x v (j + 1) == bk x v j) = false ∧ idxV (bk x v (j + 1)) = idxV v ∧ tagV (bk x v (j + 1)) = (tagV x + j) % 1099511627776 := by
  have eI := idx_ok v hv0 (by omega)
  have eT := tag_ok x hx0 (by omega)
  have hn : bk x v (j + 1) = idxV v * 1099511627776 + (tagV x + j) % 1099511627776 := by
    unfold bk; rw [if_neg (by omega)]; push_cast; congr 2; omega
  have ht : 0 ≤ bk x v j ∧ bk x v j < 1152921504606846976 ∧ bk x v j % 1099511627776 = (tagV x + j - 1) % 1099511627776 := by
    unfold bk
    by_cases h : j = 1
    · subst h; rw [if_pos rfl, eT]; omega
    · rw [if_neg h, eI, eT]; omega
  obtain ⟨t0, t1, t2⟩ := ht
  have hb : 0 ≤ idxV v ∧ idxV v ≤ 1048575 := by rw [eI]; omega
  have hT : 0 ≤ tagV x ∧ tagV x ≤ 1099511627775 := by rw [eT]; omega
  obtain ⟨n1, n2⟩ := next_ok (bk x v j) (idxV v) hb.1 hb.2 t0 (by omega)
  have hn2 : 0 ≤ bk x v (j + 1) ∧ bk x v (j + 1) ≤ 1152921504606846975 := by rw [hn]; omega
  refine ⟨?_, n2, ?_, ?_, ?_⟩
  · rw [n1, hn, t2]; omega
  · rw [beq_eq_false_iff_ne]; intro h; rw [← h, hn] at t2; omega
  · rw [idx_ok _ hn2.1 hn2.2, hn]; omega
  · rw [tag_ok _ hn2.1 hn2.2, hn]; omega
theorem back_facts (x v : Int) (hx0 : 0 ≤ x) (hx1 : x < 1152921504606846976) (hv0 : 0 ≤ v) (hv1 : v < 1152921504606846976) :
    packV (idxV x) (tagV x) = x ∧ packE (idxV x) (tagV x) = 0 ∧ (0 ≤ tagV x ∧ tagV x ≤ 1099511627775) ∧ (idxV x < idxV v → x < v) := by
  have eI := idx_ok v hv0 (by omega)
  have eJ := idx_ok x hx0 (by omega)
  have eT := tag_ok x hx0 (by omega)
  obtain ⟨p1, p2⟩ := pack_ok (idxV x) (tagV x) (by rw [eJ]; omega) (by rw [eJ]; omega) (by rw [eT]; omega) (by rw [eT]; omega)
  refine ⟨?_, p2, ?_, ?_⟩
  · rw [p1, eJ, eT]; omega
  · rw [eT]; omega
  · rw [eI, eJ]; omega
set_option maxRecDepth 100000 in
set_option maxHeartbeats 1000000 in
theorem wBack (x v : Int) (w : World) (ht : Tab w) : Calls Tryd.prog 6 #[.int .i64 x, .int .i64 v] w fun e w' => e = .returned (.bool true) ∧ w' = w := by
  have HT : Hid (Tab w) := ht
  clear ht
  rcases (by omega : x < 0 ∨ 1152921504606846976 ≤ x ∨ (0 ≤ x ∧ x < 1152921504606846976 ∧ v < 0) ∨ (0 ≤ x ∧ x < 1152921504606846976 ∧ 1152921504606846976 ≤ v) ∨ (0 ≤ x ∧ x < 1152921504606846976 ∧ 0 ≤ v ∧ v < 1152921504606846976)) with h | h | ⟨h0, h1, h⟩ | ⟨h0, h1, h⟩ | ⟨h0, h1, h2, h3⟩
  · go_enter Tryd.func6, Tryd.ntmps6
    go_wp2_with (go_at_call 9; refine (cKnown _ HT.out).mono ?_; rintro e w' ⟨rfl, rfl⟩)
    go_ret
    exact ⟨rfl, rfl⟩
  · go_enter Tryd.func6, Tryd.ntmps6
    go_wp2_with (go_at_call 9; refine (cKnown _ HT.out).mono ?_; rintro e w' ⟨rfl, rfl⟩)
    go_ret
    exact ⟨rfl, rfl⟩
  · go_enter Tryd.func6, Tryd.ntmps6
    go_wp2_with (go_at_call 9; refine (cKnown _ HT.out).mono ?_; rintro e w' ⟨rfl, rfl⟩)
    go_ret
    exact ⟨rfl, rfl⟩
  · go_enter Tryd.func6, Tryd.ntmps6
    go_wp2_with (go_at_call 9; refine (cKnown _ HT.out).mono ?_; rintro e w' ⟨rfl, rfl⟩)
    go_ret
    exact ⟨rfl, rfl⟩
  · obtain ⟨b1, b2, ⟨b3, b4⟩, b5⟩ := back_facts x v h0 h1 h2 h3
    have hd1 : decide (1152921504606846976 ≤ x) = false := decide_eq_false (by omega)
    have hd2 : decide (1152921504606846976 ≤ v) = false := decide_eq_false (by omega)
    have fin : ∀ W : World, Tab W → (idxV x < idxV v ∧ decide (v ≤ x) = false) ∨ (decide (idxV x < idxV v) = false) → Calls Tryd.prog 6 #[.int .i64 x, .int .i64 v] W fun e w' => e = .returned (.bool true) ∧ w' = W := by
      intro W HT0 hc
      have HT : Hid (Tab W) := HT0
      clear HT0 b5
      rcases hc with ⟨hlt, hle⟩ | hlt
      all_goals
        go_enter Tryd.func6, Tryd.ntmps6
        go_wp2_with (first
          | (go_at_call 9; refine (cKnown _ HT.out).mono ?_; rintro e w' ⟨rfl, rfl⟩)
          | (go_at_call 12; refine (cNum _ _).mono ?_; rintro e w' ⟨rfl, rfl⟩)
          | (go_at_call 13; refine (cIndex _ _).mono ?_; rintro e w' ⟨rfl, rfl⟩)
          | (go_at_call 15; refine (cTag _ _).mono ?_; rintro e w' ⟨rfl, rfl⟩)
          | (go_at_call 10; refine (cPack _ _ _).mono ?_; rintro e w' ⟨rfl, rfl⟩))
        go_loop [7, 8] (fun a i => ∃ j : Nat, 1 ≤ j ∧ j ≤ 6 ∧ a = .int .i64 (bk x v j) ∧ i = .int .i64 j) (fun _ i => (6 - intOf i).toNat)
        case atStart => exact ⟨1, by omega, by omega, by rw [bk_one], rfl⟩
        case round =>
          obtain ⟨j, hj1, hj6, rfl, rfl⟩ := hrel
          by_cases hj : j ≤ 5
          · obtain ⟨r1, r2, r3, r4, r5⟩ := bk_round x v j h0 h1 h2 h3 hj1 hj
            go_wp2_with (first
              | (go_at_call 12; refine (cNum _ _).mono ?_; rintro e w' ⟨rfl, rfl⟩)
              | (go_at_call 13; refine (cIndex _ _).mono ?_; rintro e w' ⟨rfl, rfl⟩)
              | (go_at_call 15; refine (cTag _ _).mono ?_; rintro e w' ⟨rfl, rfl⟩)
              | (go_at_call 17; refine (cNext _ _ _).mono ?_; rintro e w' ⟨rfl, rfl⟩))
            go_round
            case rel => exact ⟨j + 1, by omega, by omega, rfl, by go_num⟩
            case measure => simp [intOf]; omega
          · go_wp2
            go_ret
            exact ⟨rfl, rfl⟩
    by_cases hlt : idxV x < idxV v
    · exact fin w HT.out (.inl ⟨hlt, decide_eq_false (by have := b5 hlt; omega)⟩)
    · exact fin w HT.out (.inr (decide_eq_false hlt))
end Go.Proofs.YtkcnchpaobjdaaaDoor
