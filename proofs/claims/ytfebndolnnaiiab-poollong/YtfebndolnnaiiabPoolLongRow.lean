/- PoolLong's row, out of the contracts of package pool. -/
import Derived.Test.YtfebndolnnaiiabPoolLong
import Derived.Test.YtfebndolnnaiiabPoolKnown
import Derived.ProofKit
import Derived.SizedLaws
namespace Go.Proofs.Ytfebndolnnaiiab
open Go.ChangeShapes Go.WideShapes Go.ChangeAt Go.RowKit
theorem Try.own : ownKnob Try.prog.godebug = none := by kernel_rfl
set_option maxRecDepth 100000 in
set_option maxHeartbeats 1600000 in
theorem long_out (HKn : ∀ w, Calls Try.prog 4 #[] w fun e w' => e = .returned (.bool true) ∧ Below w.heap.size w w') (W : World) (n begins count : Int) (h : n < 1 ∨ 4096 < n ∨ begins < 0 ∨ 2147483648 ≤ begins ∨ 32768 < count) :
    Calls Try.prog 3 #[.int .i64 n, .int .i64 begins, .int .i64 count] W fun e w' => e = .returned (.bool true) ∧ Below W.heap.size W w' := by
  rcases (by omega : n < 1 ∨ (1 ≤ n ∧ 4096 < n) ∨ (1 ≤ n ∧ n ≤ 4096 ∧ begins < 0) ∨ (1 ≤ n ∧ n ≤ 4096 ∧ 0 ≤ begins ∧ 2147483648 ≤ begins) ∨ (1 ≤ n ∧ n ≤ 4096 ∧ 0 ≤ begins ∧ begins < 2147483648 ∧ 32768 < count)) with h | ⟨h1, h⟩ | ⟨h1, h2, h⟩ | ⟨h1, h2, h3, h⟩ | ⟨h1, h2, h3, h4, h⟩
  · go_enter Try.func3, Try.ntmps3
    go_wp2_with (go_at_call 4; refine (HKn _).mono ?_; rintro e w1 ⟨rfl, hK1⟩)
    go_ret
    exact ⟨rfl, hK1⟩
  · have d1 : decide (n < 1) = false := decide_eq_false (by omega)
    go_enter Try.func3, Try.ntmps3
    go_wp2_with (go_at_call 4; refine (HKn _).mono ?_; rintro e w1 ⟨rfl, hK1⟩)
    go_ret
    exact ⟨rfl, hK1⟩
  · have d1 : decide (n < 1) = false := decide_eq_false (by omega)
    have d2 : decide (4096 < n) = false := decide_eq_false (by omega)
    go_enter Try.func3, Try.ntmps3
    go_wp2_with (go_at_call 4; refine (HKn _).mono ?_; rintro e w1 ⟨rfl, hK1⟩)
    go_ret
    exact ⟨rfl, hK1⟩
  · have d1 : decide (n < 1) = false := decide_eq_false (by omega)
    have d2 : decide (4096 < n) = false := decide_eq_false (by omega)
    have d3 : decide (begins < 0) = false := decide_eq_false (by omega)
    go_enter Try.func3, Try.ntmps3
    go_wp2_with (go_at_call 4; refine (HKn _).mono ?_; rintro e w1 ⟨rfl, hK1⟩)
    go_ret
    exact ⟨rfl, hK1⟩
  · have d1 : decide (n < 1) = false := decide_eq_false (by omega)
    have d2 : decide (4096 < n) = false := decide_eq_false (by omega)
    have d3 : decide (begins < 0) = false := decide_eq_false (by omega)
    have d4 : decide (2147483648 ≤ begins) = false := decide_eq_false (by omega)
    go_enter Try.func3, Try.ntmps3
    go_wp2_with (go_at_call 4; refine (HKn _).mono ?_; rintro e w1 ⟨rfl, hK1⟩)
    go_ret
    exact ⟨rfl, hK1⟩
theorem long_walk {At : World → Nat → List Nat → PSt → Prop} (L : PoolLaws At) (W : World) (n begins count : Int) :
    Calls Try.prog 3 #[.int .i64 n, .int .i64 begins, .int .i64 count] W fun e w' => e = .returned (.bool true) ∧ Below W.heap.size W w' := by
  by_cases h : n < 1 ∨ 4096 < n ∨ begins < 0 ∨ 2147483648 ≤ begins ∨ 32768 < count
  · exact long_out (known_all L) W n begins count h
  · obtain ⟨m, rfl⟩ : ∃ m : Nat, n = m := ⟨n.toNat, by omega⟩
    exact long_all L (known_all L) W m begins count (by omega) (by omega) (by omega) (by omega) (by omega)
set_option maxHeartbeats 1600000 in
set_option maxRecDepth 100000 in
theorem poolLong_lifted {At : World → Nat → List Nat → PSt → Prop} (L : PoolLaws At) (os : Os) (started : os.Started) (H : Type) (enc : TypeId × Value → H) :
    ReturnsInHanded {} Try.checked os 3 .any (Rows.poolLongSpec.pre6 enc Try.prog Try.f3 Rows.poolLongRow.domain false) (Rows.poolLongSpec.post enc Try.prog Try.f3 false true false false) := by
  refine returnsInHanded_of_change_sized (C := Try.checked) Try.own started (by kernel_rfl) Try.func3
    (ChangeSpec.witness6 (enc := enc) (C := Try.checked) false ⟨#[], #[.int .i64 0, .int .i64 0, .int .i64 0], []⟩ 8 (by kernel_rfl) (by kernel_rfl) (by kernel_rfl) (by kernel_rfl)) ?_
  intro W base args ds gs before hval0 hW _ hsz0 _
  have hval : ∀ (j : Nat) t v, Try.f3.params[j]? = some t → args[j]? = some v → Value.okWide Try.prog W .any base t v := hval0
  clear hsz0 hval0
  have hW' := hW
  obtain ⟨p, q, hA0, hV, rfl, hfz, _⟩ := hW
  have hA : DataW.TrodAll enc Try.prog W 0 (fun _ => true) true Try.f3.params.toList args.toList ds p := hA0
  rw [Try.params3] at hA hval
  obtain ⟨v0, v1, v2, d0, d1, d2, p0, p1, p2, rfl, rfl, rfl, h0, h1, h2⟩ := trodAll_three hA
  obtain ⟨rfl, rfl⟩ := trodVars_none hV
  obtain ⟨x0, rfl, rfl, rfl, wx0⟩ := open_int Try.underlying3 (hval 0 3 v0 rfl rfl) h0
  obtain ⟨x1, rfl, rfl, rfl, wx1⟩ := open_int Try.underlying3 (hval 1 3 v1 rfl rfl) h1
  obtain ⟨x2, rfl, rfl, rfl, wx2⟩ := open_int Try.underlying3 (hval 2 3 v2 rfl rfl) h2
  clear hA0
  refine (long_walk L W x0 x1 x2).mono fun e W' ⟨he, hb⟩ => ?_
  subst he
  exact ⟨_, rfl, _, _, _, [], [], [], hW', trodAll_mk1 (shut_bool Try.underlying4 _), trodAll_mk3 (shut_int Try.underlying3 wx0) (shut_int Try.underlying3 wx1) (shut_int Try.underlying3 wx2), rfl, hb.frame _, fun h => by cases h⟩
theorem poolLong_of {At : World → Nat → List Nat → PSt → Prop} (L : PoolLaws At) : Rows.PoolLongSaid :=
  OpenClaim.holds_of_wide 3 Try.f3 rfl rfl rfl rfl rfl rfl rfl ⟨rfl, rfl, rfl, rfl, rfl⟩ rfl rfl rfl rfl rfl (by kernel_rfl) Try.func3 (by kernel_rfl)
    (of_decide_eq_true (by kernel_rfl)) (by unfold Func.isWrapper; rw [if_neg (of_decide_eq_false (by kernel_rfl))]; exact ⟨rfl, rfl⟩)
    (fun os started H enc _ => poolLong_lifted L os started H enc)
end Go.Proofs.Ytfebndolnnaiiab
