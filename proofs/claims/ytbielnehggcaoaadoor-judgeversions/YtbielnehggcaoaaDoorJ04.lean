/-
  Package judge's small functions by contract. (By the verifier; no statement.)
-/
import Derived.Test.YtbielnehggcaoaaDoorJ01
import Derived.Test.YtbielnehggcaoaaDoorJ02
import Derived.Test.YtbielnehggcaoaaDoorJ03
import Derived.WalkKit
import Derived.WalkSpells
import Derived.WalkLawsBesides
namespace Go.Proofs.YtbielnehggcaoaaDoor
open Go.RowKit
def timeB (b e : Int) : Bool := decide (1 ≤ b) && (decide (e = 0) || decide (b ≤ e))
set_option maxHeartbeats 400000 in
theorem cIsTime (b e : Int) (w : World) : Calls Tryd.prog 68 #[.int .i64 b, .int .i64 e] w fun r w' => r = .returned (.bool (timeB b e)) ∧ w' = w := by
  unfold timeB
  rcases (by omega : ¬ 1 ≤ b ∨ (1 ≤ b ∧ e = 0) ∨ (1 ≤ b ∧ e ≠ 0 ∧ b ≤ e) ∨ (1 ≤ b ∧ e ≠ 0 ∧ ¬ b ≤ e)) with h | ⟨h, rfl⟩ | ⟨h, h1, h2⟩ | ⟨h, h1, h2⟩
  · have d1 : decide (1 ≤ b) = false := decide_eq_false h
    rw [d1]
    go_enter Tryd.func68, Tryd.ntmps68
    go_wp2
    go_ret
    exact ⟨rfl, rfl⟩
  · have d1 : decide (1 ≤ b) = true := decide_eq_true h
    rw [d1]
    go_enter Tryd.func68, Tryd.ntmps68
    go_wp2
    go_ret
    exact ⟨rfl, rfl⟩
  · have d1 : decide (1 ≤ b) = true := decide_eq_true h
    have d2 : decide (b ≤ e) = true := decide_eq_true h2
    have d3 : (e == 0) = false := by simpa using h1
    have d4 : decide (e = 0) = false := decide_eq_false h1
    rw [d1, d2, d4]
    go_enter Tryd.func68, Tryd.ntmps68
    go_wp2
    go_ret
    exact ⟨rfl, rfl⟩
  · have d1 : decide (1 ≤ b) = true := decide_eq_true h
    have d2 : decide (b ≤ e) = false := decide_eq_false h2
    have d3 : (e == 0) = false := by simpa using h1
    have d4 : decide (e = 0) = false := decide_eq_false h1
    rw [d1, d2, d4]
    go_enter Tryd.func68, Tryd.ntmps68
    go_wp2
    go_ret
    exact ⟨rfl, rfl⟩
set_option maxHeartbeats 400000 in
theorem cWasA (e b : Int) (w : World) : Calls Tryd.prog 46 #[.int .i64 e, .int .i64 b] w fun r w' => r = .returned (.bool (wasA e b)) ∧ w' = w := by
  unfold wasA
  rcases (by omega : e = 0 ∨ (e ≠ 0 ∧ e < b) ∨ (e ≠ 0 ∧ ¬ e < b)) with rfl | ⟨h, h1⟩ | ⟨h, h1⟩
  · go_enter Tryd.func46, Tryd.ntmps46
    go_wp2
    go_ret
    exact ⟨rfl, rfl⟩
  · have d1 : decide (e ≠ 0) = true := decide_eq_true h
    have d2 : decide (e < b) = true := decide_eq_true h1
    have d3 : (e != 0) = true := by simpa using h
    rw [d1, d2]
    go_enter Tryd.func46, Tryd.ntmps46
    go_wp2
    go_ret
    exact ⟨rfl, rfl⟩
  · have d1 : decide (e ≠ 0) = true := decide_eq_true h
    have d2 : decide (e < b) = false := decide_eq_false h1
    have d3 : (e != 0) = true := by simpa using h
    rw [d1, d2]
    go_enter Tryd.func46, Tryd.ntmps46
    go_wp2
    go_ret
    exact ⟨rfl, rfl⟩
set_option maxHeartbeats 400000 in
theorem cWith {m i : Nat} (hm : m < 18446744073709551616) (hi : i < 64) (w : World) : Calls Tryd.prog 45 #[.int .u64 m, .int .i64 i] w fun r w' => r = .returned (.int .u64 ((m ||| 2 ^ i : Nat) : Int)) ∧ w' = w := by
  go_enter Tryd.func45, Tryd.ntmps45
  go_wp2
  go_ret
  exact ⟨congrArg (fun x : Int => Ending.returned (.int .u64 x)) (bits_with hm hi), rfl⟩
set_option maxHeartbeats 400000 in
theorem cHas {m i : Nat} (hm : m < 18446744073709551616) (hi : i < 64) (w : World) : Calls Tryd.prog 47 #[.int .u64 m, .int .i64 i] w fun r w' => r = .returned (.bool (m.testBit i)) ∧ w' = w := by
  go_enter Tryd.func47, Tryd.ntmps47
  go_wp2
  go_ret
  exact ⟨congrArg (fun x : Bool => Ending.returned (.bool x)) (bits_has hm), rfl⟩
theorem blk_new2 (w : World) (o o' : Obj) : ((w.alloc o).alloc o').heap[w.heap.size + 1]? = some o' := by
  have := blk_new (w.alloc o) o'
  have e : (w.alloc o).heap.size = w.heap.size + 1 := by show (w.heap.push o).size = _; simp
  rwa [e] at this
/-- A deed as a value. -/
abbrev dcs (d : Dd) : List Value := [.int .i64 d.b, .int .i64 d.e, .int .i64 d.k, .int .i64 d.a, .int .i64 d.x, .int .i64 d.c, .int .i64 d.n, .bool d.ok]
set_option maxHeartbeats 1600000 in
theorem cAlone {b e k a x c n v : Int} {ok : Bool} (h1 : 1 ≤ k) (h7 : k ≤ 7) (w : World) : Calls Tryd.prog 69 #[.agg #[.int .i64 b, .int .i64 e, .int .i64 k, .int .i64 a, .int .i64 x, .int .i64 c, .int .i64 n, .bool ok], .int .i64 v] w fun r w' => r = .returned (.agg #[.int .i64 ((⟨b, e, k, a, x, c, n, ok⟩ : Dd).next v), .int .i64 ((⟨b, e, k, a, x, c, n, ok⟩ : Dd).ans v), .bool ((⟨b, e, k, a, x, c, n, ok⟩ : Dd).did v)]) ∧ w' = (w.alloc (.cells #[.int .i64 b, .int .i64 e, .int .i64 k, .int .i64 a, .int .i64 x, .int .i64 c, .int .i64 n, .bool ok] 27 (0, 0))).alloc (.cells #[.int .i64 ((⟨b, e, k, a, x, c, n, ok⟩ : Dd).next v), .int .i64 ((⟨b, e, k, a, x, c, n, ok⟩ : Dd).ans v), .bool ((⟨b, e, k, a, x, c, n, ok⟩ : Dd).did v)] 131 (0, 0)) := by
  rcases (by omega : k = 1 ∨ k = 2 ∨ k = 3 ∨ k = 4 ∨ k = 5 ∨ k = 6 ∨ k = 7) with rfl | rfl | rfl | rfl | rfl | rfl | rfl
  · go_enter Tryd.func69, Tryd.ntmps69
    go_wp2
    refine bodyPost_ret (results_cell_row rfl _ _ (w.heap.size + 1) _ _ (0, 0) _ rfl (blk_new2 w _ _) Tryd.underlying131 rfl (by kernel_rfl)) rfl ⟨?_, ?_⟩
    all_goals simp [Dd.next, Dd.ans, Dd.did]
  · go_enter Tryd.func69, Tryd.ntmps69
    go_wp2
    refine bodyPost_ret (results_cell_row rfl _ _ (w.heap.size + 1) _ _ (0, 0) _ rfl (blk_new2 w _ _) Tryd.underlying131 rfl (by kernel_rfl)) rfl ⟨?_, ?_⟩
    all_goals simp [Dd.next, Dd.ans, Dd.did]
  · go_enter Tryd.func69, Tryd.ntmps69
    go_wp2
    refine bodyPost_ret (results_cell_row rfl _ _ (w.heap.size + 1) _ _ (0, 0) _ rfl (blk_new2 w _ _) Tryd.underlying131 rfl (by kernel_rfl)) rfl ⟨?_, ?_⟩
    all_goals simp [Dd.next, Dd.ans, Dd.did]
  · go_enter Tryd.func69, Tryd.ntmps69
    go_wp2
    refine bodyPost_ret (results_cell_row rfl _ _ (w.heap.size + 1) _ _ (0, 0) _ rfl (blk_new2 w _ _) Tryd.underlying131 rfl (by kernel_rfl)) rfl ⟨?_, ?_⟩
    all_goals simp [Dd.next, Dd.ans, Dd.did]
  · by_cases hv : v = x
    · subst hv
      go_enter Tryd.func69, Tryd.ntmps69
      go_wp2
      refine bodyPost_ret (results_cell_row rfl _ _ (w.heap.size + 1) _ _ (0, 0) _ rfl (blk_new2 w _ _) Tryd.underlying131 rfl (by kernel_rfl)) rfl ⟨?_, ?_⟩
      all_goals simp [Dd.next, Dd.ans, Dd.did]
    · have d1 : (v == x) = false := by simpa using hv
      go_enter Tryd.func69, Tryd.ntmps69
      go_wp2
      refine bodyPost_ret (results_cell_row rfl _ _ (w.heap.size + 1) _ _ (0, 0) _ rfl (blk_new2 w _ _) Tryd.underlying131 rfl (by kernel_rfl)) rfl ⟨?_, ?_⟩
      all_goals simp [Dd.next, Dd.ans, Dd.did, hv]
  · go_enter Tryd.func69, Tryd.ntmps69
    go_wp2
    all_goals
      refine bodyPost_ret (results_cell_row rfl _ _ (w.heap.size + 1) _ _ (0, 0) _ rfl (blk_new2 w _ _) Tryd.underlying131 rfl (by kernel_rfl)) rfl ⟨?_, ?_⟩
      all_goals simp [Dd.next, Dd.ans, Dd.did]
      all_goals first | omega | (rw [show max v x = x by omega]) | (rw [show max v x = v by omega])
  · go_enter Tryd.func69, Tryd.ntmps69
    go_wp2
    all_goals
      refine bodyPost_ret (results_cell_row rfl _ _ (w.heap.size + 1) _ _ (0, 0) _ rfl (blk_new2 w _ _) Tryd.underlying131 rfl (by kernel_rfl)) rfl ⟨?_, ?_⟩
      all_goals simp [Dd.next, Dd.ans, Dd.did]
      all_goals first | omega | (rw [show min v x = x by omega]) | (rw [show min v x = v by omega])
set_option maxHeartbeats 800000 in
theorem cFits {h n2 : Int} {o2 : Bool} {b e k a x c n : Int} {ok : Bool} (w : World) : Calls Tryd.prog 70 #[.agg #[.int .i64 h, .int .i64 n2, .bool o2], .agg #[.int .i64 b, .int .i64 e, .int .i64 k, .int .i64 a, .int .i64 x, .int .i64 c, .int .i64 n, .bool ok]] w fun r w' => r = .returned (.bool (decide (e = 0) || (decide (n2 = n) && decide (o2 = ok)))) ∧ w' = (w.alloc (.cells #[.int .i64 h, .int .i64 n2, .bool o2] 131 (0, 0))).alloc (.cells #[.int .i64 b, .int .i64 e, .int .i64 k, .int .i64 a, .int .i64 x, .int .i64 c, .int .i64 n, .bool ok] 27 (0, 0)) := by
  rcases (by omega : e = 0 ∨ (e ≠ 0 ∧ n2 = n) ∨ (e ≠ 0 ∧ n2 ≠ n)) with rfl | ⟨h1, rfl⟩ | ⟨h1, h2⟩
  · go_enter Tryd.func70, Tryd.ntmps70
    go_wp2
    go_ret
    exact ⟨rfl, rfl⟩
  · have d1 : (e == 0) = false := by simpa using h1
    have d2 : decide (e = 0) = false := decide_eq_false h1
    rw [d2]
    go_enter Tryd.func70, Tryd.ntmps70
    go_wp2
    go_ret
    exact ⟨by cases o2 <;> cases ok <;> simp, rfl⟩
  · have d1 : (e == 0) = false := by simpa using h1
    have d2 : decide (e = 0) = false := decide_eq_false h1
    have d3 : (n2 == n) = false := by simpa using h2
    have d4 : decide (n2 = n) = false := decide_eq_false h2
    rw [d2, d4]
    go_enter Tryd.func70, Tryd.ntmps70
    go_wp2
    go_ret
    exact ⟨rfl, rfl⟩
def rightB (m : Int) (d : Dd) : Bool := decide (1 ≤ d.k) && decide (d.k ≤ 7) && decide (0 ≤ d.a) && decide (d.a < m) && timeB d.b d.e
set_option maxHeartbeats 800000 in
theorem cRight {b e k a x c n m : Int} {ok : Bool} (w : World) : Calls Tryd.prog 43 #[.agg #[.int .i64 b, .int .i64 e, .int .i64 k, .int .i64 a, .int .i64 x, .int .i64 c, .int .i64 n, .bool ok], .int .i64 m] w fun r w' => r = .returned (.bool (rightB m ⟨b, e, k, a, x, c, n, ok⟩)) ∧ Turned [] w w' := by
  unfold rightB
  dsimp only
  cases d1 : decide (1 ≤ k) with
  | false =>
    go_enter Tryd.func43, Tryd.ntmps43
    go_wp2
    go_ret
    exact ⟨rfl, (Turned.refl [] w).alloc _⟩
  | true =>
    cases d2 : decide (k ≤ 7) with
    | false =>
      go_enter Tryd.func43, Tryd.ntmps43
      go_wp2
      go_ret
      exact ⟨rfl, (Turned.refl [] w).alloc _⟩
    | true =>
      cases d3 : decide (0 ≤ a) with
      | false =>
        go_enter Tryd.func43, Tryd.ntmps43
        go_wp2
        go_ret
        exact ⟨rfl, (Turned.refl [] w).alloc _⟩
      | true =>
        cases d4 : decide (a < m) with
        | false =>
          go_enter Tryd.func43, Tryd.ntmps43
          go_wp2
          go_ret
          exact ⟨rfl, (Turned.refl [] w).alloc _⟩
        | true =>
          have P := fun w => cIsTime b e w
          go_enter Tryd.func43, Tryd.ntmps43
          go_wp2_with (go_at_call 68; refine (P _).mono ?_; rintro r x1 ⟨rfl, rfl⟩)
          go_ret
          exact ⟨rfl, (Turned.refl [] w).alloc _⟩
end Go.Proofs.YtbielnehggcaoaaDoor
/-
  math/bits.TrailingZeros64 of a number that isn't 0. (By the verifier; no statement.)
-/
namespace Go.Proofs.YtbielnehggcaoaaDoor
open Go.RowKit
def tzI (k : Nat) : Nat := 2 ^ k * 285870213051353865 % 18446744073709551616 / 288230376151711744
/-- The library's table, as far as it is asked. -/
def Tab (w : World) : Prop := ∀ k : Nat, k < 64 → w.cell? ⟨0, tzI k, none⟩ = some (.int .u8 (k : Int))
theorem Tab.keep {w w' : World} {l : List Nat} (h : Tab w) (ht : Turned l w w') (h0 : 0 ∉ l) : Tab w' := fun k hk => ht.cell (h k hk) h0
theorem tz_neg {x : Nat} (hx : x < 18446744073709551616) (h0 : x ≠ 0) : IntKind.u64.wrap (-(x : Int)) = ((18446744073709551616 - x : Nat) : Int) := by
  rw [IntKind.wrap_u64]
  omega
theorem tz_mul (k : Nat) : IntKind.u64.wrap (((2 ^ k : Nat) : Int) * 285870213051353865) = ((2 ^ k * 285870213051353865 % 18446744073709551616 : Nat) : Int) := by
  rw [IntKind.wrap_u64]
  generalize (2 : Nat) ^ k = y
  omega
theorem tz_lt (k : Nat) : tzI k < 64 := by
  unfold tzI
  have : 2 ^ k * 285870213051353865 % 18446744073709551616 < 18446744073709551616 := Nat.mod_lt _ (by decide)
  omega
set_option maxHeartbeats 800000 in
theorem cTz {k q : Nat} {w : World} (hT : Tab w) (hk : k < 64) (hq : q < 2 ^ (63 - k)) (hx : 2 ^ k * (2 * q + 1) < 18446744073709551616) : Calls Tryd.prog 71 #[.int .u64 ((2 ^ k * (2 * q + 1) : Nat) : Int)] w fun r w' => r = .returned (.int .i64 (k : Int)) ∧ w' = w := by
  have h0 : 2 ^ k * (2 * q + 1) ≠ 0 := Nat.ne_of_gt (Nat.mul_pos (Nat.two_pow_pos k) (by omega))
  have eA := low_and_neg hk hq
  have e1 := tz_neg hx h0
  have hc := hT k hk
  have hl := tz_lt k
  have e2 := tz_mul k
  unfold tzI at hc hl
  have hp : (2 : Nat) ^ k < 18446744073709551616 := Nat.lt_of_le_of_lt (Nat.le_mul_of_pos_right _ (by omega)) hx
  generalize 2 ^ k * (2 * q + 1) = x at *
  have eB : bits .and .u64 (x : Int) ((18446744073709551616 - x : Nat) : Int) = ((2 ^ k : Nat) : Int) := by
    rw [bits_and_u64_nat _ _ hx (by omega), eA]
  have d0 : ((x : Int) == 0) = false := by simpa using h0
  have hki : IntKind.wrap .i64 (k : Int) = (k : Int) := by rw [IntKind.wrap_i64]; omega
  generalize 2 ^ k * 285870213051353865 % 18446744073709551616 = z at *
  have hz : (z : Int) / 288230376151711744 < 64 := by omega
  generalize (2 : Nat) ^ k = y at *
  clear eA hT hq h0 hx hp
  go_enter Tryd.func71, Tryd.ntmps71
  go_wp2
  go_ret
  exact ⟨rfl, rfl⟩
end Go.Proofs.YtbielnehggcaoaaDoor
