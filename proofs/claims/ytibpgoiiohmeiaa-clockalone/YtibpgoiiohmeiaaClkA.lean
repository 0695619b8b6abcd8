/- Package clock, alone: a clock in memory; has, Now, claim by contract. -/
import Derived.Test.YtibpgoiiohmeiaaAtomS
import Derived.Test.YtibpgoiiohmeiaaPush
import Derived.WalkMore
import Derived.Deep.RegionWith
namespace Go.Proofs.Ytibpgoiiohmeiaa
open Go.RowKit

abbrev clockObj (now : Int) (v : Value) : Obj := .cells #[.int .i64 now, v] 44 (0, 0)
abbrev leaseObj (x : Int) : Obj := .cells #[.int .i64 x] 41 (0, 0)
/-- A clock of n leases: now, and for each lease its own block. -/
structure ClockAt (w : World) (b lb n cap : Nat) (E : Nat → Nat) (now : Int) (f : Nat → Int) : Prop where
  obj : w.heap[b]? = some (clockObj now (.slice (some ⟨lb, 0, none⟩) n cap))
  row : ∃ cur : Array Value, w.heap[lb]? = some (.cells cur 46 (0, 0)) ∧ ∀ k, k < n → cur[k]? = some (.pointer (some ⟨E k, 0, none⟩))
  lease : ∀ k, k < n → w.heap[E k]? = some (leaseObj (f k))
  inj : ∀ j k, j < n → k < n → E j = E k → j = k
theorem other_type {w : World} {a b : Nat} {x y : Array Value} {S T : TypeId} (ha : w.heap[a]? = some (.cells x S (0, 0))) (hb : w.heap[b]? = some (.cells y T (0, 0))) (h : S ≠ T) : a ≠ b := fun e => by
  rw [e, hb] at ha
  simp only [Option.some.injEq, Obj.cells.injEq] at ha
  exact h ha.2.1.symm
section
variable {w w' : World} {b lb n cap : Nat} {E : Nat → Nat} {now : Int} {f : Nat → Int}
theorem ClockAt.keep (h : ClockAt w b lb n cap E now f) {l : List Nat} (ht : Turned l w w') (h1 : b ∉ l) (h2 : lb ∉ l) (h3 : ∀ k, k < n → E k ∉ l) : ClockAt w' b lb n cap E now f := by
  obtain ⟨cur, hc, hk⟩ := h.row
  exact ⟨ht.heap h.obj h1, ⟨cur, ht.heap hc h2, hk⟩, fun k hk => ht.heap (h.lease k hk) (h3 k hk), h.inj⟩
theorem ClockAt.still (h : ClockAt w b lb n cap E now f) (ht : Turned [] w w') : ClockAt w' b lb n cap E now f := h.keep ht (by simp) (by simp) (by simp)
theorem ClockAt.cellNow (h : ClockAt w b lb n cap E now f) : w.cell? ⟨b, 0, none⟩ = some (.int .i64 now) := by rw [cell_at h.obj]; rfl
theorem ClockAt.cellRow (h : ClockAt w b lb n cap E now f) : w.cell? ⟨b, 1, none⟩ = some (.slice (some ⟨lb, 0, none⟩) n cap) := by rw [cell_at h.obj]; rfl
theorem ClockAt.cellAt (h : ClockAt w b lb n cap E now f) {k : Nat} (hk : k < n) : w.cell? ⟨lb, k, none⟩ = some (.pointer (some ⟨E k, 0, none⟩)) := by
  obtain ⟨cur, hc, hr⟩ := h.row
  rw [cell_at hc]; exact hr k hk
theorem ClockAt.cellLease (h : ClockAt w b lb n cap E now f) {k : Nat} (hk : k < n) : w.cell? ⟨E k, 0, none⟩ = some (.int .i64 (f k)) := by rw [cell_at (h.lease k hk)]; rfl
theorem ClockAt.frozNow (h : ClockAt w b lb n cap E now f) : w.frozen? ⟨b, 0, none⟩ = false := froz_at h.obj _
theorem ClockAt.frozLease (h : ClockAt w b lb n cap E now f) {k : Nat} (hk : k < n) : w.frozen? ⟨E k, 0, none⟩ = false := froz_at (h.lease k hk) _
theorem ClockAt.ne_b (h : ClockAt w b lb n cap E now f) {k : Nat} (hk : k < n) : E k ≠ b := other_type (h.lease k hk) h.obj (by decide)
theorem ClockAt.ne_lb (h : ClockAt w b lb n cap E now f) {k : Nat} (hk : k < n) : E k ≠ lb := by
  obtain ⟨cur, hc, _⟩ := h.row
  exact other_type (h.lease k hk) hc (by decide)
theorem ClockAt.b_ne (h : ClockAt w b lb n cap E now f) : b ≠ lb := by
  obtain ⟨cur, hc, _⟩ := h.row
  exact other_type h.obj hc (by decide)
/-- A lease is stored. -/
theorem ClockAt.put (h : ClockAt w b lb n cap E now f) {k : Nat} (hk : k < n) (v : Int) : ClockAt (w.setCell ⟨E k, 0, none⟩ (.int .i64 v)) b lb n cap E now (upd f k v) := by
  obtain ⟨cur, hc, hr⟩ := h.row
  refine ⟨(blk_other (fun e => h.ne_b hk e.symm) _ _).trans h.obj, ⟨cur, (blk_other (fun e => h.ne_lb hk e.symm) _ _).trans hc, hr⟩, fun j hj => ?_, h.inj⟩
  by_cases e : j = k
  · subst e; rw [upd_same]; exact (blk_set (h.lease j hj) 0 _)
  · rw [upd_other _ _ e]; exact (blk_other (fun x => e (h.inj j k hj hk x)) _ _).trans (h.lease j hj)
/-- now is stored. -/
theorem ClockAt.putNow (h : ClockAt w b lb n cap E now f) (v : Int) : ClockAt (w.setCell ⟨b, 0, none⟩ (.int .i64 v)) b lb n cap E v f := by
  obtain ⟨cur, hc, hr⟩ := h.row
  exact ⟨blk_set h.obj 0 _, ⟨cur, (blk_other (fun e => h.b_ne e.symm) _ _).trans hc, hr⟩, fun j hj => (blk_other (h.ne_b hj) _ _).trans (h.lease j hj), h.inj⟩
end
def hasB (n : Nat) (i : Int) : Bool := decide (0 ≤ i) && decide (i < n)
theorem has_yes {n : Nat} {i : Int} (h : 0 ≤ i) (h2 : i < n) : hasB n i = true := by unfold hasB; simp [h, h2]
theorem has_no {n : Nat} {i : Int} (h : i < 0 ∨ n ≤ i) : hasB n i = false := by unfold hasB; simp; omega
theorem cHas {w : World} {b lb n cap : Nat} {now : Int} (hb : w.heap[b]? = some (clockObj now (.slice (some ⟨lb, 0, none⟩) n cap))) (i : Int) :
    Calls Try.prog 14 #[.pointer (some ⟨b, 0, none⟩), .int .i64 i] w fun e w' => e = .returned (.bool (hasB n i)) ∧ w' = w := by
  have c1 := cell_at hb 1
  simp at c1
  rcases (by omega : i < 0 ∨ (0 ≤ i ∧ i < n) ∨ (0 ≤ i ∧ (n : Int) ≤ i)) with h | ⟨h, h2⟩ | ⟨h, h2⟩
  · rw [has_no (.inl h)]
    have d1 : decide (0 ≤ i) = false := decide_eq_false (by omega)
    go_enter Try.func14, Try.ntmps14
    go_wp2
    go_ret
    exact ⟨rfl, rfl⟩
  · rw [has_yes h h2]
    go_enter Try.func14, Try.ntmps14
    go_wp2
    go_ret
    exact ⟨rfl, rfl⟩
  · rw [has_no (.inr h2)]
    have d2 : decide (i < (n : Int)) = false := decide_eq_false (by omega)
    go_enter Try.func14, Try.ntmps14
    go_wp2
    go_ret
    exact ⟨rfl, rfl⟩
theorem cNow {w : World} {b : Nat} {now : Int} {v : Value} (hb : w.heap[b]? = some (clockObj now v)) :
    Calls Try.prog 8 #[.pointer (some ⟨b, 0, none⟩), .pointer none] w fun e w' => e = .returned (.int .i64 now) ∧ w' = w := by
  have c0 := cell_at hb 0
  simp at c0
  go_enter Try.func8, Try.ntmps8
  go_wp2_with (first
    | (go_at_call 15; refine (cStep _).mono ?_; rintro e w' ⟨rfl, rfl⟩)
    | (go_at_call 17; refine (cALoad c0).mono ?_; rintro e w' ⟨rfl, rfl⟩))
  go_ret
  exact ⟨rfl, rfl⟩
section
variable {w : World} {b lb n cap : Nat} {E : Nat → Nat} {now : Int} {f : Nat → Int}
set_option maxHeartbeats 800000 in
theorem cClaimAt (H : ClockAt w b lb n cap E now f) (hn : n ≤ 64) (m : Nat) (hm : m < n) (h0 : f m = 0) (hne : ∀ j, j < m → ¬ f j = 0) :
    Calls Try.prog 13 #[.pointer (some ⟨b, 0, none⟩), .pointer none] w fun e w' => e = .returned (.int .i64 m) ∧ w' = w.setCell ⟨E m, 0, none⟩ (.int .i64 1) := by
  have c1 := H.cellRow
  have HH : Hid _ := H
  have H0 : Hid (f m = 0) := h0
  have HN : Hid (∀ j, j < m → ¬ f j = 0) := hne
  clear H h0 hne
  go_enter Try.func13, Try.ntmps13
  go_wp2
  go_loop [12] (fun i => ∃ k : Nat, k ≤ m ∧ i = .int .i64 k) (fun i => n - (intOf i).toNat)
  case atStart => exact ⟨0, Nat.zero_le _, rfl⟩
  case round =>
    obtain ⟨k, hk, rfl⟩ := hrel
    have hkn : (k : Int) < n := by omega
    have ck := HH.out.cellAt (k := k) (by omega)
    have cl := HH.out.cellLease (k := k) (by omega)
    have cz := HH.out.frozLease (k := k) (by omega)
    by_cases hlt : k < m
    · have hx := HN.out k hlt
      go_wp2_with (first
        | (go_at_call 15; refine (cStep _).mono ?_; rintro e w' ⟨rfl, rfl⟩)
        | (go_at_call 16; refine (cACasMiss cl cz hx).mono ?_; rintro e w' ⟨rfl, rfl⟩))
      go_round
      case rel => exact ⟨k + 1, by omega, by go_num⟩
      case measure => simp [intOf]; omega
    · have e : k = m := by omega
      subst e
      rw [H0.out] at cl
      go_wp2_with (first
        | (go_at_call 15; refine (cStep _).mono ?_; rintro e w' ⟨rfl, rfl⟩)
        | (go_at_call 16; refine (cACas cl cz).mono ?_; rintro e w' ⟨rfl, rfl⟩))
      go_ret
      exact ⟨rfl, rfl⟩
set_option maxHeartbeats 800000 in
theorem cClaimNone (H : ClockAt w b lb n cap E now f) (hn : n ≤ 64) (hne : ∀ j, j < n → ¬ f j = 0) :
    Calls Try.prog 13 #[.pointer (some ⟨b, 0, none⟩), .pointer none] w fun e w' => e = .returned (.int .i64 (-1)) ∧ w' = w := by
  have c1 := H.cellRow
  have HH : Hid _ := H
  have HN : Hid (∀ j, j < n → ¬ f j = 0) := hne
  clear H hne
  go_enter Try.func13, Try.ntmps13
  go_wp2
  go_loop [12] (fun i => ∃ k : Nat, k ≤ n ∧ i = .int .i64 k) (fun i => n - (intOf i).toNat)
  case atStart => exact ⟨0, Nat.zero_le _, rfl⟩
  case round =>
    obtain ⟨k, hk, rfl⟩ := hrel
    by_cases hlt : k < n
    · have hkn : (k : Int) < n := by omega
      have ck := HH.out.cellAt (k := k) (by omega)
      have cl := HH.out.cellLease (k := k) (by omega)
      have cz := HH.out.frozLease (k := k) (by omega)
      have hx := HN.out k hlt
      go_wp2_with (first
        | (go_at_call 15; refine (cStep _).mono ?_; rintro e w' ⟨rfl, rfl⟩)
        | (go_at_call 16; refine (cACasMiss cl cz hx).mono ?_; rintro e w' ⟨rfl, rfl⟩))
      go_round
      case rel => exact ⟨k + 1, by omega, by go_num⟩
      case measure => simp [intOf]; omega
    · have hkn : ¬ (k : Int) < n := by omega
      go_wp2
      go_ret
      exact ⟨rfl, rfl⟩
end
end Go.Proofs.Ytibpgoiiohmeiaa
