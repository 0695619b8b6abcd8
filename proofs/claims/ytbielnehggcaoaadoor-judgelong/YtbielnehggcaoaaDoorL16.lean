/-
  Events in memory; package judge's small functions on them by contract. (By the verifier; no statement.)
-/
import Derived.Test.YtbielnehggcaoaaDoorL10
import Derived.Test.YtbielnehggcaoaaDoorL15
import Derived.BigQuiet
import Derived.Deep.QuietTactic
namespace Go.Proofs.YtbielnehggcaoaaDoor
open Go.RowKit
/-- One and the same world. -/
def SameW (a b : World) : Prop := a = b
/-- The slice v reads as the pairs l. -/
structure PW (w : World) (v : Value) (l : List (Int × Int)) : Prop where
  len : l.length ≤ 1000000
  ex : ∃ a c, v = .slice a l.length c ∧ (l ≠ [] → ∃ b o, a = some ⟨b, o, none⟩ ∧ ∀ i (h : i < l.length), w.cell? ⟨b, o + i * 2, none⟩ = some (.int .i64 l[i].1) ∧ w.cell? ⟨b, o + i * 2 + 1, none⟩ = some (.int .i64 l[i].2))
theorem cell_drewN (w : World) (n : Nat) (p : Addr) : (w.drewN n).cell? p = w.cell? p := rfl
theorem belowDrew {B : Nat} {a w : World} (h : Below B a w) (n : Nat) : Below B a (w.drewN n) := ⟨h.os, h.tape, h.output, h.size, h.block⟩
theorem Turned.drewN {l : List Nat} {a w : World} (h : Turned l a w) (n : Nat) : Turned l a (w.drewN n) := ⟨h.os, h.tape, h.output, h.size, h.block⟩
theorem belowCell {B : Nat} {w w' : World} (h : Below B w w') {p : Addr} {v : Value} (hc : w.cell? p = some v) (hB : w.heap.size = B) : w'.cell? p = some v :=
  (h.cell (by have := World.block_lt_of_cell? w p hc; omega)).trans hc
theorem IV.below {B : Nat} {w w' : World} {v : Value} {l : List Int} (h : IV w v l) (k : Below B w w') (hB : w.heap.size = B) : IV w' v l := by
  obtain ⟨a, c, rfl, hz, hc⟩ := h.ex
  refine ⟨a, c, rfl, hz, fun hne => ?_⟩
  obtain ⟨b, o, rfl, hk⟩ := hc hne
  exact ⟨b, o, rfl, fun i hi => belowCell k (hk i hi) hB⟩
theorem PW.below {B : Nat} {w w' : World} {v : Value} {l : List (Int × Int)} (h : PW w v l) (k : Below B w w') (hB : w.heap.size = B) : PW w' v l := by
  obtain ⟨a, c, rfl, hc⟩ := h.ex
  refine ⟨h.len, a, c, rfl, fun hne => ?_⟩
  obtain ⟨b, o, rfl, hk⟩ := hc hne
  exact ⟨b, o, rfl, fun i hi => ⟨belowCell k (hk i hi).1 hB, belowCell k (hk i hi).2 hB⟩⟩
/-- An event at an address. -/
structure EvAt (w : World) (b o : Nat) (e : Ev) : Prop where
  lt : b < w.heap.size
  c0 : w.cell? ⟨b, o, none⟩ = some (.int .i64 e.wk)
  c1 : w.cell? ⟨b, o + 1, none⟩ = some (.int .i64 e.b)
  c2 : w.cell? ⟨b, o + 2, none⟩ = some (.int .i64 e.e)
  c3 : w.cell? ⟨b, o + 3, none⟩ = some (.int .i64 e.k)
  c4 : w.cell? ⟨b, o + 4, none⟩ = some (.int .i64 e.p)
  c5 : w.cell? ⟨b, o + 5, none⟩ = some (.int .i64 e.key)
  c6 : w.cell? ⟨b, o + 6, none⟩ = some (.int .i64 e.num)
  c7 : w.cell? ⟨b, o + 7, none⟩ = some (.bool e.had)
  c8 : w.cell? ⟨b, o + 8, none⟩ = some (.int .i64 e.val)
  c9 : w.cell? ⟨b, o + 9, none⟩ = some (.bool e.has)
  c10 : w.cell? ⟨b, o + 10, none⟩ = some (.int .i64 e.new)
  c11 : ∃ v, w.cell? ⟨b, o + 11, none⟩ = some v ∧ IV w v e.ns
  c12 : ∃ v, w.cell? ⟨b, o + 12, none⟩ = some v ∧ PW w v e.ps
theorem EvAt.below {B : Nat} {w w' : World} {b o : Nat} {e : Ev} (h : EvAt w b o e) (k : Below B w w') (hB : w.heap.size = B) : EvAt w' b o e := by
  obtain ⟨v, hv, hi⟩ := h.c11
  obtain ⟨u, hu, hp⟩ := h.c12
  exact ⟨Nat.lt_of_lt_of_le h.lt k.size, belowCell k h.c0 hB, belowCell k h.c1 hB, belowCell k h.c2 hB, belowCell k h.c3 hB, belowCell k h.c4 hB, belowCell k h.c5 hB, belowCell k h.c6 hB, belowCell k h.c7 hB, belowCell k h.c8 hB, belowCell k h.c9 hB, belowCell k h.c10 hB, ⟨v, belowCell k hv hB, hi.below k hB⟩, ⟨u, belowCell k hu hB, hp.below k hB⟩⟩
theorem EvAt.drewN {w : World} {b o : Nat} {e : Ev} (h : EvAt w b o e) (n : Nat) : EvAt (w.drewN n) b o e := h.below (belowDrew (Below.refl w.heap.size w) n) rfl
theorem quiet_same2 {P : Program} {f : FuncId} {args : Array Value} {w : World} {a n : Nat} {v : Value} (h : Calls P f args (w.drewN (a + n)) fun e w' => e = .returned v ∧ w' = w.drewN (a + n)) : Calls P f args (w.drewN (a + n)) fun e w'' => e = .returned v ∧ ∃ m, w'' = w.drewN (a + m) :=
  h.mono fun _ _ ⟨he, hm⟩ => ⟨he, n, hm⟩
theorem quiet_of2 {P : Program} {f : FuncId} {args : Array Value} {w : World} {a n : Nat} {v : Value} (h : Calls P f args (w.drewN (a + n)) fun e w' => e = .returned v ∧ ∃ m, w' = (w.drewN (a + n)).drewN m) : Calls P f args (w.drewN (a + n)) fun e w'' => e = .returned v ∧ ∃ m, w'' = w.drewN (a + m) :=
  h.mono fun _ _ ⟨he, m, hm⟩ => ⟨he, n + m, by rw [hm, World.drewN_drewN, Nat.add_assoc]⟩
abbrev ptr (b o : Nat) : Value := .pointer (some ⟨b, o, none⟩)
set_option maxHeartbeats 400000 in
theorem cSnap {w : World} {b o : Nat} {e : Ev} (h : EvAt w b o e) : Calls Tryd.prog 80 #[.pointer (some ⟨b, o, none⟩)] w fun r w' => r = .returned (.bool e.snap) ∧ w' = w := by
  have h3 := h.c3
  have hl := h.lt
  clear h
  unfold Ev.snap
  go_enter Tryd.func80, Tryd.ntmps80
  go_wp2
  go_ret
  exact ⟨rfl, rfl⟩
set_option maxHeartbeats 400000 in
theorem cPubs {w : World} {b o : Nat} {e : Ev} (h : EvAt w b o e) : Calls Tryd.prog 76 #[.pointer (some ⟨b, o, none⟩)] w fun r w' => r = .returned (.bool e.pub) ∧ w' = w := by
  have h3 := h.c3
  have hl := h.lt
  clear h
  unfold Ev.pub
  cases d1 : (e.k == 2) with
  | true =>
    rw [show decide (e.k = 2) = true by simpa using d1]
    go_enter Tryd.func76, Tryd.ntmps76
    go_wp2
    go_ret
    exact ⟨rfl, rfl⟩
  | false =>
    rw [show decide (e.k = 2) = false by simpa using d1]
    go_enter Tryd.func76, Tryd.ntmps76
    go_wp2
    go_ret
    exact ⟨rfl, rfl⟩
set_option maxHeartbeats 400000 in
theorem cTold {w : World} {b o : Nat} {e : Ev} (h : EvAt w b o e) : Calls Tryd.prog 92 #[.pointer (some ⟨b, o, none⟩)] w fun r w' => r = .returned (.int .i64 e.told) ∧ w' = w := by
  have h3 := h.c3
  have h6 := h.c6
  have hl := h.lt
  clear h
  unfold Ev.told
  rcases (by omega : e.k = 1 ∨ e.k = 3 ∨ e.k = 2 ∨ (e.k ≠ 1 ∧ e.k ≠ 3 ∧ e.k ≠ 2)) with g | g | g | ⟨g1, g2, g3⟩
  · rw [g] at h3 ⊢
    go_enter Tryd.func92, Tryd.ntmps92
    go_wp2
    go_ret
    exact ⟨rfl, rfl⟩
  · rw [g] at h3 ⊢
    go_enter Tryd.func92, Tryd.ntmps92
    go_wp2
    go_ret
    exact ⟨rfl, rfl⟩
  · rw [g] at h3 ⊢
    go_enter Tryd.func92, Tryd.ntmps92
    go_wp2
    go_ret
    exact ⟨rfl, rfl⟩
  · have d1 : (e.k == 1) = false := by simpa using g1
    have d2 : (e.k == 3) = false := by simpa using g2
    have d3 : (e.k == 2) = false := by simpa using g3
    rw [if_neg (by omega), if_neg g3]
    go_enter Tryd.func92, Tryd.ntmps92
    go_wp2
    go_ret
    exact ⟨rfl, rfl⟩
set_option maxHeartbeats 400000 in
theorem cOfPart {w : World} {b o : Nat} {e : Ev} {m : Int} (h : EvAt w b o e) : Calls Tryd.prog 90 #[.pointer (some ⟨b, o, none⟩), .int .i64 m] w fun r w' => r = .returned (.bool (e.inPart m)) ∧ w' = w := by
  have P := cSnap h
  have h4 := h.c4
  have hl := h.lt
  clear h
  unfold Ev.inPart
  unfold Ev.snap at P
  by_cases g : e.k = 4
  · rw [if_pos g]
    rw [decide_eq_true g] at P
    go_enter Tryd.func90, Tryd.ntmps90
    go_wp2_with (go_at_call 80; refine P.mono ?_; rintro r x1 ⟨rfl, rfl⟩)
    go_ret
    exact ⟨rfl, rfl⟩
  · rw [if_neg g]
    rw [decide_eq_false g] at P
    cases d1 : decide (0 ≤ e.p) with
    | true =>
      go_enter Tryd.func90, Tryd.ntmps90
      go_wp2_with (go_at_call 80; refine P.mono ?_; rintro r x1 ⟨rfl, rfl⟩)
      go_ret
      exact ⟨rfl, rfl⟩
    | false =>
      go_enter Tryd.func90, Tryd.ntmps90
      go_wp2_with (go_at_call 80; refine P.mono ?_; rintro r x1 ⟨rfl, rfl⟩)
      go_ret
      exact ⟨rfl, rfl⟩
theorem all_takeI {l : List Int} {p : Int → Bool} {k : Nat} (h : k < l.length) : (l.take (k + 1)).all p = ((l.take k).all p && p l[k]) := by
  rw [List.take_add_one, List.getElem?_eq_getElem h, Option.toList_some, List.all_append]
  simp
set_option maxHeartbeats 800000 in
theorem cNums {w : World} {v : Value} {l : List Int} {m : Int} (h : IV w v l) (hm : m ≤ 64) : Calls Tryd.prog 91 #[v, .int .i64 m] w fun r w' => r = .returned (.bool (numsB m l)) ∧ w' = w := by
  obtain ⟨a, c, rfl, -, hc⟩ := h.ex
  clear h
  unfold numsB
  by_cases g : (l.length : Int) = m
  · have d0 : ((l.length : Int) != m) = false := by simpa using g
    rw [decide_eq_true g, Bool.true_and]
    obtain ⟨n, hn⟩ : ∃ n, n = l.length := ⟨_, rfl⟩
    have HC : Hid (∀ k, k < n → ∃ b o x, a = some ⟨b, o, none⟩ ∧ w.cell? ⟨b, o + k, none⟩ = some (.int .i64 x) ∧ (l.take (k + 1)).all (fun n => decide (1 ≤ n)) = ((l.take k).all (fun n => decide (1 ≤ n)) && decide (1 ≤ x)) ∧ (decide (1 ≤ x) = false → l.all (fun n => decide (1 ≤ n)) = false)) := fun k hk => by
      rw [hn] at hk
      obtain ⟨b, o, ha, hx⟩ := hc (fun e => by rw [e] at hk; simp at hk)
      exact ⟨b, o, l[k], ha, hx k hk, all_takeI hk, fun hd => List.all_eq_false.2 ⟨l[k], List.getElem_mem hk, by simp [hd]⟩⟩
    have hn6 : n ≤ 64 := by omega
    have HE : Hid (l.take n = l) := by rw [Hid, hn, List.take_length]
    rw [← hn] at d0 ⊢
    clear hc g hn
    go_enter Tryd.func91, Tryd.ntmps91
    go_wp2
    go_loopw [13, 6] (fun i _ wx => ∃ k : Nat, k ≤ n ∧ i = .int .i64 k ∧ Hid ((l.take k).all (fun n => decide (1 ≤ n)) = true) ∧ SameW w wx) (fun i _ _ => n - (intOf i).toNat)
    case atStart => exact ⟨0, Nat.zero_le _, rfl, rfl, rfl⟩
    case round =>
      obtain ⟨k, hk, rfl, HA, HW⟩ := hrel
      have ew : w = wr := HW
      subst ew
      by_cases hlt : k < n
      · obtain ⟨b, o, x, rfl, hx, h1, h2⟩ := HC.out k hlt
        have HX : Hid _ := h1
        have HY : Hid _ := h2
        clear h1 h2
        have hbl := World.block_lt_of_cell? _ _ hx
        dsimp only at hbl
        by_cases hx1 : x < 1
        · have d1 : decide (x < 1) = true := decide_eq_true hx1
          go_wp2
          go_ret
          exact ⟨by rw [HY.out (decide_eq_false (by omega))]; rfl, rfl⟩
        · have d1 : decide (x < 1) = false := decide_eq_false hx1
          go_wp2
          go_roundw
          case rel => exact ⟨k + 1, by omega, by go_num, by rw [Hid, HX.out, HA.out, decide_eq_true (by omega)]; rfl, rfl⟩
          case measure => simp [intOf]; omega
      · have e : k = n := by omega
        subst e
        go_wp2
        go_ret
        refine ⟨?_, rfl⟩
        have HB := HA.out
        rw [HE.out] at HB
        rw [HB]
        rfl
  · have d0 : ((l.length : Int) != m) = true := by simpa using g
    rw [decide_eq_false g, Bool.false_and]
    go_enter Tryd.func91, Tryd.ntmps91
    go_wp2
    go_ret
    exact ⟨rfl, rfl⟩
end Go.Proofs.YtbielnehggcaoaaDoor
/-
  Which events are right, by contract. (By the verifier; no statement.)
-/
namespace Go.Proofs.YtbielnehggcaoaaDoor
open Go.RowKit
set_option maxHeartbeats 1600000 in
theorem cIsRight {w : World} {b o : Nat} {e : Ev} {m : Int} (h : EvAt w b o e) (hm : m ≤ 64) : Calls Tryd.prog 73 #[.pointer (some ⟨b, o, none⟩), .int .i64 m] w fun r w' => r = .returned (.bool (e.good m)) ∧ ∃ n, w' = w.drewN n := by
  have PT := fun n => cIsTime e.b e.e (w.drewN n)
  have PP := fun n => cOfPart (m := m) (h.drewN n)
  have PS := fun n => cSnap (h.drewN n)
  have PU := fun n => cPubs (h.drewN n)
  obtain ⟨v, hv, hi⟩ := h.c11
  have PN := fun n => cNums (m := m) (hi.below (belowDrew (Below.refl w.heap.size w) n) rfl) hm
  have h1 := h.c1
  have h2 := h.c2
  have h3 := h.c3
  have h6 := h.c6
  have hl := h.lt
  clear h hi hm
  have HG : Hid (e.good m = (decide (1 ≤ e.k) && decide (e.k ≤ 5) && timeB e.b e.e && e.inPart m && (if e.e = 0 then true else if e.k = 4 then numsB m e.ns else if e.pub then decide (2 ≤ e.num) else decide (1 ≤ e.num)))) := rfl
  by_cases g1 : e.k < 1
  · have d1 : decide (e.k < 1) = true := decide_eq_true g1
    have E : e.good m = false := by rw [HG.out, decide_eq_false (by omega)]; rfl
    rw [E]
    go_enter Tryd.func73, Tryd.ntmps73
    go_wp2
    go_quiet (fail)
    go_wp2
    go_ret
    exact ⟨rfl, _, rfl⟩
  have d1 : decide (e.k < 1) = false := decide_eq_false g1
  by_cases g2 : 5 < e.k
  · have d2 : decide (5 < e.k) = true := decide_eq_true g2
    have E : e.good m = false := by rw [HG.out, decide_eq_false (show ¬ e.k ≤ 5 by omega)]; simp
    rw [E]
    go_enter Tryd.func73, Tryd.ntmps73
    go_wp2
    go_quiet (fail)
    go_wp2
    go_ret
    exact ⟨rfl, _, rfl⟩
  have d2 : decide (5 < e.k) = false := decide_eq_false g2
  have E0 : e.good m = (timeB e.b e.e && e.inPart m && (if e.e = 0 then true else if e.k = 4 then numsB m e.ns else if e.pub then decide (2 ≤ e.num) else decide (1 ≤ e.num))) := by rw [HG.out, decide_eq_true (show 1 ≤ e.k by omega), decide_eq_true (show e.k ≤ 5 by omega)]; simp
  rw [E0]
  clear E0 HG g1 g2
  cases d3 : timeB e.b e.e with
  | false =>
    rw [d3] at PT
    rw [Bool.false_and, Bool.false_and]
    go_enter Tryd.func73, Tryd.ntmps73
    go_wp2
    go_quiet ((go_at_call 68; exact Calls.quiet_of_same (PT _)))
    go_wp2
    go_ret
    exact ⟨rfl, _, rfl⟩
  | true =>
    rw [d3] at PT
    cases d4 : e.inPart m with
    | false =>
      rw [d4] at PP
      rw [Bool.true_and, Bool.false_and]
      go_enter Tryd.func73, Tryd.ntmps73
      go_wp2
      go_quiet (first | (go_at_call 68; exact Calls.quiet_of_same (PT _)) | (go_at_call 90; exact Calls.quiet_of_same (PP _)))
      go_wp2
      go_ret
      exact ⟨rfl, _, rfl⟩
    | true =>
      rw [d4] at PP
      rw [Bool.true_and, Bool.true_and]
      have HS : Hid (e.snap = decide (e.k = 4)) := rfl
      rcases (by omega : e.e = 0 ∨ (e.e ≠ 0 ∧ e.k = 4) ∨ (e.e ≠ 0 ∧ e.k ≠ 4)) with g | ⟨g, g4⟩ | ⟨g, g4⟩
      · rw [if_pos g]
        rw [g] at PT h2
        go_enter Tryd.func73, Tryd.ntmps73
        go_wp2
        go_quiet (first | (go_at_call 68; exact Calls.quiet_of_same (PT _)) | (go_at_call 90; exact Calls.quiet_of_same (PP _)))
        go_wp2
        go_ret
        exact ⟨rfl, _, rfl⟩
      · rw [if_neg g, if_pos g4]
        have d5 : (e.e == 0) = false := by simpa using g
        rw [HS.out, decide_eq_true g4] at PS
        go_enter Tryd.func73, Tryd.ntmps73
        go_wp2
        go_quiet (first | (go_at_call 68; exact Calls.quiet_of_same (PT _)) | (go_at_call 90; exact Calls.quiet_of_same (PP _)))
        go_wp2_with (first | (go_at_call 80; refine (PS _).mono ?_; rintro r x1 ⟨rfl, rfl⟩) | (go_at_call 91; refine (PN _).mono ?_; rintro r x1 ⟨rfl, rfl⟩))
        go_ret
        exact ⟨rfl, _, rfl⟩
      · rw [if_neg g, if_neg g4]
        have d5 : (e.e == 0) = false := by simpa using g
        rw [HS.out, decide_eq_false g4] at PS
        cases d6 : e.pub with
        | true =>
          rw [d6] at PU
          go_enter Tryd.func73, Tryd.ntmps73
          go_wp2
          go_quiet (first | (go_at_call 68; exact Calls.quiet_of_same (PT _)) | (go_at_call 90; exact Calls.quiet_of_same (PP _)))
          go_wp2_with (first | (go_at_call 80; refine (PS _).mono ?_; rintro r x1 ⟨rfl, rfl⟩) | (go_at_call 76; refine (PU _).mono ?_; rintro r x1 ⟨rfl, rfl⟩))
          go_ret
          exact ⟨rfl, _, rfl⟩
        | false =>
          rw [d6] at PU
          go_enter Tryd.func73, Tryd.ntmps73
          go_wp2
          go_quiet (first | (go_at_call 68; exact Calls.quiet_of_same (PT _)) | (go_at_call 90; exact Calls.quiet_of_same (PP _)))
          go_wp2_with (first | (go_at_call 80; refine (PS _).mono ?_; rintro r x1 ⟨rfl, rfl⟩) | (go_at_call 76; refine (PU _).mono ?_; rintro r x1 ⟨rfl, rfl⟩))
          go_ret
          exact ⟨rfl, _, rfl⟩
end Go.Proofs.YtbielnehggcaoaaDoor
/-
  Two events held against each other, by contract. (By the verifier; no statement.)
-/
namespace Go.Proofs.YtbielnehggcaoaaDoor
open Go.RowKit
section
variable {w : World} {b o b' o' : Nat} {e e' : Ev}
set_option maxHeartbeats 1600000 in
theorem cTwice (h : EvAt w b o e) (h' : EvAt w b' o' e') : Calls Tryd.prog 81 #[.pointer (some ⟨b, o, none⟩), .pointer (some ⟨b', o', none⟩)] w fun r w' => r = .returned (.bool (twiceB e e')) ∧ ∃ n, w' = w.drewN n := by
  have P := fun n => cPubs (h.drewN n)
  have P' := fun n => cPubs (h'.drewN n)
  have h4 := h.c4
  have h6 := h.c6
  have g4 := h'.c4
  have g6 := h'.c6
  have hl := h.lt
  have gl := h'.lt
  clear h h'
  unfold twiceB
  cases d1 : e.pub with
  | false =>
    rw [d1] at P
    rw [Bool.false_and, Bool.false_and, Bool.false_and]
    go_enter Tryd.func81, Tryd.ntmps81
    go_wp2
    go_quiet ((go_at_call 76; exact Calls.quiet_of_same (P _)))
    go_wp2
    go_ret
    exact ⟨rfl, _, rfl⟩
  | true =>
    rw [d1] at P
    cases d2 : e'.pub with
    | false =>
      rw [d2] at P'
      rw [Bool.true_and, Bool.false_and, Bool.false_and]
      go_enter Tryd.func81, Tryd.ntmps81
      go_wp2
      go_quiet (first | (go_at_call_of 76 (Value.pointer (some ⟨b, o, none⟩)); exact Calls.quiet_of_same (P _)) | (go_at_call_of 76 (Value.pointer (some ⟨b', o', none⟩)); exact Calls.quiet_of_same (P' _)))
      go_wp2
      go_ret
      exact ⟨rfl, _, rfl⟩
    | true =>
      rw [d2] at P'
      rw [Bool.true_and, Bool.true_and]
      cases d3 : (e.p == e'.p) with
      | false =>
        rw [show decide (e.p = e'.p) = false from d3, Bool.false_and]
        go_enter Tryd.func81, Tryd.ntmps81
        go_wp2
        go_quiet (first | (go_at_call_of 76 (Value.pointer (some ⟨b, o, none⟩)); exact Calls.quiet_of_same (P _)) | (go_at_call_of 76 (Value.pointer (some ⟨b', o', none⟩)); exact Calls.quiet_of_same (P' _)))
        go_wp2
        go_ret
        exact ⟨rfl, _, rfl⟩
      | true =>
        rw [show decide (e.p = e'.p) = true from d3, Bool.true_and]
        go_enter Tryd.func81, Tryd.ntmps81
        go_wp2
        go_quiet (first | (go_at_call_of 76 (Value.pointer (some ⟨b, o, none⟩)); exact Calls.quiet_of_same (P _)) | (go_at_call_of 76 (Value.pointer (some ⟨b', o', none⟩)); exact Calls.quiet_of_same (P' _)))
        go_wp2
        go_ret
        exact ⟨rfl, _, rfl⟩
set_option maxHeartbeats 1600000 in
theorem cBack (h : EvAt w b o e) (h' : EvAt w b' o' e') : Calls Tryd.prog 82 #[.pointer (some ⟨b, o, none⟩), .pointer (some ⟨b', o', none⟩)] w fun r w' => r = .returned (.bool (backB e e')) ∧ ∃ n, w' = w.drewN n := by
  have P := fun n => cSnap (h.drewN n)
  have P' := fun n => cSnap (h'.drewN n)
  have PU := fun n => cPubs (h.drewN n)
  have h4 := h.c4
  have h6 := h.c6
  have g4 := h'.c4
  have g6 := h'.c6
  have hl := h.lt
  have gl := h'.lt
  clear h h'
  unfold backB
  cases d1 : e.snap with
  | true =>
    rw [d1] at P
    rw [Bool.not_true, Bool.false_and, Bool.false_and, Bool.false_and]
    go_enter Tryd.func82, Tryd.ntmps82
    go_wp2
    go_quiet ((go_at_call 80; exact Calls.quiet_of_same (P _)))
    go_wp2
    go_ret
    exact ⟨rfl, _, rfl⟩
  | false =>
    rw [d1] at P
    cases d2 : e'.snap with
    | true =>
      rw [d2] at P'
      rw [Bool.not_false, Bool.not_true, Bool.true_and, Bool.false_and, Bool.false_and]
      go_enter Tryd.func82, Tryd.ntmps82
      go_wp2
      go_quiet (first | (go_at_call_of 80 (Value.pointer (some ⟨b, o, none⟩)); exact Calls.quiet_of_same (P _)) | (go_at_call_of 80 (Value.pointer (some ⟨b', o', none⟩)); exact Calls.quiet_of_same (P' _)))
      go_wp2
      go_ret
      exact ⟨rfl, _, rfl⟩
    | false =>
      rw [d2] at P'
      rw [Bool.not_false, Bool.true_and, Bool.true_and]
      by_cases g3 : e.p = e'.p
      · have d3 : (e.p != e'.p) = false := by simpa using g3
        rw [decide_eq_true g3, Bool.true_and]
        rcases (by omega : e.num < e'.num ∨ (¬ e.num < e'.num ∧ e.num = e'.num) ∨ (¬ e.num < e'.num ∧ e.num ≠ e'.num)) with q | ⟨q, q1⟩ | ⟨q, q1⟩
        · have q2 : decide (e.num < e'.num) = true := decide_eq_true q
          rw [q2, Bool.true_or]
          go_enter Tryd.func82, Tryd.ntmps82
          go_wp2
          go_quiet (first | (go_at_call_of 80 (Value.pointer (some ⟨b, o, none⟩)); exact Calls.quiet_of_same (P _)) | (go_at_call_of 80 (Value.pointer (some ⟨b', o', none⟩)); exact Calls.quiet_of_same (P' _)))
          go_wp2
          go_quiet (fail)
          go_wp2
          go_ret
          exact ⟨rfl, _, by rw [World.drewN_drewN]⟩
        · have q2 : decide (e.num < e'.num) = false := decide_eq_false q
          have q3 : (e.num == e'.num) = true := by simpa using q1
          rw [q2, decide_eq_true q1, Bool.false_or, Bool.true_and]
          go_enter Tryd.func82, Tryd.ntmps82
          go_wp2
          go_quiet (first | (go_at_call_of 80 (Value.pointer (some ⟨b, o, none⟩)); exact Calls.quiet_of_same (P _)) | (go_at_call_of 80 (Value.pointer (some ⟨b', o', none⟩)); exact Calls.quiet_of_same (P' _)))
          go_wp2
          go_quiet ((go_at_call 76; exact quiet_same2 (PU _)))
          go_wp2
          go_ret
          exact ⟨rfl, _, by rw [World.drewN_drewN]⟩
        · have q2 : decide (e.num < e'.num) = false := decide_eq_false q
          have q3 : (e.num == e'.num) = false := by simpa using q1
          rw [q2, decide_eq_false q1, Bool.false_or, Bool.false_and]
          go_enter Tryd.func82, Tryd.ntmps82
          go_wp2
          go_quiet (first | (go_at_call_of 80 (Value.pointer (some ⟨b, o, none⟩)); exact Calls.quiet_of_same (P _)) | (go_at_call_of 80 (Value.pointer (some ⟨b', o', none⟩)); exact Calls.quiet_of_same (P' _)))
          go_wp2
          go_quiet (fail)
          go_wp2
          go_ret
          exact ⟨rfl, _, by rw [World.drewN_drewN]⟩
      · have d3 : (e.p != e'.p) = true := by simpa using g3
        rw [decide_eq_false g3, Bool.false_and]
        go_enter Tryd.func82, Tryd.ntmps82
        go_wp2
        go_quiet (first | (go_at_call_of 80 (Value.pointer (some ⟨b, o, none⟩)); exact Calls.quiet_of_same (P _)) | (go_at_call_of 80 (Value.pointer (some ⟨b', o', none⟩)); exact Calls.quiet_of_same (P' _)))
        go_wp2
        go_ret
        exact ⟨rfl, _, rfl⟩
theorem IV.get {w : World} {v : Value} {l : List Int} (h : IV w v l) {i : Nat} (hi : i < l.length) : ∃ b o c, v = .slice (some ⟨b, o, none⟩) l.length c ∧ b < w.heap.size ∧ w.cell? ⟨b, o + i, none⟩ = some (.int .i64 (l.getD i 0)) := by
  obtain ⟨a, c, rfl, _, hc⟩ := h.ex
  obtain ⟨b, o, rfl, hk⟩ := hc (fun e => by rw [e] at hi; simp at hi)
  refine ⟨b, o, c, rfl, World.block_lt_of_cell? _ _ (hk i hi), ?_⟩
  rw [hk i hi]
  simp [hi]
set_option maxHeartbeats 1600000 in
/-- x is e, y is e': a snapshot of as many parts as there are. -/
theorem cWLate (h : EvAt w b o e) (h' : EvAt w b' o' e') (hp : e'.snap = true → e.pub = true → 0 ≤ e.p ∧ e.p.toNat < e'.ns.length) : Calls Tryd.prog 83 #[.pointer (some ⟨b, o, none⟩), .pointer (some ⟨b', o', none⟩)] w fun r w' => r = .returned (.bool (wlateB e e')) ∧ ∃ n, w' = w.drewN n := by
  have P := fun n => cSnap (h'.drewN n)
  have PU := fun n => cPubs (h.drewN n)
  have h4 := h.c4
  have h6 := h.c6
  obtain ⟨v, hv, hi⟩ := h'.c11
  have HI : Hid (IV w v e'.ns) := hi
  have hl := h.lt
  have gl := h'.lt
  clear h h' hi
  unfold wlateB
  cases d1 : e'.snap with
  | false =>
    rw [d1] at P
    rw [Bool.false_and, Bool.false_and]
    clear hp hv
    go_enter Tryd.func83, Tryd.ntmps83
    go_wp2
    go_quiet ((go_at_call 80; exact Calls.quiet_of_same (P _)))
    go_wp2
    go_ret
    exact ⟨rfl, _, rfl⟩
  | true =>
    rw [d1] at P
    cases d2 : e.pub with
    | false =>
      rw [d2] at PU
      rw [Bool.true_and, Bool.false_and]
      clear hp hv
      go_enter Tryd.func83, Tryd.ntmps83
      go_wp2
      go_quiet (first | (go_at_call 80; exact Calls.quiet_of_same (P _)) | (go_at_call 76; exact Calls.quiet_of_same (PU _)))
      go_wp2
      go_ret
      exact ⟨rfl, _, rfl⟩
    | true =>
      rw [d2] at PU
      rw [Bool.true_and, Bool.true_and]
      obtain ⟨q1, q2⟩ := hp d1 d2
      obtain ⟨j, hj⟩ : ∃ j : Nat, e.p = j := ⟨e.p.toNat, by omega⟩
      rw [hj, Int.toNat_natCast] at q2
      rw [hj, Int.toNat_natCast]
      rw [hj] at h4
      obtain ⟨b2, o2, c, rfl, hb2, hx⟩ := HI.out.get q2
      generalize e'.ns.getD j 0 = x at hx ⊢
      generalize e'.ns.length = nn at *
      clear hp q1 hj
      go_enter Tryd.func83, Tryd.ntmps83
      go_wp2
      go_quiet (first | (go_at_call 80; exact Calls.quiet_of_same (P _)) | (go_at_call 76; exact Calls.quiet_of_same (PU _)))
      go_wp2
      go_ret
      exact ⟨rfl, _, rfl⟩
set_option maxHeartbeats 1600000 in
theorem cSLate (h : EvAt w b o e) (h' : EvAt w b' o' e') (hp : e.snap = true → e'.snap = false → 0 ≤ e'.p ∧ e'.p.toNat < e.ns.length) : Calls Tryd.prog 84 #[.pointer (some ⟨b, o, none⟩), .pointer (some ⟨b', o', none⟩)] w fun r w' => r = .returned (.bool (slateB e e')) ∧ ∃ n, w' = w.drewN n := by
  have P := fun n => cSnap (h.drewN n)
  have P' := fun n => cSnap (h'.drewN n)
  have h4 := h'.c4
  have h6 := h'.c6
  obtain ⟨v, hv, hi⟩ := h.c11
  have HI : Hid (IV w v e.ns) := hi
  have hl := h.lt
  have gl := h'.lt
  clear h h' hi
  unfold slateB
  cases d1 : e.snap with
  | false =>
    rw [d1] at P
    rw [Bool.false_and, Bool.false_and]
    clear hp hv
    go_enter Tryd.func84, Tryd.ntmps84
    go_wp2
    go_quiet ((go_at_call 80; exact Calls.quiet_of_same (P _)))
    go_wp2
    go_ret
    exact ⟨rfl, _, rfl⟩
  | true =>
    rw [d1] at P
    cases d2 : e'.snap with
    | true =>
      rw [d2] at P'
      rw [Bool.true_and, Bool.not_true, Bool.false_and]
      clear hp hv
      go_enter Tryd.func84, Tryd.ntmps84
      go_wp2
      go_quiet (first | (go_at_call_of 80 (Value.pointer (some ⟨b, o, none⟩)); exact Calls.quiet_of_same (P _)) | (go_at_call_of 80 (Value.pointer (some ⟨b', o', none⟩)); exact Calls.quiet_of_same (P' _)))
      go_wp2
      go_ret
      exact ⟨rfl, _, rfl⟩
    | false =>
      rw [d2] at P'
      rw [Bool.true_and, Bool.not_false, Bool.true_and]
      obtain ⟨q1, q2⟩ := hp d1 d2
      obtain ⟨j, hj⟩ : ∃ j : Nat, e'.p = j := ⟨e'.p.toNat, by omega⟩
      rw [hj, Int.toNat_natCast] at q2
      rw [hj, Int.toNat_natCast]
      rw [hj] at h4
      obtain ⟨b2, o2, c, rfl, hb2, hx⟩ := HI.out.get q2
      generalize e.ns.getD j 0 = x at hx ⊢
      generalize e.ns.length = nn at *
      clear hp q1 hj
      go_enter Tryd.func84, Tryd.ntmps84
      go_wp2
      go_quiet (first | (go_at_call_of 80 (Value.pointer (some ⟨b, o, none⟩)); exact Calls.quiet_of_same (P _)) | (go_at_call_of 80 (Value.pointer (some ⟨b', o', none⟩)); exact Calls.quiet_of_same (P' _)))
      go_wp2
      go_ret
      exact ⟨rfl, _, rfl⟩
end
end Go.Proofs.YtbielnehggcaoaaDoor
/-
  Two snapshots held against each other, by contract. (By the verifier; no statement.)
-/
namespace Go.Proofs.YtbielnehggcaoaaDoor
open Go.RowKit
section
variable {w : World} {b o b' o' : Nat} {e e' : Ev}
theorem below_take {x y : List Int} {k : Nat} : ((List.range (k + 1)).any fun i => decide (x.getD i 0 < y.getD i 0)) = (((List.range k).any fun i => decide (x.getD i 0 < y.getD i 0)) || decide (x.getD k 0 < y.getD k 0)) := by
  rw [List.range_succ, List.any_append]
  simp
set_option maxHeartbeats 1600000 in
theorem cBelow (h : EvAt w b o e) (h' : EvAt w b' o' e') (hn : e'.ns.length = e.ns.length) (h64 : e.ns.length ≤ 64) : Calls Tryd.prog 93 #[.pointer (some ⟨b, o, none⟩), .pointer (some ⟨b', o', none⟩)] w fun r w' => r = .returned (.bool (belowB e.ns e'.ns)) ∧ w' = w := by
  obtain ⟨v, hv, hi⟩ := h.c11
  obtain ⟨v', hv', hi'⟩ := h'.c11
  have HI : Hid (IV w v e.ns) := hi
  have HI' : Hid (IV w v' e'.ns) := hi'
  have hl := h.lt
  have gl := h'.lt
  obtain ⟨a, c, rfl, -, -⟩ := hi.ex
  obtain ⟨a', c', rfl, -, -⟩ := hi'.ex
  clear h h' hi hi'
  unfold belowB
  rw [hn] at hv' HI'
  generalize e.ns = x at *
  generalize e'.ns = y at *
  obtain ⟨n, hln⟩ : ∃ n, n = x.length := ⟨_, rfl⟩
  have HC : Hid (∀ k, k < n → ∃ b2 o2 b3 o3, a = some ⟨b2, o2, none⟩ ∧ a' = some ⟨b3, o3, none⟩ ∧ b2 < w.heap.size ∧ b3 < w.heap.size ∧ w.cell? ⟨b2, o2 + k, none⟩ = some (.int .i64 (x.getD k 0)) ∧ w.cell? ⟨b3, o3 + k, none⟩ = some (.int .i64 (y.getD k 0))) := fun k hk => by
    rw [hln] at hk
    obtain ⟨b2, o2, c2, e2, hb2, hx⟩ := HI.out.get hk
    obtain ⟨b3, o3, c3, e3, hb3, hy⟩ := HI'.out.get (i := k) (by omega)
    simp only [Value.slice.injEq] at e2 e3
    exact ⟨b2, o2, b3, o3, e2.1, e3.1, hb2, hb3, hx, hy⟩
  have HS : Hid (∀ k, k < n → decide (x.getD k 0 < y.getD k 0) = true → ((List.range n).any fun i => decide (x.getD i 0 < y.getD i 0)) = true) := fun k hk hd => List.any_eq_true.2 ⟨k, List.mem_range.2 hk, hd⟩
  rw [← hln] at h64 hv hv' ⊢
  clear HI HI' hln hn
  go_enter Tryd.func93, Tryd.ntmps93
  go_wp2
  go_loopw [12, 5, 6] (fun i _ _ wx => ∃ k : Nat, k ≤ n ∧ i = .int .i64 k ∧ Hid (((List.range k).any fun i => decide (x.getD i 0 < y.getD i 0)) = false) ∧ SameW w wx) (fun i _ _ _ => n - (intOf i).toNat)
  case atStart => exact ⟨0, Nat.zero_le _, rfl, rfl, rfl⟩
  case round =>
    obtain ⟨k, hk, rfl, HA, HW⟩ := hrel
    have ew : w = wr := HW
    subst ew
    by_cases hlt : k < n
    · obtain ⟨b2, o2, b3, o3, rfl, rfl, hb2, hb3, hx, hy⟩ := HC.out k hlt
      have HB := @below_take x y k
      have HSk := HS.out k hlt
      have HB2 : Hid _ := HB
      have HS2 : Hid _ := HSk
      clear HB HSk HC HS
      cases d1 : decide (x.getD k 0 < y.getD k 0) with
      | true =>
        generalize x.getD k 0 = xk at *
        generalize y.getD k 0 = yk at *
        go_wp2
        go_ret
        exact ⟨by rw [HS2.out d1]; rfl, rfl⟩
      | false =>
        generalize x.getD k 0 = xk at *
        generalize y.getD k 0 = yk at *
        go_wp2
        go_roundw
        case rel => exact ⟨k + 1, by omega, by go_num, by rw [Hid, HB2.out, HA.out, d1]; rfl, rfl⟩
        case measure => simp [intOf]; omega
    · have en : k = n := by omega
      subst en
      go_wp2
      go_ret
      refine ⟨?_, rfl⟩
      rw [HA.out]
      rfl
set_option maxHeartbeats 1600000 in
theorem cApart (h : EvAt w b o e) (h' : EvAt w b' o' e') (hn : e.snap = true → e'.snap = true → e'.ns.length = e.ns.length ∧ e.ns.length ≤ 64) : Calls Tryd.prog 85 #[.pointer (some ⟨b, o, none⟩), .pointer (some ⟨b', o', none⟩)] w fun r w' => r = .returned (.bool (apartB e e')) ∧ ∃ n, w' = w.drewN n := by
  have P := cSnap h
  have P' := cSnap h'
  unfold apartB
  cases d1 : e.snap with
  | false =>
    rw [d1] at P
    rw [Bool.false_and, Bool.false_and]
    clear h h' hn P'
    go_enter Tryd.func85, Tryd.ntmps85
    go_wp2_with (go_at_call 80; refine P.mono ?_; rintro r x1 ⟨rfl, rfl⟩)
    go_ret
    exact ⟨rfl, 0, rfl⟩
  | true =>
    rw [d1] at P
    cases d2 : e'.snap with
    | false =>
      rw [d2] at P'
      rw [Bool.true_and, Bool.false_and]
      clear h h' hn
      go_enter Tryd.func85, Tryd.ntmps85
      go_wp2_with (first | (go_at_call_of 80 (Value.pointer (some ⟨b, o, none⟩)); refine P.mono ?_; rintro r x1 ⟨rfl, rfl⟩) | (go_at_call_of 80 (Value.pointer (some ⟨b', o', none⟩)); refine P'.mono ?_; rintro r x1 ⟨rfl, rfl⟩))
      go_ret
      exact ⟨rfl, 0, rfl⟩
    | true =>
      rw [d2] at P'
      rw [Bool.true_and, Bool.true_and]
      obtain ⟨q1, q2⟩ := hn d1 d2
      have B1 := cBelow h h' q1 q2
      have B2 := cBelow h' h q1.symm (by omega)
      have W1 := fun n => cWasA e'.e e.b (w.drewN n)
      have W2 := fun n => cWasA e.e e'.b (w.drewN n)
      have h1 := h.c1
      have h2 := h.c2
      have g1 := h'.c1
      have g2 := h'.c2
      have hl := h.lt
      have gl := h'.lt
      clear h h' hn q1 q2 d1 d2
      generalize belowB e.ns e'.ns = u at *
      generalize belowB e'.ns e.ns = v at *
      generalize hwa : wasA e'.e e.b = s at *
      generalize hwb : wasA e.e e'.b = t at *
      clear hwa hwb
      generalize e.b = eb at *
      generalize e.e = ee at *
      generalize e'.b = fb at *
      generalize e'.e = fe at *
      cases u with
      | false =>
        cases v with
        | false =>
          go_enter Tryd.func85, Tryd.ntmps85
          go_wp2_with (first | (go_at_call_of 80 (Value.pointer (some ⟨b, o, none⟩)); refine P.mono ?_; rintro r x1 ⟨rfl, rfl⟩) | (go_at_call_of 80 (Value.pointer (some ⟨b', o', none⟩)); refine P'.mono ?_; rintro r x1 ⟨rfl, rfl⟩) | (go_at_call_of 93 ([Value.pointer (some ⟨b, o, none⟩), Value.pointer (some ⟨b', o', none⟩)] : List Value); refine B1.mono ?_; rintro r x1 ⟨rfl, rfl⟩) | (go_at_call_of 93 ([Value.pointer (some ⟨b', o', none⟩), Value.pointer (some ⟨b, o, none⟩)] : List Value); refine B2.mono ?_; rintro r x1 ⟨rfl, rfl⟩))
          go_quiet (fail)
          go_wp2
          go_ret
          exact ⟨rfl, _, rfl⟩
        | true =>
          go_enter Tryd.func85, Tryd.ntmps85
          go_wp2_with (first | (go_at_call_of 80 (Value.pointer (some ⟨b, o, none⟩)); refine P.mono ?_; rintro r x1 ⟨rfl, rfl⟩) | (go_at_call_of 80 (Value.pointer (some ⟨b', o', none⟩)); refine P'.mono ?_; rintro r x1 ⟨rfl, rfl⟩) | (go_at_call_of 93 ([Value.pointer (some ⟨b, o, none⟩), Value.pointer (some ⟨b', o', none⟩)] : List Value); refine B1.mono ?_; rintro r x1 ⟨rfl, rfl⟩) | (go_at_call_of 93 ([Value.pointer (some ⟨b', o', none⟩), Value.pointer (some ⟨b, o, none⟩)] : List Value); refine B2.mono ?_; rintro r x1 ⟨rfl, rfl⟩))
          go_quiet ((go_at_call 46; exact Calls.quiet_of_same (W2 _)))
          go_wp2
          go_ret
          exact ⟨by cases t <;> rfl, _, rfl⟩
      | true =>
        cases v with
        | true =>
          go_enter Tryd.func85, Tryd.ntmps85
          go_wp2_with (first | (go_at_call_of 80 (Value.pointer (some ⟨b, o, none⟩)); refine P.mono ?_; rintro r x1 ⟨rfl, rfl⟩) | (go_at_call_of 80 (Value.pointer (some ⟨b', o', none⟩)); refine P'.mono ?_; rintro r x1 ⟨rfl, rfl⟩) | (go_at_call_of 93 ([Value.pointer (some ⟨b, o, none⟩), Value.pointer (some ⟨b', o', none⟩)] : List Value); refine B1.mono ?_; rintro r x1 ⟨rfl, rfl⟩) | (go_at_call_of 93 ([Value.pointer (some ⟨b', o', none⟩), Value.pointer (some ⟨b, o, none⟩)] : List Value); refine B2.mono ?_; rintro r x1 ⟨rfl, rfl⟩))
          go_quiet (fail)
          go_wp2
          go_ret
          exact ⟨rfl, _, rfl⟩
        | false =>
          cases s with
          | true =>
            go_enter Tryd.func85, Tryd.ntmps85
            go_wp2_with (first | (go_at_call_of 80 (Value.pointer (some ⟨b, o, none⟩)); refine P.mono ?_; rintro r x1 ⟨rfl, rfl⟩) | (go_at_call_of 80 (Value.pointer (some ⟨b', o', none⟩)); refine P'.mono ?_; rintro r x1 ⟨rfl, rfl⟩) | (go_at_call_of 93 ([Value.pointer (some ⟨b, o, none⟩), Value.pointer (some ⟨b', o', none⟩)] : List Value); refine B1.mono ?_; rintro r x1 ⟨rfl, rfl⟩) | (go_at_call_of 93 ([Value.pointer (some ⟨b', o', none⟩), Value.pointer (some ⟨b, o, none⟩)] : List Value); refine B2.mono ?_; rintro r x1 ⟨rfl, rfl⟩))
            go_quiet ((go_at_call 46; exact Calls.quiet_of_same (W1 _)))
            go_wp2
            go_ret
            exact ⟨rfl, _, rfl⟩
          | false =>
            go_enter Tryd.func85, Tryd.ntmps85
            go_wp2_with (first | (go_at_call_of 80 (Value.pointer (some ⟨b, o, none⟩)); refine P.mono ?_; rintro r x1 ⟨rfl, rfl⟩) | (go_at_call_of 80 (Value.pointer (some ⟨b', o', none⟩)); refine P'.mono ?_; rintro r x1 ⟨rfl, rfl⟩) | (go_at_call_of 93 ([Value.pointer (some ⟨b, o, none⟩), Value.pointer (some ⟨b', o', none⟩)] : List Value); refine B1.mono ?_; rintro r x1 ⟨rfl, rfl⟩) | (go_at_call_of 93 ([Value.pointer (some ⟨b', o', none⟩), Value.pointer (some ⟨b, o, none⟩)] : List Value); refine B2.mono ?_; rintro r x1 ⟨rfl, rfl⟩))
            go_quiet ((go_at_call 46; exact Calls.quiet_of_same (W1 _)))
            go_wp2
            go_ret
            exact ⟨rfl, _, rfl⟩
end
end Go.Proofs.YtbielnehggcaoaaDoor
/-
  A history that is judged, in memory; a blame. (By the verifier; no statement.)
-/
namespace Go.Proofs.YtbielnehggcaoaaDoor
open Go.RowKit
theorem tyne {w : World} {a b : Nat} {x y : Array Value} {S T : TypeId} (ha : w.heap[a]? = some (.cells x S (0, 0))) (hb : w.heap[b]? = some (.cells y T (0, 0))) (h : S ≠ T) : a ≠ b := fun e => by
  subst e
  rw [ha] at hb
  simp only [Option.some.injEq, Obj.cells.injEq] at hb
  exact h hb.2.1
theorem mapne {w : World} {a b : Nat} {x : Array Value} {S : TypeId} {es : Array MapEntry} {c : Nat} (ha : w.heap[a]? = some (.cells x S (0, 0))) (hb : w.heap[b]? = some (.map es c)) : a ≠ b := fun e => by
  subst e
  rw [ha] at hb
  cases hb
/-- A blame as cells. -/
def rowB (c : Bm) : List Value := [.int .i64 c.1, .int .i64 c.2.1, .int .i64 c.2.2]
theorem rowsB_len (R : List Bm) : (R.flatMap rowB).length = R.length * 3 := by
  induction R with
  | nil => rfl
  | cons x l ih => rw [List.flatMap_cons, List.length_append, ih, List.length_cons]; simp only [rowB, List.length_cons, List.length_nil]; omega
/-- The slice v is the blames R, in memory of its own from B on. -/
structure BR (B : Nat) (w : World) (v : Value) (R : List Bm) : Prop where
  own : w.ownsRow B 55 3 v R.length (R.flatMap rowB)
section
variable {B : Nat} {w w' : World} {v : Value} {R : List Bm}
theorem BR.nil (B : Nat) (w : World) : BR B w (.slice none 0 0) [] := ⟨World.ownsRow_nil _ _ _ _⟩
theorem BR.keep {F : List Nat} (h : BR B w v R) (ht : Turned F w w') (hF : ∀ g, v.ownBlock = some g → g ∉ F) : BR B w' v R := by
  refine ⟨h.own.1, ?_⟩
  rcases h.own.2 with h0 | ⟨g, c, cs, rfl, hb, hg, h3⟩
  · exact .inl h0
  · exact .inr ⟨g, c, cs, rfl, hb, ht.heap hg (hF g rfl), h3⟩
theorem BR.still (h : BR B w v R) (ht : Turned [] w w') : BR B w' v R := h.keep ht (by simp)
theorem BR.fresh (h : BR B w v R) {g : Nat} (hg : v.ownBlock = some g) : B ≤ g ∧ g < w.heap.size := h.own.lt g hg
theorem BR.type (h : BR B w v R) {g : Nat} (hg : v.ownBlock = some g) : ∃ cs, w.heap[g]? = some (.cells cs 55 (0, 0)) := by
  rcases h.own.2 with ⟨rfl, h0⟩ | ⟨g', c, cs, rfl, hb, hg', h3⟩
  · cases hg
  · cases hg; exact ⟨cs, hg'⟩
theorem BR.form (h : BR B w v R) : (v = .slice none 0 0 ∧ R = []) ∨ ∃ g c, v = .slice (some ⟨g, 0, none⟩) R.length c := by
  rcases h.own.2 with ⟨rfl, h0⟩ | ⟨g, c, cs, rfl, _⟩
  · exact .inl ⟨rfl, List.length_eq_zero_iff.1 h0⟩
  · exact .inr ⟨g, c, rfl⟩
theorem BR.somes {x : Bm} (h : BR B w v (R ++ [x])) : ∃ g c, v = .slice (some ⟨g, 0, none⟩) (R.length + 1) c := by
  rcases h.own.2 with ⟨_, e⟩ | ⟨g, c, cs, rfl, _⟩
  · simp at e
  · exact ⟨g, c, by simp⟩
end
theorem infoBm : (Tryd.prog.info? 55).map (fun i => (i.zero, i.size, i.bytes)) = some (some (.agg #[.int .i64 0, .int .i64 0, .int .i64 0]), 3, 24) := by kernel_rfl
theorem undBms : Tryd.prog.underlying 44 = some (.slice 55) := by kernel_rfl
/-- 'append(list, c)'. -/
theorem wpList_apBm {w : World} {ops : Array Oper} {rest : List Oper} {o : Oper} {a : Act} {Q : Exit → Act → World → Prop} {B : Nat} {v : Value} {r : Bm} {R : List Bm} {g : Nat} (hgd : o.guard = none) (p q : Operand) (ho : o.op = .call { callee := .builtin .append, args := #[p, q], argTypes := #[44, 44] })
    (hs : a.eval p = v) (hR : BR B w v R) (hy : a.eval q = .slice (some ⟨g, 0, none⟩) 1 1) (hg : w.heap[g]? = some (.cells #[.int .i64 r.1, .int .i64 r.2.1, .int .i64 r.2.2] 55 (0, 0))) (hm : R.length ≤ 1000000000) (hB : B ≤ w.heap.size)
    (h : ∀ v' w', BR B w' v' (R ++ [r]) → Turned v.ownBlock.toList w w' → (v'.ownBlock = v.ownBlock ∨ v'.ownBlock = some w.heap.size) → wpList Tryd.prog ops Q rest (a.put o.dst v') w') : wpList Tryd.prog ops Q (o :: rest) a w := by
  obtain ⟨i, hi, hzz⟩ := Option.map_eq_some_iff.1 infoBm
  simp only [Prod.mk.injEq] at hzz
  obtain ⟨hz, hs1, hb⟩ := hzz
  refine wpList_plain hgd fun K hK => ?_
  obtain ⟨v', w', hrun, h2, h3, h4, h5⟩ := run_append_own_at (P := Tryd.prog) w B 44 o.type 55 i _ 3 24 undBms hi hz hs1 hb rfl (by decide) v R.length (R.flatMap rowB) hR.own ⟨g, 0, none⟩ 1 1 (rowB r) rfl (fun j u hj => by
    have hadd : (⟨g, 0, none⟩ : Addr).add j = ⟨g, j, none⟩ := by unfold Addr.add; split <;> simp_all
    rw [hadd, cell_at hg j]
    simpa [rowB] using hj) (fun u hu => by
      simp only [rowB, List.mem_cons, List.not_mem_nil, or_false] at hu
      rcases hu with rfl | rfl | rfl <;> rfl) (by unfold maxLen; omega) (by omega) hB
  unfold Oper.wp execOp
  simp only [ho, resolve, invoke, builtin, Sem.run_bind, Sem.run_pure, Result.andThen_ok, List.map_toArray, List.map_cons, List.map_nil, hs, hy, hrun]
  exact hK _ _ (h v' w' ⟨by rw [show (R ++ [r]).length = R.length + 1 by simp, show (R ++ [r]).flatMap rowB = R.flatMap rowB ++ rowB r by simp]; exact h2⟩ ⟨h3.os, h3.tape, h3.output, h3.size, fun k hk hn => h3.block k hk fun e => hn (by rw [← e]; simp)⟩ h5)
/-- The court's own state. -/
structure Ct where
  ended : List Nat
  busy : Int → Bool
  pubs : Int × Int → Option (Int × Int)
  last : Int → Int
  bl : List Bm
abbrev ints (l : List Nat) : List Int := l.map fun i : Nat => (i : Int)
/-- The court in memory: all that is its own lies from w0's end on. -/
structure CT (w0 : World) (cb kb : Nat) (sv ev ve : Value) (s : Ct) (x : World) : Prop where
  below : Below w0.heap.size w0 x
  base : w0.heap.size ≤ cb ∧ w0.heap.size ≤ kb
  map : GM ek2 ek2 x kb s.pubs
  ex : ∃ cs vb, x.heap[cb]? = some (.cells cs 127 (0, 0)) ∧ cs.size = 133 ∧ cs[0]? = some sv ∧ cs[1]? = some ev ∧ cs[2]? = some ve ∧ (∀ p : Nat, p < 64 → cs[3 + p]? = some (.bool (s.busy p))) ∧ cs[67]? = some (.map (some kb)) ∧ (∀ p : Nat, p < 64 → cs[68 + p]? = some (.int .i64 (s.last p))) ∧ cs[132]? = some vb ∧ IR w0.heap.size x ve (ints s.ended) ∧ BR w0.heap.size x vb s.bl
/-- Other maps stay. -/
structure MapsKept (kb : Nat) (x x' : World) : Prop where
  size : x.heap.size ≤ x'.heap.size
  kept : ∀ b es c, b ≠ kb → x.heap[b]? = some (.map es c) → x'.heap[b]? = some (.map es c)
theorem MapsKept.refl (kb : Nat) (x : World) : MapsKept kb x x := ⟨Nat.le_refl _, fun _ _ _ _ h => h⟩
theorem MapsKept.trans {kb : Nat} {x y z : World} (h : MapsKept kb x y) (k : MapsKept kb y z) : MapsKept kb x z := ⟨Nat.le_trans h.1 k.1, fun b es c hb hx => k.2 b es c hb (h.2 b es c hb hx)⟩
theorem MapsKept.gm {kb : Nat} {x y : World} (h : MapsKept kb x y) {κ ν : Type} [DecidableEq κ] {ek : κ → Value} {ev : ν → Value} {b : Nat} {f : κ → Option ν} (hb : b ≠ kb) (g : GM ek ev x b f) : GM ek ev y b f := by
  obtain ⟨es, c, ps, h1, h2⟩ := g.ex
  exact ⟨es, c, ps, h.2 b es c hb h1, h2⟩
theorem MapsKept.of {kb : Nat} {x y : World} {l : List Nat} (h : Turned l x y) (hl : ∀ b ∈ l, ∀ es c, x.heap[b]? ≠ some (.map es c) ∨ b = kb) : MapsKept kb x y := ⟨h.size, fun b es c hb hx => h.heap hx fun hm => by
  rcases hl b hm es c with h1 | h1
  · exact h1 hx
  · exact hb h1⟩
section
variable {w0 : World} {cb kb : Nat} {sv ev ve : Value} {s : Ct} {x : World}
theorem CT.drewN (h : CT w0 cb kb sv ev ve s x) (n : Nat) : CT w0 cb kb sv ev ve s (x.drewN n) := by
  obtain ⟨cs, vb, a1, a2, a3, a4, a5, a6, a7, a8, a9, a10, a11⟩ := h.ex
  have ht : Turned [] x (x.drewN n) := (Turned.refl [] x).drewN n
  exact ⟨belowDrew h.below n, h.base, h.map.keep ht (by simp), cs, vb, a1, a2, a3, a4, a5, a6, a7, a8, a9, a10.still ht, a11.still ht⟩
/-- Blocks are made, or draws. -/
theorem CT.still (h : CT w0 cb kb sv ev ve s x) {y : World} (ht : Turned [] x y) : CT w0 cb kb sv ev ve s y := by
  obtain ⟨cs, vb, a1, a2, a3, a4, a5, a6, a7, a8, a9, a10, a11⟩ := h.ex
  exact ⟨ht.below h.below (by simp) h.below.size, h.base, h.map.keep ht (by simp), cs, vb, ht.heap a1 (by simp), a2, a3, a4, a5, a6, a7, a8, a9, a10.still ht, a11.still ht⟩
set_option maxHeartbeats 1600000 in
theorem cBlame (h : CT w0 cb kb sv ev ve s x) (hl : s.bl.length ≤ 1000000000) (a b c : Int) : Calls Tryd.prog 74 #[.pointer (some ⟨cb, 0, none⟩), .int .i64 a, .int .i64 b, .int .i64 c] x fun r x' => r = .returned (.tuple #[]) ∧ CT w0 cb kb sv ev ve { s with bl := s.bl ++ [(a, b, c)] } x' ∧ MapsKept kb x x' := by
  obtain ⟨cs, vb, a1, a2, a3, a4, a5, a6, a7, a8, a9, a10, a11⟩ := h.ex
  have HC : Hid (CT w0 cb kb sv ev ve s x) := h
  have HX : Hid (x.heap[cb]? = some (.cells cs 127 (0, 0)) ∧ cs.size = 133 ∧ cs[0]? = some sv ∧ cs[1]? = some ev ∧ cs[2]? = some ve ∧ (∀ p : Nat, p < 64 → cs[3 + p]? = some (.bool (s.busy p))) ∧ cs[67]? = some (.map (some kb)) ∧ (∀ p : Nat, p < 64 → cs[68 + p]? = some (.int .i64 (s.last p)))) := ⟨a1, a2, a3, a4, a5, a6, a7, a8⟩
  have HI : Hid (IR w0.heap.size x ve (ints s.ended)) := a10
  have HR : Hid (BR w0.heap.size x vb s.bl) := a11
  have HL : Hid (s.bl.length ≤ 1000000000) := hl
  have HB : Hid (w0.heap.size ≤ x.heap.size) := h.below.size
  have c132 : x.cell? ⟨cb, 132, none⟩ = some vb := by rw [cell_at a1]; exact a9
  have hlt : cb < x.heap.size := lt_of_heap a1
  have HG : Hid (∀ g, vb.ownBlock = some g → g ≠ cb ∧ g ≠ kb ∧ (∀ es c, x.heap[g]? ≠ some (.map es c)) ∧ ∀ g', ve.ownBlock = some g' → g' ≠ g) := fun g hg => by
    obtain ⟨cs', hh⟩ := a11.type hg
    obtain ⟨es, cl, ps, hm, _⟩ := h.map.ex
    exact ⟨tyne hh a1 (by decide), mapne hh hm, fun es c e => (mapne hh e) rfl, fun g' hg' => by
      obtain ⟨cs2, h2⟩ := a10.type hg'
      exact tyne h2 hh (by decide)⟩
  have e1 : ∃ q : Option Addr, ∃ n k, vb = .slice q n k := by
    rcases a11.form with ⟨e, _⟩ | ⟨g, k, e⟩
    · exact ⟨_, _, _, e⟩
    · exact ⟨_, _, _, e⟩
  obtain ⟨q, n, k, rfl⟩ := e1
  clear h a1 a2 a3 a4 a5 a6 a7 a8 a9 a10 a11 hl
  go_enter Tryd.func74, Tryd.ntmps74
  go_wp2_with (at_builtin; refine wpList_apBm (B := w0.heap.size) (v := .slice q n k) (R := s.bl) (r := (a, b, c)) (g := x.heap.size) rfl _ _ rfl rfl (HR.out.still ((Turned.refl [] _).alloc _)) rfl (blk_new _ _) HL.out (by have := HB.out; simp; omega) ?_; intro v1 w1 hr1 ht1 ho1; obtain ⟨g1, c1, hv1⟩ := hr1.somes; subst hv1; have HR1 : Hid _ := hr1; have HT1 : Hid (Turned (Value.slice q n k).ownBlock.toList x w1) := ((Turned.refl _ _).alloc _).trans ht1; have HO1 : Hid _ := ho1; clear hr1 ht1 ho1; have k132 := HT1.out.cell c132 (by intro hm; simp only [Option.mem_toList] at hm; exact (HG.out _ hm).1 rfl); have y132 := froz_at (HT1.out.heap HX.out.1 (by intro hm; simp only [Option.mem_toList] at hm; exact (HG.out _ hm).1 rfl)) 132; have m1 := Nat.lt_of_lt_of_le hlt HT1.out.size; clear c132)
  go_end0
  have hh1 := HT1.out.heap HX.out.1 (by intro hm; simp only [Option.mem_toList] at hm; exact (HG.out _ hm).1 rfl)
  obtain ⟨-, b2, b3, b4, b5, b6, b7, b8⟩ := HX.out
  have hne1 : g1 ≠ cb := by
    obtain ⟨cs', hg1⟩ := HR1.out.type (g := g1) rfl
    exact tyne hg1 hh1 (by decide)
  have hset : Turned [cb] w1 (w1.setCell ⟨cb, 132, none⟩ (.slice (some ⟨g1, 0, none⟩) (s.bl.length + 1) c1)) := (Turned.refl [cb] w1).set (by simp) _ _
  have hT : Turned (cb :: (Value.slice q n k).ownBlock.toList) x (w1.setCell ⟨cb, 132, none⟩ (.slice (some ⟨g1, 0, none⟩) (s.bl.length + 1) c1)) := (HT1.out.mono (by simp; exact fun a ha => .inr ha)).trans (hset.mono (by simp))
  have hcb := HC.out.base
  have hnk : kb ∉ cb :: (Value.slice q n k).ownBlock.toList := by
    intro hm
    rcases List.mem_cons.1 hm with e | hm
    · obtain ⟨es, cl, ps, hm, _⟩ := HC.out.map.ex
      exact mapne HX.out.1 hm e.symm
    · simp only [Option.mem_toList] at hm
      exact (HG.out _ hm).2.1 rfl
  refine ⟨rfl, ⟨?_, hcb, HC.out.map.keep hT hnk, _, .slice (some ⟨g1, 0, none⟩) (s.bl.length + 1) c1, blk_set hh1 132 _, by simp [b2], ?_, ?_, ?_, ?_, ?_, ?_, ?_, ?_, ?_⟩, ?_⟩
  · refine hT.below HC.out.below (fun y hy => ?_) HB.out
    rcases List.mem_cons.1 hy with rfl | hy
    · exact hcb.1
    · simp only [Option.mem_toList] at hy
      exact (HR.out.fresh hy).1
  · rw [Array.getElem?_setIfInBounds_ne (by omega)]; exact b3
  · rw [Array.getElem?_setIfInBounds_ne (by omega)]; exact b4
  · rw [Array.getElem?_setIfInBounds_ne (by omega)]; exact b5
  · intro p hp
    rw [Array.getElem?_setIfInBounds_ne (by omega)]; exact b6 p hp
  · rw [Array.getElem?_setIfInBounds_ne (by omega)]; exact b7
  · intro p hp
    rw [Array.getElem?_setIfInBounds_ne (by omega)]; exact b8 p hp
  · rw [Array.getElem?_setIfInBounds_self_of_lt (by omega)]
  · refine HI.out.keep hT fun g hg hm => ?_
    rcases List.mem_cons.1 hm with e | hm
    · obtain ⟨cs2, h2⟩ := HI.out.type hg
      exact tyne h2 HX.out.1 (by decide) e
    · simp only [Option.mem_toList] at hm
      exact (HG.out _ hm).2.2.2 g hg rfl
  · have h9 := HR1.out.keep hset (fun g hg => by
      simp only [Value.ownBlock, Option.some.injEq] at hg
      subst hg
      simpa using hne1)
    simpa using h9
  · refine MapsKept.of hT fun y hy es cc => ?_
    rcases List.mem_cons.1 hy with rfl | hy
    · exact .inl fun e => mapne HX.out.1 e rfl
    · simp only [Option.mem_toList] at hy
      exact .inl ((HG.out _ hy).2.2.1 es cc)
end
end Go.Proofs.YtbielnehggcaoaaDoor
/-
  Who published a version, noted; by contract. (By the verifier; no statement.)
-/
namespace Go.Proofs.YtbielnehggcaoaaDoor
open Go.RowKit
/-- A history's events in memory. -/
structure EsAt (w : World) (ev : Value) (D : List Ev) : Prop where
  len : D.length ≤ 100000
  ex : ∃ a c, ev = .slice a D.length c ∧ ∀ (i : Nat) (e : Ev), D[i]? = some e → ∃ b o : Nat, a = some ⟨b, o, none⟩ ∧ EvAt w b (o + i * 13) e
theorem EsAt.get {w : World} {ev : Value} {D : List Ev} (h : EsAt w ev D) {i : Nat} (hi : i < D.length) : ∃ b o c, ev = .slice (some ⟨b, o, none⟩) D.length c ∧ EvAt w b (o + i * 13) (eAt D i) := by
  obtain ⟨a, c, rfl, he⟩ := h.ex
  obtain ⟨b, o, rfl, h1⟩ := he i D[i] (List.getElem?_eq_getElem hi)
  exact ⟨b, o, c, rfl, by rw [eAt_of (List.getElem?_eq_getElem hi)]; exact h1⟩
section
variable {w0 : World} {cb kb : Nat} {sv ev ve : Value} {s : Ct} {x : World}
/-- A map of the court's turns. -/
theorem CT.pubs' (h : CT w0 cb kb sv ev ve s x) {y : World} (ht : Turned [kb] x y) {f : Int × Int → Option (Int × Int)} (hf : GM ek2 ek2 y kb f) : CT w0 cb kb sv ev ve { s with pubs := f } y := by
  obtain ⟨cs, vb, a1, a2, a3, a4, a5, a6, a7, a8, a9, a10, a11⟩ := h.ex
  obtain ⟨es, cl, ps, hm, _⟩ := h.map.ex
  have hne : cb ≠ kb := mapne a1 hm
  refine ⟨ht.below h.below (by simp; exact h.base.2) h.below.size, h.base, hf, cs, vb, ht.heap a1 (by simpa using hne), a2, a3, a4, a5, a6, a7, a8, a9, a10.keep ht fun g hg => ?_, a11.keep ht fun g hg => ?_⟩
  · obtain ⟨c2, h2⟩ := a10.type hg
    simpa using mapne h2 hm
  · obtain ⟨c2, h2⟩ := a11.type hg
    simpa using mapne h2 hm
theorem und_by : Tryd.prog.underlying 123 = some (.map 143 142) := by kernel_rfl
theorem zero_pub (w : World) : (zeroValue 142).run Tryd.prog w = .ok (.agg #[.int .i64 0, .int .i64 0]) w := by go_simp
def pubV (f : Int × Int → Option (Int × Int)) (k : Int × Int) : Int × Int := (f k).getD (0, 0)
theorem look_by {w : World} {f : Int × Int → Option (Int × Int)} (h : GM ek2 ek2 w kb f) (p u : Int) : (Instr.lookup 123 (.map (some kb)) (.agg #[.int .i64 p, .int .i64 u]) false).run Tryd.prog w = .ok (.agg #[.int .i64 (pubV f (p, u)).1, .int .i64 (pubV f (p, u)).2]) w := by
  have := h.look1 key2 und_by (zero_pub w) (p, u)
  simp only [ek2] at this
  rw [this]
  unfold pubV
  cases f (p, u) <;> rfl
set_option maxRecDepth 100000 in
set_option maxHeartbeats 1600000 in
theorem cPublish {eb eo n ec : Nat} (h : CT w0 cb kb sv (.slice (some ⟨eb, eo, none⟩) n ec) ve s x) {i : Nat} {e : Ev} (hi : i < n) (he : EvAt x eb (eo + i * 13) e) (hp : 0 ≤ (pubV s.pubs (e.p, e.num)).1 ∧ (pubV s.pubs (e.p, e.num)).1 ≤ 1000000) : Calls Tryd.prog 75 #[.pointer (some ⟨cb, 0, none⟩), .int .i64 i] x fun r x' => r = .returned (.tuple #[]) ∧ CT w0 cb kb sv (.slice (some ⟨eb, eo, none⟩) n ec) ve { s with pubs := if e.pub then (fun k => if k = (e.p, e.num) then some ((pubV s.pubs (e.p, e.num)).1 + 1, (i : Int)) else s.pubs k) else s.pubs } x' ∧ Turned [kb] x x' := by
  obtain ⟨cs, vb, a1, a2, a3, a4, a5, a6, a7, a8, a9, a10, a11⟩ := h.ex
  have HC : Hid (CT w0 cb kb sv (.slice (some ⟨eb, eo, none⟩) n ec) ve s x) := h
  have c1 : x.cell? ⟨cb, 1, none⟩ = some (.slice (some ⟨eb, eo, none⟩) n ec) := by rw [cell_at a1]; exact a4
  have c67 : x.cell? ⟨cb, 67, none⟩ = some (.map (some kb)) := by rw [cell_at a1]; exact a7
  have hlt : cb < x.heap.size := lt_of_heap a1
  have hlk : kb < x.heap.size := h.map.lt
  have P := cPubs he
  have e4 := he.c4
  have e6 := he.c6
  have elt := he.lt
  clear a1 a2 a3 a4 a5 a6 a7 a8 a9 a10 a11 h he
  cases d1 : e.pub with
  | false =>
    rw [d1] at P
    go_enter Tryd.func75, Tryd.ntmps75
    go_wp2_with (go_at_call 76; refine P.mono ?_; rintro r x1 ⟨rfl, rfl⟩)
    go_end0
    exact ⟨rfl, HC.out, Turned.refl _ _⟩
  | true =>
    rw [d1] at P
    have HP : Hid (0 ≤ (pubV s.pubs (e.p, e.num)).1 ∧ (pubV s.pubs (e.p, e.num)).1 ≤ 1000000) := hp
    clear hp
    go_enter Tryd.func75, Tryd.ntmps75
    go_wp2_with (go_at_call 76; refine P.mono ?_; rintro r x1 ⟨rfl, rfl⟩)
    go_region
    obtain ⟨y, hy⟩ : ∃ y, y = (x1.alloc (.cells #[.int .i64 e.p, .int .i64 e.num] 143 (0, 0))).drew := ⟨_, rfl⟩
    have hT0 : Turned [] x1 y := by rw [hy]; exact ((Turned.refl [] x1).alloc _).drew
    have hb0 : y.heap[x1.heap.size]? = some (.cells #[.int .i64 e.p, .int .i64 e.num] 143 (0, 0)) := by rw [hy]; exact blk_new x1 _
    rw [← hy]
    clear hy
    have HM : GM ek2 ek2 y kb s.pubs := HC.out.map.keep hT0 (by simp)
    have k67 := hT0.cell c67 (by simp)
    have klt : cb < y.heap.size := Nat.lt_of_lt_of_le hlt hT0.size
    generalize x1.heap.size = nb at hb0 ⊢
    have kv0 : y.cell? ⟨nb, 0, none⟩ = some (.int .i64 e.p) := by rw [cell_at hb0]; rfl
    have kv1 : y.cell? ⟨nb, 1, none⟩ = some (.int .i64 e.num) := by rw [cell_at hb0]; rfl
    have nlt : nb < y.heap.size := lt_of_heap hb0
    have HMd : GM ek2 ek2 y.drew kb s.pubs := HM.keep (Turned.refl [] y).drew (by simp)
    have hlook := look_by HMd e.p e.num
    obtain ⟨y', hput, hTp, hGM⟩ := HMd.put key2 und_by (e.p, e.num) ((pubV s.pubs (e.p, e.num)).1 + 1, (i : Int))
    have HT : Hid (Turned [] x1 y) := hT0
    have HTp : Hid (Turned [kb] y.drew y') := hTp
    have HGM : Hid (GM ek2 ek2 y' kb (fun k => if k = (e.p, e.num) then some ((pubV s.pubs (e.p, e.num)).1 + 1, (i : Int)) else s.pubs k)) := hGM
    simp only [ek2] at hput
    have hw : wrap64 ((pubV s.pubs (e.p, e.num)).1 + 1) = (pubV s.pubs (e.p, e.num)).1 + 1 := by
      have := HP.out
      unfold wrap64
      omega
    clear HM HMd hT0 hTp hGM hb0 c67 c1 hlt hlk e4 e6 elt P
    have hfld : ∀ (a b : Int) (w : World), (Instr.field 142 (.agg #[.int .i64 a, .int .i64 b]) 0).run Tryd.prog w = .ok (.int .i64 a) w := fun a b w => by kernel_rfl
    go_wp2
    go_region
    go_wp2
    go_end0
    refine ⟨rfl, ?_, ?_⟩
    · exact (HC.out.still HT.out).pubs' (((Turned.refl [kb] _).drew).trans HTp.out) HGM.out
    · exact (HT.out.mono (by simp)).trans (((Turned.refl [kb] _).drew).trans HTp.out)
end
end Go.Proofs.YtbielnehggcaoaaDoor
