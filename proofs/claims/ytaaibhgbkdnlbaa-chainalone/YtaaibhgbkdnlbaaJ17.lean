/- Package clock, alone: a clock in memory; has, Now, claim by contract. -/
import Derived.Test.YtaaibhgbkdnlbaaJ16
import Derived.WalkMore
import Derived.Deep.RegionWith
namespace Go.Proofs.Ytaaibhgbkdnlbaa
open Go.RowKit

abbrev clockObj (now : Int) (v : Value) : Obj := .cells #[.int .i64 now, v] 83 (0, 0)
abbrev leaseObj (x : Int) : Obj := .cells #[.int .i64 x] 70 (0, 0)
/-- A clock of n leases: now, and for each lease its own block. -/
structure ClockAt (w : World) (b lb n cap : Nat) (E : Nat → Nat) (now : Int) (f : Nat → Int) : Prop where
  obj : w.heap[b]? = some (clockObj now (.slice (some ⟨lb, 0, none⟩) n cap))
  row : ∃ cur : Array Value, w.heap[lb]? = some (.cells cur 85 (0, 0)) ∧ ∀ k, k < n → cur[k]? = some (.pointer (some ⟨E k, 0, none⟩))
  lease : ∀ k, k < n → w.heap[E k]? = some (leaseObj (f k))
  inj : ∀ j k, j < n → k < n → E j = E k → j = k
section
variable {w w' : World} {b lb n cap : Nat} {E : Nat → Nat} {now : Int} {f : Nat → Int}
theorem ClockAt.keep (h : ClockAt w b lb n cap E now f) {l : List Nat} (ht : Turned l w w') (h1 : b ∉ l) (h2 : lb ∉ l) (h3 : ∀ k, k < n → E k ∉ l) : ClockAt w' b lb n cap E now f := by
  obtain ⟨cur, hc, hk⟩ := h.row
  exact ⟨ht.heap h.obj h1, ⟨cur, ht.heap hc h2, hk⟩, fun k hk => ht.heap (h.lease k hk) (h3 k hk), h.inj⟩
theorem ClockAt.still (h : ClockAt w b lb n cap E now f) (ht : Turned [] w w') : ClockAt w' b lb n cap E now f := h.keep ht (by simp) (by simp) (by simp)
theorem ClockAt.cellNow (h : ClockAt w b lb n cap E now f) : w.cell? ⟨b, 0, none⟩ = some (.int .i64 now) := by rw [cell_at h.obj]; rfl
theorem ClockAt.cellRow (h : ClockAt w b lb n cap E now f) : w.cell? ⟨b, 1, none⟩ = some (.slice (some ⟨lb, 0, none⟩) n cap) := by rw [cell_at h.obj]; rfl
theorem ClockAt.cellAt (h : ClockAt w b lb n cap E now f) {k : Nat} (hk : k < n) : w.cell? ⟨lb, k, none⟩ = some (.pointer (some ⟨E k, 0, none⟩)) := by
  obtain ⟨cur, hc, hr⟩ := h.row
  rw [cell_at hc]; exact hr k hk
theorem ClockAt.cellLease (h : ClockAt w b lb n cap E now f) {k : Nat} (hk : k < n) : w.cell? ⟨E k, 0, none⟩ = some (.int .i64 (f k)) := by rw [cell_at (h.lease k hk)]; rfl
theorem ClockAt.frozNow (h : ClockAt w b lb n cap E now f) : w.frozen? ⟨b, 0, none⟩ = false := froz_at h.obj _
theorem ClockAt.frozLease (h : ClockAt w b lb n cap E now f) {k : Nat} (hk : k < n) : w.frozen? ⟨E k, 0, none⟩ = false := froz_at (h.lease k hk) _
theorem ClockAt.ne_b (h : ClockAt w b lb n cap E now f) {k : Nat} (hk : k < n) : E k ≠ b := other_type (h.lease k hk) h.obj (by decide)
theorem ClockAt.ne_lb (h : ClockAt w b lb n cap E now f) {k : Nat} (hk : k < n) : E k ≠ lb := by
  obtain ⟨cur, hc, _⟩ := h.row
  exact other_type (h.lease k hk) hc (by decide)
theorem ClockAt.b_ne (h : ClockAt w b lb n cap E now f) : b ≠ lb := by
  obtain ⟨cur, hc, _⟩ := h.row
  exact other_type h.obj hc (by decide)
/-- A lease is stored. -/
theorem ClockAt.put (h : ClockAt w b lb n cap E now f) {k : Nat} (hk : k < n) (v : Int) : ClockAt (w.setCell ⟨E k, 0, none⟩ (.int .i64 v)) b lb n cap E now (upd f k v) := by
  obtain ⟨cur, hc, hr⟩ := h.row
  refine ⟨(blk_other (fun e => h.ne_b hk e.symm) _ _).trans h.obj, ⟨cur, (blk_other (fun e => h.ne_lb hk e.symm) _ _).trans hc, hr⟩, fun j hj => ?_, h.inj⟩
  by_cases e : j = k
  · subst e; rw [upd_same]; exact (blk_set (h.lease j hj) 0 _)
  · rw [upd_other _ _ e]; exact (blk_other (fun x => e (h.inj j k hj hk x)) _ _).trans (h.lease j hj)
/-- now is stored. -/
theorem ClockAt.putNow (h : ClockAt w b lb n cap E now f) (v : Int) : ClockAt (w.setCell ⟨b, 0, none⟩ (.int .i64 v)) b lb n cap E v f := by
  obtain ⟨cur, hc, hr⟩ := h.row
  exact ⟨blk_set h.obj 0 _, ⟨cur, (blk_other (fun e => h.b_ne e.symm) _ _).trans hc, hr⟩, fun j hj => (blk_other (h.ne_b hj) _ _).trans (h.lease j hj), h.inj⟩
end
def hasB (n : Nat) (i : Int) : Bool := decide (0 ≤ i) && decide (i < n)
theorem has_yes {n : Nat} {i : Int} (h : 0 ≤ i) (h2 : i < n) : hasB n i = true := by unfold hasB; simp [h, h2]
theorem has_no {n : Nat} {i : Int} (h : i < 0 ∨ n ≤ i) : hasB n i = false := by unfold hasB; simp; omega
theorem cCHas {w : World} {b lb n cap : Nat} {now : Int} (hb : w.heap[b]? = some (clockObj now (.slice (some ⟨lb, 0, none⟩) n cap))) (i : Int) :
    Calls Try.prog 38 #[.pointer (some ⟨b, 0, none⟩), .int .i64 i] w fun e w' => e = .returned (.bool (hasB n i)) ∧ w' = w := by
  have c1 := cell_at hb 1
  simp at c1
  rcases (by omega : i < 0 ∨ (0 ≤ i ∧ i < n) ∨ (0 ≤ i ∧ (n : Int) ≤ i)) with h | ⟨h, h2⟩ | ⟨h, h2⟩
  · rw [has_no (.inl h)]
    have d1 : decide (0 ≤ i) = false := decide_eq_false (by omega)
    go_enter Try.func38, Try.ntmps38
    go_wp2
    go_ret
    exact ⟨rfl, rfl⟩
  · rw [has_yes h h2]
    go_enter Try.func38, Try.ntmps38
    go_wp2
    go_ret
    exact ⟨rfl, rfl⟩
  · rw [has_no (.inr h2)]
    have d2 : decide (i < (n : Int)) = false := decide_eq_false (by omega)
    go_enter Try.func38, Try.ntmps38
    go_wp2
    go_ret
    exact ⟨rfl, rfl⟩
theorem cNow {w : World} {b : Nat} {now : Int} {v : Value} (hb : w.heap[b]? = some (clockObj now v)) :
    Calls Try.prog 39 #[.pointer (some ⟨b, 0, none⟩), .pointer none] w fun e w' => e = .returned (.int .i64 now) ∧ w' = w := by
  have c0 := cell_at hb 0
  simp at c0
  go_enter Try.func39, Try.ntmps39
  go_wp2_with (first
    | (go_at_call 26; refine (cStep _).mono ?_; rintro e w' ⟨rfl, rfl⟩)
    | (go_at_call 27; refine (cALoad c0).mono ?_; rintro e w' ⟨rfl, rfl⟩))
  go_ret
  exact ⟨rfl, rfl⟩
section
variable {w : World} {b lb n cap : Nat} {E : Nat → Nat} {now : Int} {f : Nat → Int}
set_option maxHeartbeats 800000 in
theorem cClaimAt (H : ClockAt w b lb n cap E now f) (hn : n ≤ 64) (m : Nat) (hm : m < n) (h0 : f m = 0) (hne : ∀ j, j < m → ¬ f j = 0) :
    Calls Try.prog 37 #[.pointer (some ⟨b, 0, none⟩), .pointer none] w fun e w' => e = .returned (.int .i64 m) ∧ w' = w.setCell ⟨E m, 0, none⟩ (.int .i64 1) := by
  have c1 := H.cellRow
  have HH : Hid _ := H
  have H0 : Hid (f m = 0) := h0
  have HN : Hid (∀ j, j < m → ¬ f j = 0) := hne
  clear H h0 hne
  go_enter Try.func37, Try.ntmps37
  go_wp2
  go_loop [12] (fun i => ∃ k : Nat, k ≤ m ∧ i = .int .i64 k) (fun i => n - (intOf i).toNat)
  case atStart => exact ⟨0, Nat.zero_le _, rfl⟩
  case round =>
    obtain ⟨k, hk, rfl⟩ := hrel
    have hkn : (k : Int) < n := by omega
    have ck := HH.out.cellAt (k := k) (by omega)
    have cl := HH.out.cellLease (k := k) (by omega)
    have cz := HH.out.frozLease (k := k) (by omega)
    by_cases hlt : k < m
    · have hx := HN.out k hlt
      go_wp2_with (first
        | (go_at_call 26; refine (cStep _).mono ?_; rintro e w' ⟨rfl, rfl⟩)
        | (go_at_call 40; refine (cACasMiss cl cz hx).mono ?_; rintro e w' ⟨rfl, rfl⟩))
      go_round
      case rel => exact ⟨k + 1, by omega, by go_num⟩
      case measure => simp [intOf]; omega
    · have e : k = m := by omega
      subst e
      rw [H0.out] at cl
      go_wp2_with (first
        | (go_at_call 26; refine (cStep _).mono ?_; rintro e w' ⟨rfl, rfl⟩)
        | (go_at_call 40; refine (cACas cl cz).mono ?_; rintro e w' ⟨rfl, rfl⟩))
      go_ret
      exact ⟨rfl, rfl⟩
set_option maxHeartbeats 800000 in
theorem cClaimNone (H : ClockAt w b lb n cap E now f) (hn : n ≤ 64) (hne : ∀ j, j < n → ¬ f j = 0) :
    Calls Try.prog 37 #[.pointer (some ⟨b, 0, none⟩), .pointer none] w fun e w' => e = .returned (.int .i64 (-1)) ∧ w' = w := by
  have c1 := H.cellRow
  have HH : Hid _ := H
  have HN : Hid (∀ j, j < n → ¬ f j = 0) := hne
  clear H hne
  go_enter Try.func37, Try.ntmps37
  go_wp2
  go_loop [12] (fun i => ∃ k : Nat, k ≤ n ∧ i = .int .i64 k) (fun i => n - (intOf i).toNat)
  case atStart => exact ⟨0, Nat.zero_le _, rfl⟩
  case round =>
    obtain ⟨k, hk, rfl⟩ := hrel
    by_cases hlt : k < n
    · have hkn : (k : Int) < n := by omega
      have ck := HH.out.cellAt (k := k) (by omega)
      have cl := HH.out.cellLease (k := k) (by omega)
      have cz := HH.out.frozLease (k := k) (by omega)
      have hx := HN.out k hlt
      go_wp2_with (first
        | (go_at_call 26; refine (cStep _).mono ?_; rintro e w' ⟨rfl, rfl⟩)
        | (go_at_call 40; refine (cACasMiss cl cz hx).mono ?_; rintro e w' ⟨rfl, rfl⟩))
      go_round
      case rel => exact ⟨k + 1, by omega, by go_num⟩
      case measure => simp [intOf]; omega
    · have hkn : ¬ (k : Int) < n := by omega
      go_wp2
      go_ret
      exact ⟨rfl, rfl⟩
end
end Go.Proofs.Ytaaibhgbkdnlbaa
/- Package clock, alone: Take, Release by contract. -/
namespace Go.Proofs.Ytaaibhgbkdnlbaa
open Go.RowKit
theorem cHasYes {w : World} {b lb n cap : Nat} {now : Int} (hb : w.heap[b]? = some (clockObj now (.slice (some ⟨lb, 0, none⟩) n cap))) (i : Int) (h : 0 ≤ i ∧ i < n) :
    Calls Try.prog 38 #[.pointer (some ⟨b, 0, none⟩), .int .i64 i] w fun e w' => e = .returned (.bool true) ∧ w' = w := by
  have := cCHas hb i
  rwa [has_yes h.1 h.2] at this
theorem cHasNo {w : World} {b lb n cap : Nat} {now : Int} (hb : w.heap[b]? = some (clockObj now (.slice (some ⟨lb, 0, none⟩) n cap))) (i : Int) (h : i < 0 ∨ n ≤ i) :
    Calls Try.prog 38 #[.pointer (some ⟨b, 0, none⟩), .int .i64 i] w fun e w' => e = .returned (.bool false) ∧ w' = w := by
  have := cCHas hb i
  rwa [has_no h] at this
abbrev snapObj (l s : Int) : Obj := .cells #[.int .i64 l, .int .i64 s] 52 (0, 0)
section
variable {w : World} {b lb n cap : Nat} {E : Nat → Nat} {now : Int} {f : Nat → Int}
theorem snap_cells {w : World} {r : Nat} {l s : Int} (h : w.heap[r]? = some (snapObj l s)) : (w.cell? ⟨r, 0, none⟩ = some (.int .i64 l) ∧ w.cell? ⟨r, 1, none⟩ = some (.int .i64 s)) ∧ w.frozen? ⟨r, 0, none⟩ = false ∧ w.frozen? ⟨r, 1, none⟩ = false :=
  ⟨⟨by rw [cell_at h]; rfl, by rw [cell_at h]; rfl⟩, froz_at h _, froz_at h _⟩
theorem upd_upd {α : Type} (f : Nat → α) (k : Nat) (x y : α) : upd (upd f k x) k y = upd f k y := by
  funext j; unfold upd; by_cases e : j = k <;> simp [e]
set_option maxHeartbeats 1600000 in
theorem cTakeNone (H : ClockAt w b lb n cap E now f) (hn : n ≤ 64) (hne : ∀ j, j < n → ¬ f j = 0) :
    Calls Try.prog 14 #[.pointer (some ⟨b, 0, none⟩), .pointer none] w fun e w' => e = .returned (.tuple #[.agg #[.int .i64 0, .int .i64 0], .int .i64 132]) ∧ Turned [] w w' := by
  have H0 := H.still (w' := w.alloc (snapObj 0 0)) ((Turned.refl _ _).alloc _)
  have HC := cClaimNone H0 hn hne
  have HH := cHasNo H0.obj (-1) (by omega)
  clear H H0
  go_enter Try.func14, Try.ntmps14
  go_wp2
  refine wp_scope_straight ?_
  go_wp2_with (first
    | (go_at_call 37; refine HC.mono ?_; rintro e w' ⟨rfl, rfl⟩)
    | (go_at_call 38; refine HH.mono ?_; rintro e w' ⟨rfl, rfl⟩))
  rw [Exit.noGoto_ret]
  show bodyPost Try.prog Try.f14 _ Exit.ret _ _
  exact bodyPost_ret (v := .tuple #[.agg #[.int .i64 0, .int .i64 0], .int .i64 132]) (by simp [results, Try.results14, go_sem]) rfl ⟨rfl, (Turned.refl _ _).alloc _⟩
set_option maxHeartbeats 1600000 in
theorem cTakeAt (H : ClockAt w b lb n cap E now f) (hn : n ≤ 64) (hb0 : 0 ≤ now) (hb1 : now ≤ 1000000) (m : Nat) (hm : m < n) (h0 : f m = 0) (hne : ∀ j, j < m → ¬ f j = 0) :
    Calls Try.prog 14 #[.pointer (some ⟨b, 0, none⟩), .pointer none] w fun e w' => e = .returned (.tuple #[.agg #[.int .i64 m, .int .i64 now], .int .i64 0]) ∧ ClockAt w' b lb n cap E (now + 1) (upd f m (now + 1)) ∧ Turned [b, E m] w w' := by
  have H0 := H.still (w' := w.alloc (snapObj 0 0)) ((Turned.refl _ _).alloc _)
  have hr0 := blk_new w (snapObj 0 0)
  have hlE := lt_of_heap (H.lease m hm)
  have hlb := lt_of_heap H.obj
  have HC := cClaimAt H0 hn m hm h0 hne
  have H1 := H0.put hm 1
  have hr1 : ((w.alloc (snapObj 0 0)).setCell ⟨E m, 0, none⟩ (.int .i64 1)).heap[w.heap.size]? = some (snapObj 0 0) := (blk_other (by omega) _ _).trans hr0
  have T1 : Turned [b, E m] w ((w.alloc (snapObj 0 0)).setCell ⟨E m, 0, none⟩ (.int .i64 1)) := ((Turned.refl _ _).alloc _).set (.inl (by simp)) _ _
  have mn : (0 : Int) ≤ m ∧ (m : Int) < n := by omega
  generalize hw1 : (w.alloc (snapObj 0 0)).setCell ⟨E m, 0, none⟩ (.int .i64 1) = w1 at *
  have HH := cHasYes H1.obj m mn
  have HN1 := cNow H1.obj
  have HS := cAStore (y := now + 1) (H1.cellLease hm) (H1.frozLease hm)
  have c1 := H1.cellRow
  have ck := H1.cellAt hm
  have H2 := H1.put hm (now + 1)
  rw [upd_upd] at H2
  have hr2 : (w1.setCell ⟨E m, 0, none⟩ (.int .i64 (now + 1))).heap[w.heap.size]? = some (snapObj 0 0) := (blk_other (by omega) _ _).trans hr1
  have T2 : Turned [b, E m] w (w1.setCell ⟨E m, 0, none⟩ (.int .i64 (now + 1))) := T1.set (.inl (by simp)) _ _
  generalize hw2 : w1.setCell ⟨E m, 0, none⟩ (.int .i64 (now + 1)) = w2 at *
  have HN2 := cNow H2.obj
  have HX := cACas (y := now + 1) H2.cellNow H2.frozNow
  have H3 := H2.putNow (now + 1)
  have hr3 : (w2.setCell ⟨b, 0, none⟩ (.int .i64 (now + 1))).heap[w.heap.size]? = some (snapObj 0 0) := (blk_other (by omega) _ _).trans hr2
  have T3 : Turned [b, E m] w (w2.setCell ⟨b, 0, none⟩ (.int .i64 (now + 1))) := T2.set (.inl (by simp)) _ _
  generalize hw3 : w2.setCell ⟨b, 0, none⟩ (.int .i64 (now + 1)) = w3 at *
  have H3k : Hid (ClockAt w3 b lb n cap E (now + 1) (upd f m (now + 1))) := H3
  have T3k : Hid (Turned [b, E m] w w3) := T3
  have hr3k : Hid (w3.heap[w.heap.size]? = some (snapObj 0 0)) := hr3
  obtain ⟨⟨s0, s1⟩, z0, z1⟩ := snap_cells hr3
  clear H H0 H1 H2 H3 T1 T2 T3 hr0 hr1 hr2 hr3 hw1 hw2 hw3 hne h0
  go_enter Try.func14, Try.ntmps14
  go_wp2
  refine wp_scope_straight ?_
  go_wp2_with (first
    | (go_at_call 37; refine HC.mono ?_; rintro e w' ⟨rfl, hw⟩; obtain rfl := hw.symm)
    | (go_at_call 38; refine HH.mono ?_; rintro e w' ⟨rfl, hw⟩; obtain rfl := hw.symm)
    | (go_at_call 39; refine HN1.mono ?_; rintro e w' ⟨rfl, hw⟩; obtain rfl := hw.symm))
  refine wp_label ?_
  go_wp2_with (first
    | (go_at_call 26; refine (cStep _).mono ?_; rintro e w' ⟨rfl, hw⟩; obtain rfl := hw.symm)
    | (go_at_call 23; refine HS.mono ?_; rintro e w' ⟨rfl, hw⟩; obtain rfl := hw.symm)
    | (go_at_call 39; refine HN2.mono ?_; rintro e w' ⟨rfl, hw⟩; obtain rfl := hw.symm)
    | (go_at_call 40; refine HX.mono ?_; rintro e w' ⟨rfl, hw⟩; obtain rfl := hw.symm))
  rw [Exit.noGoto_ret]
  show bodyPost Try.prog Try.f14 _ Exit.ret _ _
  refine bodyPost_ret (v := .tuple #[.agg #[.int .i64 m, .int .i64 now], .int .i64 0]) (by simp [results, Try.results14, go_sem, s0, s1]) rfl ⟨rfl, ?_, ?_⟩
  · refine H3k.out.keep (l := [w.heap.size]) (((Turned.refl _ _).set (.inl (by simp)) _ _).set (.inl (by simp)) _ _) (by simp; omega) ?_ (fun k hk => ?_)
    · have := other_type hr3k.out H3k.out.row.choose_spec.1 (by decide)
      simp; exact fun e => this e.symm
    · have := other_type hr3k.out (H3k.out.lease k hk) (by decide)
      simp; exact fun e => this e.symm
  · exact (T3k.out.set (.inr (Nat.le_refl _)) _ _).set (.inr (Nat.le_refl _)) _ _
set_option maxHeartbeats 800000 in
theorem cReleaseNo (H : ClockAt w b lb n cap E now f) (i : Int) (hi : i < 0 ∨ n ≤ i) :
    Calls Try.prog 15 #[.pointer (some ⟨b, 0, none⟩), .pointer none, .int .i64 i] w fun e w' => e = .returned (.int .i64 133) ∧ w' = w := by
  have HH := cHasNo H.obj i hi
  clear H
  go_enter Try.func15, Try.ntmps15
  go_wp2_with (first
    | (go_at_call 26; refine (cStep _).mono ?_; rintro e w' ⟨rfl, hw⟩; obtain rfl := hw.symm)
    | (go_at_call 38; refine HH.mono ?_; rintro e w' ⟨rfl, hw⟩; obtain rfl := hw.symm))
  go_ret
  exact ⟨rfl, rfl⟩
set_option maxHeartbeats 800000 in
theorem cReleaseFree (H : ClockAt w b lb n cap E now f) (i : Nat) (hi : i < n) (h0 : f i = 0) :
    Calls Try.prog 15 #[.pointer (some ⟨b, 0, none⟩), .pointer none, .int .i64 i] w fun e w' => e = .returned (.int .i64 133) ∧ ClockAt w' b lb n cap E now f ∧ Turned [E i] w w' := by
  have HH := cHasYes H.obj i (by omega)
  have hcl := H.cellLease hi
  rw [h0] at hcl
  have HS := cASwap (y := 0) hcl (H.frozLease hi)
  have c1 := H.cellRow
  have ck := H.cellAt hi
  have hlt : (i : Int) < n := by omega
  have HK : Hid (ClockAt w b lb n cap E now f) := H
  have H0 : Hid (f i = 0) := h0
  clear H hcl h0
  go_enter Try.func15, Try.ntmps15
  go_wp2_with (first
    | (go_at_call 26; refine (cStep _).mono ?_; rintro e w' ⟨rfl, hw⟩; obtain rfl := hw.symm)
    | (go_at_call 38; refine HH.mono ?_; rintro e w' ⟨rfl, hw⟩; obtain rfl := hw.symm)
    | (go_at_call 41; refine HS.mono ?_; rintro e w' ⟨rfl, rfl⟩))
  go_ret
  refine ⟨rfl, ?_, (Turned.refl _ _).set (.inl (by simp)) _ _⟩
  have h2 := HK.out.put hi 0
  rwa [show upd f i 0 = f by funext j; unfold upd; by_cases e : j = i <;> simp [e, H0.out]] at h2
set_option maxHeartbeats 800000 in
theorem cReleaseHeld (H : ClockAt w b lb n cap E now f) (i : Nat) (hi : i < n) (h0 : ¬ f i = 0) :
    Calls Try.prog 15 #[.pointer (some ⟨b, 0, none⟩), .pointer none, .int .i64 i] w fun e w' => e = .returned (.int .i64 0) ∧ ClockAt w' b lb n cap E now (upd f i 0) ∧ Turned [E i] w w' := by
  have HH := cHasYes H.obj i (by omega)
  have HS := cASwap (y := 0) (H.cellLease hi) (H.frozLease hi)
  have c1 := H.cellRow
  have ck := H.cellAt hi
  have hlt : (i : Int) < n := by omega
  have HK : Hid (ClockAt w b lb n cap E now f) := H
  have hz : (f i == 0) = false := by simpa using h0
  clear H h0
  go_enter Try.func15, Try.ntmps15
  go_wp2_with (first
    | (go_at_call 26; refine (cStep _).mono ?_; rintro e w' ⟨rfl, hw⟩; obtain rfl := hw.symm)
    | (go_at_call 38; refine HH.mono ?_; rintro e w' ⟨rfl, hw⟩; obtain rfl := hw.symm)
    | (go_at_call 41; refine HS.mono ?_; rintro e w' ⟨rfl, rfl⟩))
  go_ret
  exact ⟨rfl, HK.out.put hi 0, (Turned.refl _ _).set (.inl (by simp)) _ _⟩
end
end Go.Proofs.Ytaaibhgbkdnlbaa
