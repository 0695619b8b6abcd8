/- Package clock, alone: Take, Release by contract. -/
import Derived.Test.YtibpgoiiohmeiaaClkA
namespace Go.Proofs.Ytibpgoiiohmeiaa
open Go.RowKit
theorem cHasYes {w : World} {b lb n cap : Nat} {now : Int} (hb : w.heap[b]? = some (clockObj now (.slice (some ⟨lb, 0, none⟩) n cap))) (i : Int) (h : 0 ≤ i ∧ i < n) :
    Calls Try.prog 14 #[.pointer (some ⟨b, 0, none⟩), .int .i64 i] w fun e w' => e = .returned (.bool true) ∧ w' = w := by
  have := cHas hb i
  rwa [has_yes h.1 h.2] at this
theorem cHasNo {w : World} {b lb n cap : Nat} {now : Int} (hb : w.heap[b]? = some (clockObj now (.slice (some ⟨lb, 0, none⟩) n cap))) (i : Int) (h : i < 0 ∨ n ≤ i) :
    Calls Try.prog 14 #[.pointer (some ⟨b, 0, none⟩), .int .i64 i] w fun e w' => e = .returned (.bool false) ∧ w' = w := by
  have := cHas hb i
  rwa [has_no h] at this
abbrev snapObj (l s : Int) : Obj := .cells #[.int .i64 l, .int .i64 s] 29 (0, 0)
section
variable {w : World} {b lb n cap : Nat} {E : Nat → Nat} {now : Int} {f : Nat → Int}
theorem snap_cells {w : World} {r : Nat} {l s : Int} (h : w.heap[r]? = some (snapObj l s)) : (w.cell? ⟨r, 0, none⟩ = some (.int .i64 l) ∧ w.cell? ⟨r, 1, none⟩ = some (.int .i64 s)) ∧ w.frozen? ⟨r, 0, none⟩ = false ∧ w.frozen? ⟨r, 1, none⟩ = false :=
  ⟨⟨by rw [cell_at h]; rfl, by rw [cell_at h]; rfl⟩, froz_at h _, froz_at h _⟩
theorem upd_upd {α : Type} (f : Nat → α) (k : Nat) (x y : α) : upd (upd f k x) k y = upd f k y := by
  funext j; unfold upd; by_cases e : j = k <;> simp [e]
set_option maxHeartbeats 1600000 in
theorem cTakeNone (H : ClockAt w b lb n cap E now f) (hn : n ≤ 64) (hne : ∀ j, j < n → ¬ f j = 0) :
    Calls Try.prog 6 #[.pointer (some ⟨b, 0, none⟩), .pointer none] w fun e w' => e = .returned (.tuple #[.agg #[.int .i64 0, .int .i64 0], .int .i64 132]) ∧ Turned [] w w' := by
  have H0 := H.still (w' := w.alloc (snapObj 0 0)) ((Turned.refl _ _).alloc _)
  have HC := cClaimNone H0 hn hne
  have HH := cHasNo H0.obj (-1) (by omega)
  clear H H0
  go_enter Try.func6, Try.ntmps6
  go_wp2
  refine wp_scope_straight ?_
  go_wp2_with (first
    | (go_at_call 13; refine HC.mono ?_; rintro e w' ⟨rfl, rfl⟩)
    | (go_at_call 14; refine HH.mono ?_; rintro e w' ⟨rfl, rfl⟩))
  rw [Exit.noGoto_ret]
  show bodyPost Try.prog Try.f6 _ Exit.ret _ _
  exact bodyPost_ret (v := .tuple #[.agg #[.int .i64 0, .int .i64 0], .int .i64 132]) (by simp [results, Try.results6, go_sem]) rfl ⟨rfl, (Turned.refl _ _).alloc _⟩
set_option maxHeartbeats 1600000 in
theorem cTakeAt (H : ClockAt w b lb n cap E now f) (hn : n ≤ 64) (hb0 : 0 ≤ now) (hb1 : now ≤ 1000000) (m : Nat) (hm : m < n) (h0 : f m = 0) (hne : ∀ j, j < m → ¬ f j = 0) :
    Calls Try.prog 6 #[.pointer (some ⟨b, 0, none⟩), .pointer none] w fun e w' => e = .returned (.tuple #[.agg #[.int .i64 m, .int .i64 now], .int .i64 0]) ∧ ClockAt w' b lb n cap E (now + 1) (upd f m (now + 1)) ∧ Turned [b, E m] w w' := by
  have H0 := H.still (w' := w.alloc (snapObj 0 0)) ((Turned.refl _ _).alloc _)
  have hr0 := blk_new w (snapObj 0 0)
  have hlE := lt_of_heap (H.lease m hm)
  have hlb := lt_of_heap H.obj
  have HC := cClaimAt H0 hn m hm h0 hne
  have H1 := H0.put hm 1
  have hr1 : ((w.alloc (snapObj 0 0)).setCell ⟨E m, 0, none⟩ (.int .i64 1)).heap[w.heap.size]? = some (snapObj 0 0) := (blk_other (by omega) _ _).trans hr0
  have T1 : Turned [b, E m] w ((w.alloc (snapObj 0 0)).setCell ⟨E m, 0, none⟩ (.int .i64 1)) := ((Turned.refl _ _).alloc _).set (.inl (by simp)) _ _
  have mn : (0 : Int) ≤ m ∧ (m : Int) < n := by omega
  generalize hw1 : (w.alloc (snapObj 0 0)).setCell ⟨E m, 0, none⟩ (.int .i64 1) = w1 at *
  have HH := cHasYes H1.obj m mn
  have HN1 := cNow H1.obj
  have HS := cAStore (y := now + 1) (H1.cellLease hm) (H1.frozLease hm)
  have c1 := H1.cellRow
  have ck := H1.cellAt hm
  have H2 := H1.put hm (now + 1)
  rw [upd_upd] at H2
  have hr2 : (w1.setCell ⟨E m, 0, none⟩ (.int .i64 (now + 1))).heap[w.heap.size]? = some (snapObj 0 0) := (blk_other (by omega) _ _).trans hr1
  have T2 : Turned [b, E m] w (w1.setCell ⟨E m, 0, none⟩ (.int .i64 (now + 1))) := T1.set (.inl (by simp)) _ _
  generalize hw2 : w1.setCell ⟨E m, 0, none⟩ (.int .i64 (now + 1)) = w2 at *
  have HN2 := cNow H2.obj
  have HX := cACas (y := now + 1) H2.cellNow H2.frozNow
  have H3 := H2.putNow (now + 1)
  have hr3 : (w2.setCell ⟨b, 0, none⟩ (.int .i64 (now + 1))).heap[w.heap.size]? = some (snapObj 0 0) := (blk_other (by omega) _ _).trans hr2
  have T3 : Turned [b, E m] w (w2.setCell ⟨b, 0, none⟩ (.int .i64 (now + 1))) := T2.set (.inl (by simp)) _ _
  generalize hw3 : w2.setCell ⟨b, 0, none⟩ (.int .i64 (now + 1)) = w3 at *
  have H3k : Hid (ClockAt w3 b lb n cap E (now + 1) (upd f m (now + 1))) := H3
  have T3k : Hid (Turned [b, E m] w w3) := T3
  have hr3k : Hid (w3.heap[w.heap.size]? = some (snapObj 0 0)) := hr3
  obtain ⟨⟨s0, s1⟩, z0, z1⟩ := snap_cells hr3
  clear H H0 H1 H2 H3 T1 T2 T3 hr0 hr1 hr2 hr3 hw1 hw2 hw3 hne h0
  go_enter Try.func6, Try.ntmps6
  go_wp2
  refine wp_scope_straight ?_
  go_wp2_with (first
    | (go_at_call 13; refine HC.mono ?_; rintro e w' ⟨rfl, hw⟩; obtain rfl := hw.symm)
    | (go_at_call 14; refine HH.mono ?_; rintro e w' ⟨rfl, hw⟩; obtain rfl := hw.symm)
    | (go_at_call 8; refine HN1.mono ?_; rintro e w' ⟨rfl, hw⟩; obtain rfl := hw.symm))
  refine wp_label ?_
  go_wp2_with (first
    | (go_at_call 15; refine (cStep _).mono ?_; rintro e w' ⟨rfl, hw⟩; obtain rfl := hw.symm)
    | (go_at_call 12; refine HS.mono ?_; rintro e w' ⟨rfl, hw⟩; obtain rfl := hw.symm)
    | (go_at_call 8; refine HN2.mono ?_; rintro e w' ⟨rfl, hw⟩; obtain rfl := hw.symm)
    | (go_at_call 16; refine HX.mono ?_; rintro e w' ⟨rfl, hw⟩; obtain rfl := hw.symm))
  rw [Exit.noGoto_ret]
  show bodyPost Try.prog Try.f6 _ Exit.ret _ _
  refine bodyPost_ret (v := .tuple #[.agg #[.int .i64 m, .int .i64 now], .int .i64 0]) (by simp [results, Try.results6, go_sem, s0, s1]) rfl ⟨rfl, ?_, ?_⟩
  · refine H3k.out.keep (l := [w.heap.size]) (((Turned.refl _ _).set (.inl (by simp)) _ _).set (.inl (by simp)) _ _) (by simp; omega) ?_ (fun k hk => ?_)
    · have := other_type hr3k.out H3k.out.row.choose_spec.1 (by decide)
      simp; exact fun e => this e.symm
    · have := other_type hr3k.out (H3k.out.lease k hk) (by decide)
      simp; exact fun e => this e.symm
  · exact (T3k.out.set (.inr (Nat.le_refl _)) _ _).set (.inr (Nat.le_refl _)) _ _
set_option maxHeartbeats 800000 in
theorem cReleaseNo (H : ClockAt w b lb n cap E now f) (i : Int) (hi : i < 0 ∨ n ≤ i) :
    Calls Try.prog 10 #[.pointer (some ⟨b, 0, none⟩), .pointer none, .int .i64 i] w fun e w' => e = .returned (.int .i64 133) ∧ w' = w := by
  have HH := cHasNo H.obj i hi
  clear H
  go_enter Try.func10, Try.ntmps10
  go_wp2_with (first
    | (go_at_call 15; refine (cStep _).mono ?_; rintro e w' ⟨rfl, hw⟩; obtain rfl := hw.symm)
    | (go_at_call 14; refine HH.mono ?_; rintro e w' ⟨rfl, hw⟩; obtain rfl := hw.symm))
  go_ret
  exact ⟨rfl, rfl⟩
set_option maxHeartbeats 800000 in
theorem cReleaseFree (H : ClockAt w b lb n cap E now f) (i : Nat) (hi : i < n) (h0 : f i = 0) :
    Calls Try.prog 10 #[.pointer (some ⟨b, 0, none⟩), .pointer none, .int .i64 i] w fun e w' => e = .returned (.int .i64 133) ∧ ClockAt w' b lb n cap E now f ∧ Turned [E i] w w' := by
  have HH := cHasYes H.obj i (by omega)
  have hcl := H.cellLease hi
  rw [h0] at hcl
  have HS := cASwap (y := 0) hcl (H.frozLease hi)
  have c1 := H.cellRow
  have ck := H.cellAt hi
  have hlt : (i : Int) < n := by omega
  have HK : Hid (ClockAt w b lb n cap E now f) := H
  have H0 : Hid (f i = 0) := h0
  clear H hcl h0
  go_enter Try.func10, Try.ntmps10
  go_wp2_with (first
    | (go_at_call 15; refine (cStep _).mono ?_; rintro e w' ⟨rfl, hw⟩; obtain rfl := hw.symm)
    | (go_at_call 14; refine HH.mono ?_; rintro e w' ⟨rfl, hw⟩; obtain rfl := hw.symm)
    | (go_at_call 18; refine HS.mono ?_; rintro e w' ⟨rfl, rfl⟩))
  go_ret
  refine ⟨rfl, ?_, (Turned.refl _ _).set (.inl (by simp)) _ _⟩
  have h2 := HK.out.put hi 0
  rwa [show upd f i 0 = f by funext j; unfold upd; by_cases e : j = i <;> simp [e, H0.out]] at h2
set_option maxHeartbeats 800000 in
theorem cReleaseHeld (H : ClockAt w b lb n cap E now f) (i : Nat) (hi : i < n) (h0 : ¬ f i = 0) :
    Calls Try.prog 10 #[.pointer (some ⟨b, 0, none⟩), .pointer none, .int .i64 i] w fun e w' => e = .returned (.int .i64 0) ∧ ClockAt w' b lb n cap E now (upd f i 0) ∧ Turned [E i] w w' := by
  have HH := cHasYes H.obj i (by omega)
  have HS := cASwap (y := 0) (H.cellLease hi) (H.frozLease hi)
  have c1 := H.cellRow
  have ck := H.cellAt hi
  have hlt : (i : Int) < n := by omega
  have HK : Hid (ClockAt w b lb n cap E now f) := H
  have hz : (f i == 0) = false := by simpa using h0
  clear H h0
  go_enter Try.func10, Try.ntmps10
  go_wp2_with (first
    | (go_at_call 15; refine (cStep _).mono ?_; rintro e w' ⟨rfl, hw⟩; obtain rfl := hw.symm)
    | (go_at_call 14; refine HH.mono ?_; rintro e w' ⟨rfl, hw⟩; obtain rfl := hw.symm)
    | (go_at_call 18; refine HS.mono ?_; rintro e w' ⟨rfl, rfl⟩))
  go_ret
  exact ⟨rfl, HK.out.put hi 0, (Turned.refl _ _).set (.inl (by simp)) _ _⟩
end
end Go.Proofs.Ytibpgoiiohmeiaa
