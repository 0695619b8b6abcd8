/- The clock's known example. -/
import Derived.Test.YtibpgoiiohmeiaaClkD
import Derived.Laws.StructEq
namespace Go.Proofs.Ytibpgoiiohmeiaa
open Go.RowKit
def kf (x y : Int) (j : Nat) : Int := if j = 0 then x else if j = 1 then y else 0
theorem kf0 : (fun _ : Nat => (0 : Int)) = kf 0 0 := by funext j; unfold kf; split <;> first | rfl | (split <;> rfl)
theorem kf_put0 (x y v : Int) : upd (kf x y) 0 v = kf v y := by funext j; unfold upd kf; by_cases e : j = 0 <;> simp [e]
theorem kf_put1 (x y v : Int) : upd (kf x y) 1 v = kf x v := by funext j; unfold upd kf; by_cases e : j = 1 <;> simp [e]
theorem kf_bd {x y : Int} (hx : 0 ≤ x ∧ x ≤ 1000001) (hy : 0 ≤ y ∧ y ≤ 1000001) : ∀ j, j < 2 → 0 ≤ kf x y j ∧ kf x y j ≤ 1000001 := fun j hj => by
  unfold kf; rcases (by omega : j = 0 ∨ j = 1) with rfl | rfl <;> simp <;> omega
theorem kf_two {x y : Int} (hx : ¬ x = 0) (hy : ¬ y = 0) : ∀ j, j < 2 → ¬ kf x y j = 0 := fun j hj => by
  unfold kf; rcases (by omega : j = 0 ∨ j = 1) with rfl | rfl <;> simp <;> omega
theorem kf_one {x y : Int} (hx : ¬ x = 0) : ∀ j, j < 1 → ¬ kf x y j = 0 := fun j hj => by
  unfold kf; rcases (by omega : j = 0) with rfl; simp; omega
section
variable {w : World} {b lb cap : Nat} {E : Nat → Nat}
/-- What known's clock is, and which blocks it has made since w. -/
structure KS (w x : World) (b lb cap : Nat) (E : Nat → Nat) (now p q : Int) : Prop where
  at_ : ClockAt x b lb 2 cap E now (kf p q)
  turned : Turned [] w x
  lb_ : w.heap.size ≤ b
  lE : ∀ k, k < 2 → w.heap.size ≤ E k
theorem KS.still {w x y : World} {now p q : Int} (h : KS w x b lb cap E now p q) (ht : Turned [] x y) : KS w y b lb cap E now p q := ⟨h.at_.still ht, h.turned.trans ht, h.lb_, h.lE⟩
/-- A box of the law's own stays. -/
theorem KS.snap {w x y : World} {now p q l s : Int} {r k : Nat} (h : KS w x b lb cap E now p q) (hk : k < 2) (ht : Turned [b, E k] x y) (hr : x.heap[r]? = some (snapObj l s)) : y.heap[r]? = some (snapObj l s) := by
  refine ht.heap hr ?_
  have h1 := other_type hr h.at_.obj (by decide)
  have h2 := other_type hr (h.at_.lease k hk) (by decide)
  simp; exact ⟨h1, h2⟩
theorem KS.next {w x y : World} {now p q now' p' q' : Int} {k : Nat} (h : KS w x b lb cap E now p q) (hk : k < 2) (ht : Turned [b, E k] x y) (ha : ClockAt y b lb 2 cap E now' (kf p' q')) : KS w y b lb cap E now' p' q' :=
  ⟨ha, h.turned.inner ht (fun z hz => by simp at hz; rcases hz with rfl | rfl; exact .inr h.lb_; exact .inr (h.lE k hk)), h.lb_, h.lE⟩
theorem kTake0 {x : World} (h : KS w x b lb cap E 1 0 0) : Calls Try.prog 6 #[.pointer (some ⟨b, 0, none⟩), .pointer none] x fun e y => e = .returned (.tuple #[.agg #[.int .i64 0, .int .i64 1], .int .i64 0]) ∧ KS w y b lb cap E 2 2 0 ∧ Turned [b, E 0] x y := by
  refine (cTakeAt h.at_ (by omega) (by omega) (by omega) 0 (by omega) rfl (by omega)).mono fun e y ⟨he, ha, ht⟩ => ⟨he, h.next (k := 0) (by omega) ht ?_, ht⟩
  rw [kf_put0] at ha; exact ha
theorem kTake1 {x : World} (h : KS w x b lb cap E 2 2 0) : Calls Try.prog 6 #[.pointer (some ⟨b, 0, none⟩), .pointer none] x fun e y => e = .returned (.tuple #[.agg #[.int .i64 1, .int .i64 2], .int .i64 0]) ∧ KS w y b lb cap E 3 2 3 ∧ Turned [b, E 1] x y := by
  refine (cTakeAt h.at_ (by omega) (by omega) (by omega) 1 (by omega) rfl (kf_one (by omega))).mono fun e y ⟨he, ha, ht⟩ => ⟨he, h.next (k := 1) (by omega) ht ?_, ht⟩
  rw [kf_put1] at ha; exact ha
theorem kTake2 {x : World} (h : KS w x b lb cap E 3 2 3) : Calls Try.prog 6 #[.pointer (some ⟨b, 0, none⟩), .pointer none] x fun e y => e = .returned (.tuple #[.agg #[.int .i64 0, .int .i64 0], .int .i64 132]) ∧ KS w y b lb cap E 3 2 3 ∧ Turned [] x y :=
  (cTakeNone h.at_ (by omega) (kf_two (by omega) (by omega))).mono fun _ _ ⟨he, ht⟩ => ⟨he, h.still ht, ht⟩
theorem kLeast {x : World} {now p q : Int} (h : KS w x b lb cap E now p q) (hn : 0 ≤ now ∧ now ≤ 1000000) (hp : 0 ≤ p ∧ p ≤ 1000001) (hq : 0 ≤ q ∧ q ≤ 1000001) (v : Int) (hv : leastV now (kf p q) 2 = v) : Calls Try.prog 9 #[.pointer (some ⟨b, 0, none⟩), .pointer none] x fun e y => e = .returned (.int .i64 v) ∧ y = x := by
  have := cLeast h.at_ (by omega) hn.1 hn.2 (kf_bd hp hq)
  rwa [hv] at this
theorem kRel0 {x : World} (h : KS w x b lb cap E 3 2 3) : Calls Try.prog 10 #[.pointer (some ⟨b, 0, none⟩), .pointer none, .int .i64 0] x fun e y => e = .returned (.int .i64 0) ∧ KS w y b lb cap E 3 0 3 ∧ Turned [b, E 0] x y := by
  refine (cReleaseHeld h.at_ 0 (by omega) (by simp [kf])).mono fun e y ⟨he, ha, ht⟩ => ⟨he, h.next (k := 0) (by omega) (ht.mono (by simp)) ?_, ht.mono (by simp)⟩
  rw [kf_put0] at ha; exact ha
theorem kRel1 {x : World} (h : KS w x b lb cap E 3 0 3) : Calls Try.prog 10 #[.pointer (some ⟨b, 0, none⟩), .pointer none, .int .i64 0] x fun e y => e = .returned (.int .i64 133) ∧ KS w y b lb cap E 3 0 3 ∧ Turned [b, E 0] x y :=
  (cReleaseFree h.at_ 0 (by omega) rfl).mono fun e y ⟨he, ha, ht⟩ => ⟨he, h.next (k := 0) (by omega) (ht.mono (by simp)) ha, ht.mono (by simp)⟩
set_option maxRecDepth 100000 in
set_option maxHeartbeats 1600000 in
theorem cKnown (w : World) : Calls Try.prog 4 #[] w fun e w' => e = .returned (.bool true) ∧ Turned [] w w' := by
  go_enter Try.func4, Try.ntmps4
  go_wp2_with (first
    | (go_at_call 5; refine (cNewClk _ 2 (by omega) (by omega)).mono ?_; rintro e w1 ⟨rfl, lb, cap, E, ha1, ht1, hl1, he1⟩; rw [kf0] at ha1; have H1 : Hid (KS w w1 w.heap.size lb cap E 1 0 0) := ⟨ha1, ht1, Nat.le_refl _, he1⟩; clear ha1 ht1 hl1 he1)
    | (go_at_call 6; refine (kTake0 H1.out).mono ?_; rintro e w2 ⟨rfl, hk, ht⟩; have H2 : Hid _ := hk; clear hk ht H1)
    | (go_at_call 6; refine (kTake1 (H2.out.still ((Turned.refl _ _).alloc (snapObj 0 1)))).mono ?_; rintro e w3 ⟨rfl, hk, ht⟩; have A3 : Hid _ := (H2.out.still ((Turned.refl _ _).alloc (snapObj 0 1))).snap (k := 1) (by omega) ht (blk_new _ _); have H3 : Hid _ := hk; clear hk ht H2)
    | (go_at_call 6; refine (kTake2 (H3.out.still ((Turned.refl _ _).alloc (snapObj 1 2)))).mono ?_; rintro e w4 ⟨rfl, hk, ht⟩; have A4 : Hid _ := ht.heap (blk_old A3.out (snapObj 1 2)) (by simp); have B4 : Hid _ := ht.heap (blk_new w3 (snapObj 1 2)) (by simp); have H4 : Hid _ := hk; obtain ⟨⟨a0, a1⟩, -⟩ := snap_cells A4.out; obtain ⟨⟨b0, b1⟩, -⟩ := snap_cells B4.out; have la := lt_of_heap A4.out; have lb' := lt_of_heap B4.out; clear hk ht H3 A3)
    | (go_at_call 9; refine (kLeast (H4.out.still ((Turned.refl _ _).alloc (snapObj 0 0))) (by omega) (by omega) (by omega) 1 (by decide)).mono ?_; rintro e w' ⟨rfl, hw⟩; obtain rfl := hw.symm)
    | (go_at_call 8; refine (cNow (H4.out.still ((Turned.refl _ _).alloc (snapObj 0 0))).at_.obj).mono ?_; rintro e w' ⟨rfl, hw⟩; obtain rfl := hw.symm)
    | (go_at_call 10; refine (kRel0 (H4.out.still ((Turned.refl _ _).alloc (snapObj 0 0)))).mono ?_; rintro e w5 ⟨rfl, hk, ht⟩; have A5 : Hid _ := (H4.out.still ((Turned.refl _ _).alloc (snapObj 0 0))).snap (k := 0) (by omega) ht (blk_old A4.out _); have B5 : Hid _ := (H4.out.still ((Turned.refl _ _).alloc (snapObj 0 0))).snap (k := 0) (by omega) ht (blk_old B4.out _); have H5 : Hid _ := hk; clear hk ht H4 A4 B4 a0 a1 b0 b1)
    | (go_at_call 10; refine (kRel1 H5.out).mono ?_; rintro e w6 ⟨rfl, hk, ht⟩; have A6 : Hid _ := H5.out.snap (k := 0) (by omega) ht A5.out; have B6 : Hid _ := H5.out.snap (k := 0) (by omega) ht B5.out; have H6 : Hid _ := hk; obtain ⟨⟨a0, a1⟩, -⟩ := snap_cells A6.out; obtain ⟨⟨b0, b1⟩, -⟩ := snap_cells B6.out; clear hk ht H5 A5 B5)
    | (go_at_call 9; refine (kLeast H6.out (by omega) (by omega) (by omega) 2 (by decide)).mono ?_; rintro e w' ⟨rfl, hw⟩; obtain rfl := hw.symm)
    | (go_at_call 7; refine (cHoldsIs H6.out.at_ 1 2 (by omega) (by decide) (by decide) (by omega)).mono ?_; rintro e w7 ⟨rfl, ht⟩; obtain ⟨⟨a0, a1⟩, -⟩ := snap_cells (ht.heap A6.out (by simp)); have H7 : Hid _ := H6.out.still ht; clear ht H6 A6 B6)
    | (go_at_call 7; refine (cHoldsNot H7.out.at_ 0 1 (by omega) (by decide) (by decide)).mono ?_; rintro e w8 ⟨rfl, ht⟩; have H8 : Hid _ := H7.out.still ht; clear ht H7))
  go_ret
  exact ⟨rfl, H8.out.turned⟩
end
end Go.Proofs.Ytibpgoiiohmeiaa
