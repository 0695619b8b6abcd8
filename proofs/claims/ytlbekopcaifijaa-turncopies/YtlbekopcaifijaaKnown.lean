/-
  The chapter's example comes out true; and which lists are small.
-/
import Derived.Test.YtlbekopcaifijaaPick
namespace Go.Proofs.Ytlbekopcaifijaa
open Go.RowKit
theorem pick_lit {W w : World} {B b g : Nat} {ts : List Int} {last : Int} (hO : Ord 39 w b g ts (last + 1)) (hB : Below B W w) (hb : B ≤ b) (hs : B ≤ w.heap.size) (cells : Array Value) (n : Nat) (f : Nat → Bool) (hn : n ≤ 3)
    (hc : ∀ j, j < n → cells[j]? = some (.bool (f j))) (p : Int) (ts' : List Int) (last' : Int)
    (h1 : pickV (rdyN f n) ts last = p) (h2 : tsAft (rdyN f n) ts = ts') (h3 : lastAft (rdyN f n) ts last = last') :
    Calls Try.prog 10 #[.pointer (some ⟨b, 0, none⟩), .slice (some ⟨w.heap.size, 0, none⟩) n n] (w.alloc (.cells cells 4)) fun e w' => e = .returned (.int .i64 p) ∧ Ord 39 w' b g ts' (last' + 1) ∧ Below B W w' ∧ B ≤ w'.heap.size := by
  subst h1 h2 h3
  refine (cPick (w.alloc (.cells cells 4)) b g ts last (hO.keepB ((Below.refl _ _).alloc (Nat.le_refl _) _)) _ n n f (.inr ⟨w.heap.size, 0, rfl, fun j u hu => ?_⟩) (by omega)).mono ?_
  · have hj : j < n := by have := (List.getElem?_eq_some_iff.1 hu).1; simpa [bools] using this
    rw [bools_at f hj] at hu; cases hu
    have := cell_of_row (w.alloc (.cells cells 4)) w.heap.size j cells 4 (0, 0) (heap_alloc_new w _)
    rw [Nat.zero_add, this]
    exact hc j hj
  · rintro e w' ⟨rfl, ho, hd⟩
    have hBw := ho.below (hB.alloc hs _) hb (by simp; omega)
    exact ⟨rfl, hd, hBw, by have := ho.size; simp at this; omega⟩
theorem bound3 {f : Nat → Bool} {cells : Array Value} (h0 : cells[0]? = some (.bool (f 0))) (h1 : cells[1]? = some (.bool (f 1))) (h2 : cells[2]? = some (.bool (f 2))) : ∀ j, j < 3 → cells[j]? = some (.bool (f j)) := by
  intro j hj
  have : j = 0 ∨ j = 1 ∨ j = 2 := by omega
  rcases this with rfl | rfl | rfl <;> assumption
def yes3 (_ : Nat) : Bool := true
def yny (i : Nat) : Bool := i != 1
def no1 (_ : Nat) : Bool := false
theorem start_vals (w : World) : Vals (w.alloc (.cells #[.int .i64 5, .int .i64 (-1)] 3)) (some ⟨w.heap.size, 0, none⟩) (ints [5, -1]) := by
  refine .inr ⟨_, _, rfl, fun j u hu => ?_⟩
  have := cell_of_row (w.alloc (.cells #[.int .i64 5, .int .i64 (-1)] 3)) w.heap.size j _ 3 (0, 0) (heap_alloc_new w _)
  rw [Nat.zero_add, this, ← hu]
  simp [ints]
theorem new_lit (w : World) : Calls Try.prog 8 #[.slice (some ⟨w.heap.size, 0, none⟩) 2 2] (w.alloc (.cells #[.int .i64 5, .int .i64 (-1)] 3)) fun e w0 => ∃ b g, e = .returned (.pointer (some ⟨b, 0, none⟩)) ∧ w.heap.size ≤ b ∧ Ord 39 w0 b g [5, -1] (-1 + 1) ∧ Below w.heap.size w w0 ∧ w.heap.size ≤ w0.heap.size := by
  refine (cNew _ (some ⟨w.heap.size, 0, none⟩) 2 [5, -1] (start_vals w) (fun e => by cases e) (by decide)).mono ?_
  rintro e w0 ⟨b, g, rfl, hb, hg, hO0, hB0⟩
  have hs := hB0.size
  simp only [World.size_alloc] at hs hb
  exact ⟨b, g, rfl, by omega, hO0, ((Below.refl _ _).alloc (Nat.le_refl _) _).trans (hB0.mono (by simp)), by omega⟩
set_option maxHeartbeats 1600000 in
theorem cKnown (w : World) : Calls Try.prog 6 #[] w fun e w' => e = .returned (.bool true) ∧ Below w.heap.size w w' := by
  go_enter Try.func6, Try.ntmps6
  go_wp2_with (first
    | (go_at_call 8; refine (new_lit w).mono ?_; rintro e w0 ⟨b, g, rfl, hb', hO0, hB0', hs0'⟩)
    | (go_at_call 10; refine (pick_lit (last := -1) hO0 hB0' hb' hs0' _ 3 yes3 (by decide) (bound3 rfl rfl rfl) 2 [-1] 2 (by decide) (by decide) (by decide)).mono ?_; rintro e w1 ⟨rfl, hO1, hB1, hs1⟩; clear hO0 hB0')
    | (go_at_call 10; refine (pick_lit (last := 2) hO1 hB1 hb' hs1 _ 3 yny (by decide) (bound3 rfl rfl rfl) 2 [] 2 (by decide) (by decide) (by decide)).mono ?_; rintro e w2 ⟨rfl, hO2, hB2, hs2⟩; clear hO1 hB1)
    | (go_at_call 10; refine (pick_lit (last := 2) hO2 hB2 hb' hs2 _ 3 yes3 (by decide) (bound3 rfl rfl rfl) 0 [] 0 (by decide) (by decide) (by decide)).mono ?_; rintro e w3 ⟨rfl, hO3, hB3, hs3⟩; clear hO2 hB2)
    | (go_at_call 10; refine (pick_lit (last := 0) hO3 hB3 hb' hs3 _ 3 yes3 (by decide) (bound3 rfl rfl rfl) 1 [] 1 (by decide) (by decide) (by decide)).mono ?_; rintro e w4 ⟨rfl, hO4, hB4, hs4⟩; clear hO3 hB3)
    | (go_at_call 10; refine (pick_lit (last := 1) hO4 hB4 hb' hs4 _ 1 no1 (by decide) (fun j hj => by obtain rfl : j = 0 := (by omega); rfl) (-1) [] 1 (by decide) (by decide) (by decide)).mono ?_; rintro e w5 ⟨rfl, hO5, hB5, hs5⟩; clear hO4 hB4)
    | (go_at_call 10; refine (pick_lit (last := 1) hO5 hB5 hb' hs5 _ 3 yes3 (by decide) (bound3 rfl rfl rfl) 2 [] 2 (by decide) (by decide) (by decide)).mono ?_; rintro e w6 ⟨rfl, hO6, hB6, hs6⟩; clear hO5 hB5)
    | (go_at_call 12; refine (cLeft w0 b g [5, -1] _ hO0).mono ?_; rintro e w' ⟨rfl, rfl⟩)
    | (go_at_call 12; refine (cLeft w2 b g [] _ hO2).mono ?_; rintro e w' ⟨rfl, rfl⟩))
  go_ret
  exact ⟨rfl, hB6⟩
end Go.Proofs.Ytlbekopcaifijaa
