/-
  What the program's Pick answers and does: the document's pick.
-/
import Derived.Test.YtlbekopcaifijaaChoose
namespace Go.Proofs.Ytlbekopcaifijaa
open Go.RowKit
theorem room_made (w : World) (n : Nat) : Room (w.alloc (.cells (madeCells #[.int .i64 0] n) 3)) w.heap.size 3 n [] :=
  ⟨_, World.rowIs_made w (.int .i64 0) n 3, fun j h => absurd h (by simp)⟩
theorem room_few (w : World) (t : TypeId) : Room (w.alloc (.cells #[.int .i64 0, .int .i64 0, .int .i64 0, .int .i64 0, .int .i64 0, .int .i64 0, .int .i64 0, .int .i64 0] t)) w.heap.size t 8 [] :=
  ⟨fun _ => .int .i64 0, World.rowIs_alloc w _ t _ (fun i hi => by
    have : i = 0 ∨ i = 1 ∨ i = 2 ∨ i = 3 ∨ i = 4 ∨ i = 5 ∨ i = 6 ∨ i = 7 := by simp at hi; omega
    rcases this with rfl | rfl | rfl | rfl | rfl | rfl | rfl | rfl <;> rfl), fun j h => absurd h (by simp)⟩
/-- From the caller's world to the room's: what gather asks, and what it leaves, told over the caller's. -/
theorem pick_way {w w0 : World} {b g r m mc n : Nat} {t : TypeId} {ts : List Int} {last : Int} {ao : Option Addr} {cap : Nat} {B : Nat → Bool} (h : Ord 39 w b g ts (last + 1)) (hv : Vals w ao (bools B n)) (h0 : Below w.heap.size w w0)
    (hr : w.heap.size ≤ r) (hR : Room w0 r t m []) (hm : n ≤ m) (hmc : m ≤ mc) (hn : mc ≤ 140737488355328) :
    Calls Try.prog 18 #[.slice ao n cap, .slice (some ⟨r, 0, none⟩) m mc] w0 fun e w1 => e = .returned (.slice (some ⟨r, 0, none⟩) (rdyN B n).length mc) ∧
      Calls Try.prog 17 #[.pointer (some ⟨b, 0, none⟩), .slice (some ⟨r, 0, none⟩) (rdyN B n).length mc] w1 fun e w' => e = .returned (.int .i64 (pickV (rdyN B n) ts last)) ∧ Only b w w' ∧ Ord 39 w' b g (tsAft (rdyN B n) ts) (lastAft (rdyN B n) ts last + 1) := by
  have hbl := h.lt
  have hl := rdy_len B n
  refine (cGather w0 ao n cap B r m mc t (hv.keepB h0) (fun hn b off e => ?_) hR hm hmc hn).mono ?_
  · obtain ⟨p, q, e', hc⟩ := hv.bool hn
    rw [e'] at e; cases e
    have := World.block_lt_of_cell? w _ (hc 0 hn)
    simp only at this
    omega
  · rintro e w1 ⟨rfl, hO, hR1⟩
    refine ⟨rfl, ?_⟩
    have hO1 : Ord 39 w1 b g ts (last + 1) := h.keepB (hO.below h0 hr h0.size)
    refine (cStep w1 b g ts last hO1 r mc (rdyN B n) (by omega) (by omega) (fun x hx => by have := (rdy_mem.1 hx).1; omega) (hR1.cell (by omega))).mono ?_
    rintro e w' ⟨rfl, h1, h2⟩
    exact ⟨rfl, ((Only.of h0).inner hO hr).trans h1, h2⟩
set_option maxHeartbeats 800000 in
theorem cPick (w : World) (b g : Nat) (ts : List Int) (last : Int) (h : Ord 39 w b g ts (last + 1)) (ao : Option Addr) (n cap : Nat) (B : Nat → Bool) (hv : Vals w ao (bools B n)) (hn : n ≤ 17592186044416) :
    Calls Try.prog 10 #[.pointer (some ⟨b, 0, none⟩), .slice ao n cap] w fun e w' => e = .returned (.int .i64 (pickV (rdyN B n) ts last)) ∧ Only b w w' ∧ Ord 39 w' b g (tsAft (rdyN B n) ts) (lastAft (rdyN B n) ts last + 1) := by
  by_cases h8 : n ≤ 8
  · have hd : decide (8 < n) = false := decide_eq_false (by omega)
    have HW := pick_way (cap := cap) h hv ((Below.refl w.heap.size w).alloc (Nat.le_refl _) _) (Nat.le_refl _) (room_few w 42) h8 (Nat.le_refl _) (by omega)
    clear h hv
    go_enter Try.func10, Try.ntmps10
    go_wp2_with (first
      | (go_at_call 18; refine HW.mono ?_; rintro e w1 ⟨rfl, HS⟩)
      | (go_at_call 17; refine HS.mono ?_; rintro e w2 ⟨rfl, hO, hd⟩))
    go_ret
    exact ⟨rfl, hO, hd⟩
  · have hmk := run_make_row' (P := Try.prog) 22 3 (.int .i64 0) 8 Try.underlying22 Try.info3 rfl .i64 .i64 n (by omega) (by omega)
    have HW := fun o : Obj => pick_way (w0 := (w.alloc o).alloc (.cells (madeCells #[.int .i64 0] n) 3)) (r := w.heap.size + 1) (m := n) (mc := n) (t := 3) (cap := cap) h hv (((Below.refl w.heap.size w).alloc (Nat.le_refl _) _).alloc (by simp) _) (by omega) (by have := room_made (w.alloc o) n; simpa using this) (Nat.le_refl _) (Nat.le_refl _) (by omega)
    clear h hv
    go_enter Try.func10, Try.ntmps10
    go_wp2_with (first
      | (go_at_call 18; refine (HW _).mono ?_; rintro e w1 ⟨rfl, HS⟩)
      | (go_at_call 17; refine HS.mono ?_; rintro e w2 ⟨rfl, hO, hd⟩))
    go_ret
    exact ⟨rfl, hO, hd⟩
end Go.Proofs.Ytlbekopcaifijaa
