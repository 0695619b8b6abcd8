/- New of a room, and the law PostNames. -/
import Derived.Test.YtheofdkjjhbkiaaTake
namespace Go.Proofs.Ytheofdkjjhbkiaa
open Go.RowKit Go.Conc Go.MuLone

theorem bytes3 : ∃ i, Try.prog.info? 3 = some i ∧ i.bytes = 8 := by
  have h : (Try.prog.info? 3).map (·.bytes) = some 8 := by kernel_rfl
  obtain ⟨i, hi, hb⟩ := Option.map_eq_some_iff.1 h
  exact ⟨i, hi, hb⟩
theorem mk2 (w : World) : (Instr.makeChan 55 (.int .i64 2)).run Try.prog w = .ok (.chan (some w.heap.size)) (w.alloc (.chan 2 #[] false 0 0 false)) := by
  obtain ⟨i, hi, hb⟩ := bytes3
  simpa using run_makeChan (P := Try.prog) (w := w) Try.underlying55 hi .i64 2 (by omega) (by rw [hb]; omega)

theorem box_new (w : World) (cap : Nat) : Box ((w.alloc (.chan cap #[] false 0 0 false)).alloc (.cells #[.int .i32 0, .int .u32 0, .chan (some w.heap.size), .bool false, .int .i64 0] 61)) 0 (w.heap.size + 1) w.heap.size cap #[] false 0 0 0 := by
  have e : w.heap.size + 1 = (w.alloc (.chan cap #[] false 0 0 false)).heap.size := by simp
  refine ⟨by omega, ?_, ?_, ?_, ?_, ?_, ?_, ?_⟩
  · rw [e, World.cell?_alloc_new]; rfl
  · rw [e, World.cell?_alloc_new]; rfl
  · rw [e, World.cell?_alloc_new]; rfl
  · rw [e, World.cell?_alloc_new]; rfl
  · rw [e, frozen?_alloc_cells]; unfold World.frozen?; rw [Array.getElem?_eq_none (by simp)]
  · rw [e, frozen?_alloc_cells]; unfold World.frozen?; rw [Array.getElem?_eq_none (by simp)]
  · rw [Below.heap_alloc _ _ _ (by simp)]; exact heap_alloc_new w _

set_option maxHeartbeats 400000 in
theorem cNew (w : World) : Calls Try.prog 5 #[.int .i64 2] w fun e w' => ∃ b c, e = .returned (.tuple #[.pointer (some ⟨b, 0, none⟩), .int .i64 0]) ∧ Box w' 0 b c 2 #[] false 0 0 0 ∧ Below w.heap.size w w' ∧ w.heap.size ≤ b ∧ w.heap.size ≤ c := by
  have hmc := mk2
  have hnot : ∀ (x : Bool) (w : World), (Op.unary .not (.bool x)).run Try.prog w = .ok (.bool (!x)) w := fun _ _ => rfl
  go_enter Try.func5, Try.ntmps5
  go_wp2
  go_ret2
  exact ⟨_, _, rfl, box_new w 2, ((Below.refl _ w).alloc (Nat.le_refl _) _).alloc (by simp) _, by omega, by omega⟩

set_option maxHeartbeats 400000 in
theorem postNames (w : World) : Calls Try.prog 3 #[] w fun e w' => e = .returned (.bool true) ∧ Below w.heap.size w w' := by
  go_enter Try.func3, Try.ntmps3
  go_wp2_with (go_at_call 5; refine (cNew _).mono ?_; rintro e w1 ⟨b, c, rfl, hB1, hb1, hb, hc⟩)
  refine (cTakeNone hB1).mono ?_
  rintro e w2 ⟨rfl, hB2, k2⟩
  have hb2 := k2 _ _ hb hc hb1
  clear hB1 k2 hb1
  go_wp2_with (fail)
  refine (cSend hB2 (by simp)).mono ?_
  rintro e w3 ⟨rfl, hB3, k3⟩
  have hb3 := k3 _ _ hb hc hb2
  clear hB2 k3 hb2
  go_wp2_with (fail)
  refine (cLen hB3).mono ?_
  rintro e w4 ⟨rfl, hB4, k4⟩
  have hb4 := k4 _ _ hb hc hb3
  clear hB3 k4 hb3
  go_wp2_with (fail)
  refine (cTakeSome hB4).mono ?_
  rintro e w5 ⟨rfl, hB5, k5⟩
  have hb5 := k5 _ _ hb hc hb4
  clear hB4 k5 hb4
  go_wp2
  go_ret
  exact ⟨rfl, hb5⟩
end Go.Proofs.Ytheofdkjjhbkiaa
