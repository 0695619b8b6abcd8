/-
  What fresh and the two News make: orders in new memory; nothing that was there turns.
-/
import Derived.Test.YtlbekopcaifijaaWorld
namespace Go.Proofs.Ytlbekopcaifijaa
open Go.RowKit
set_option maxHeartbeats 400000 in
theorem cFresh (w : World) (ao : Option Addr) (cap : Nat) (ts : List Int) (hv : Vals w ao (ints ts)) (hc : ao = none → cap = 0) (hn : ts.length * 8 ≤ 140737488355328) :
    Calls Try.prog 16 #[.slice ao ts.length cap] w fun e w' => ∃ v, e = .returned v ∧ Fresh 3 w w' v (ints ts) := by
  go_enter Try.func16, Try.ntmps16
  go_wp2_with (at_builtin; refine wpList_fresh rfl _ _ 22 rfl 3 (.int .i64 0) 8 Try.underlying22 Try.info3 rfl ao ts.length cap (ints ts) rfl rfl (ints_len ts) hc hv (ints_one ts) (by unfold maxLen; omega) hn ?_; intro v' w' hF)
  obtain ⟨ao', cap', hv', -⟩ := hF.vals
  subst hv'
  go_ret
  exact ⟨_, rfl, hF⟩
theorem ord_made {T : TypeId} {w w' : World} {v : Value} {ts : List Int} (h : Fresh 3 w w' v (ints ts)) (x : Int) : ∃ g, (ts ≠ [] → w.heap.size ≤ g ∧ g < w'.heap.size) ∧ Ord T (w'.alloc (.cells #[v, .int .i64 x] T)) w'.heap.size g ts x := by
  have hb := h.below
  have hsz := hb.size
  obtain ⟨ao, cap, g, N, f, rfl, h1, h2, h3, h4⟩ := h.row
  rw [ints_len] at h1
  have hbx : (w'.alloc (.cells #[.slice ao (ints ts).length cap, .int .i64 x] T)).heap[w'.heap.size]? = some (.cells #[.slice ao ts.length cap, .int .i64 x] T (0, 0)) := by
    rw [ints_len]; exact heap_alloc_new w' _
  rcases h4 with ⟨rfl, rfl, h5⟩ | ⟨rfl, h5, h6, h7⟩
  · have hts : ts = [] := by simpa [ints] using h5
    exact ⟨0, fun h => absurd hts h, fun h => absurd hts h, by simp, none, 0, hbx, h1, h2, fun _ => rfl, (fun h => absurd hts h), .inl h5⟩
  · have hg := h5.lt
    refine ⟨g, fun _ => ⟨h3, hg⟩, fun _ => by omega, by simp, some ⟨g, 0, none⟩, cap, hbx, h1, h2, (fun e => by cases e), (fun _ _ _ e => by cases e; rfl), .inr ⟨g, 0, rfl, fun j u hu => ?_⟩⟩
    have hj : j < (ints ts).length := (List.getElem?_eq_some_iff.1 hu).1
    have := (h5.alloc (.cells #[.slice (some ⟨g, 0, none⟩) (ints ts).length cap, .int .i64 x] T)).cell (i := j) (by omega)
    rw [h7 j u hu] at this
    simpa using this
set_option maxHeartbeats 400000 in
theorem cNew (w : World) (ao : Option Addr) (cap : Nat) (ts : List Int) (hv : Vals w ao (ints ts)) (hc : ao = none → cap = 0) (hn : ts.length * 8 ≤ 140737488355328) :
    Calls Try.prog 8 #[.slice ao ts.length cap] w fun e w' => ∃ b g, e = .returned (.pointer (some ⟨b, 0, none⟩)) ∧ w.heap.size ≤ b ∧ (ts ≠ [] → w.heap.size ≤ g ∧ g < b) ∧ Ord 39 w' b g ts 0 ∧ Below w.heap.size w w' := by
  go_enter Try.func8, Try.ntmps8
  go_wp2_with (go_at_call 16; refine (cFresh w ao cap ts hv hc hn).mono ?_; rintro e w1 ⟨v, rfl, hF⟩; obtain ⟨ao', cap', hv', -⟩ := hF.vals; subst hv')
  obtain ⟨g, hg, hO⟩ := ord_made (T := 39) hF 0
  have hb := hF.below
  have hs := hb.size
  clear hF
  go_ret
  exact ⟨_, g, rfl, hs, hg, hO, hb.alloc hs _⟩
set_option maxHeartbeats 400000 in
theorem cNewR (w : World) (ao : Option Addr) (cap : Nat) (ts : List Int) (hv : Vals w ao (ints ts)) (hc : ao = none → cap = 0) (hn : ts.length * 8 ≤ 140737488355328) :
    Calls Try.prog 9 #[.slice ao ts.length cap] w fun e w' => ∃ b g, e = .returned (.pointer (some ⟨b, 0, none⟩)) ∧ w.heap.size ≤ b ∧ (ts ≠ [] → w.heap.size ≤ g ∧ g < b) ∧ Ord 41 w' b g ts (-1) ∧ Below w.heap.size w w' := by
  go_enter Try.func9, Try.ntmps9
  go_wp2_with (at_builtin; refine wpList_fresh rfl _ _ 22 rfl 3 (.int .i64 0) 8 Try.underlying22 Try.info3 rfl ao ts.length cap (ints ts) rfl rfl (ints_len ts) hc hv (ints_one ts) (by unfold maxLen; omega) hn ?_; intro v' w' hF; obtain ⟨ao', cap', hv', -⟩ := hF.vals; subst hv')
  obtain ⟨g, hg, hO⟩ := ord_made (T := 41) hF (-1)
  have hb := hF.below
  have hs := hb.size
  clear hF
  go_ret
  exact ⟨_, g, rfl, hs, hg, hO, hb.alloc hs _⟩
end Go.Proofs.Ytlbekopcaifijaa
