/- Package clock, alone: New by contract. -/
import Derived.Test.YtibpgoiiohmeiaaClkC
import Derived.OwnWalk
namespace Go.Proofs.Ytibpgoiiohmeiaa
open Go.RowKit
def leasePtrs (E : Nat → Nat) (k : Nat) : List Value := (List.range k).map fun j => Value.pointer (some ⟨E j, 0, none⟩)
theorem leasePtrs_len (E : Nat → Nat) (k : Nat) : (leasePtrs E k).length = k := by simp [leasePtrs]
theorem leasePtrs_next (E : Nat → Nat) (k g : Nat) : leasePtrs (upd E k g) (k + 1) = leasePtrs E k ++ [.pointer (some ⟨g, 0, none⟩)] := by
  unfold leasePtrs
  rw [List.range_succ, List.map_append]
  congr 1
  · apply List.map_congr_left
    intro j hj
    rw [upd_other _ _ (by have := List.mem_range.1 hj; omega)]
  · simp [upd_same]
/-- What New has laid when k leases are there. -/
structure ClkNew (W w : World) (k : Nat) (E : Nat → Nat) (v : Value) : Prop where
  turned : Turned [] W w
  obj : w.heap[W.heap.size]? = some (clockObj 1 v)
  own : w.ownsRow W.heap.size 46 1 v k (leasePtrs E k)
  lease : ∀ j, j < k → w.heap[E j]? = some (leaseObj 0)
  low : ∀ j, j < k → W.heap.size < E j
  mono : ∀ i j, i < j → j < k → E i < E j
theorem own_type {w : World} {B : Nat} {e : TypeId} {z : Nat} {v : Value} {n : Nat} {xs : List Value} (h : w.ownsRow B e z v n xs) {g : Nat} (hg : v.ownBlock = some g) : ∃ cur, w.heap[g]? = some (.cells cur e (0, 0)) := by
  rcases h.2 with ⟨rfl, _⟩ | ⟨g', c, cur, rfl, _, hh, _⟩
  · cases hg
  · cases hg; exact ⟨cur, hh⟩
theorem ClkNew.step {W w w' : World} {k : Nat} {E : Nat → Nat} {v v' : Value} (H : ClkNew W w k E v)
    (hg : Grew ((w.alloc (leaseObj 0)).alloc (.cells #[.pointer (some ⟨w.heap.size, 0, none⟩)] 46 (0, 0))) w' v v')
    (ho : w'.ownsRow W.heap.size 46 1 v' (k + 1) (leasePtrs E k ++ [.pointer (some ⟨w.heap.size, 0, none⟩)])) :
    w'.heap[W.heap.size]? = some (clockObj 1 v) ∧ ClkNew W (w'.setCell ⟨W.heap.size, 1, none⟩ v') (k + 1) (upd E k w.heap.size) v' := by
  have hW := H.turned.size
  have hWlt := lt_of_heap H.obj
  have g1 : w'.heap[W.heap.size]? = some (clockObj 1 v) := by
    refine (hg.1.block _ (by simp; omega) ?_).trans (blk_old (blk_old H.obj _) _)
    intro e
    obtain ⟨cur, hc⟩ := own_type H.own e.symm
    rw [H.obj] at hc
    simp at hc
  have g2 : ∀ j, j < k → w'.heap[E j]? = some (leaseObj 0) := fun j hj => by
    have hl := lt_of_heap (H.lease j hj)
    refine (hg.1.block _ (by simp; omega) ?_).trans (blk_old (blk_old (H.lease j hj) _) _)
    intro e
    obtain ⟨cur, hc⟩ := own_type H.own e.symm
    rw [H.lease j hj] at hc
    simp at hc
  have g3 : w'.heap[w.heap.size]? = some (leaseObj 0) := by
    refine (hg.1.block _ (by simp; omega) ?_).trans (blk_old (blk_new w _) _)
    intro e
    have := (H.own.lt _ e.symm).2
    omega
  have hvW : ∀ g, v'.ownBlock = some g → g ≠ W.heap.size := fun g hv e => by
    obtain ⟨cur, hc⟩ := own_type ho hv
    rw [e, g1] at hc
    simp at hc
  refine ⟨g1, ?_, blk_set g1 1 v', ?_, fun j hj => ?_, fun j hj => ?_, fun i j hij hj => ?_⟩
  · have hsz : W.heap.size ≤ w'.heap.size := by have := hg.1.size; simp at this; omega
    have ht : Turned [] W w' := by
      refine ⟨hg.1.os.trans H.turned.os, hg.1.tape.trans H.turned.tape, hg.1.output.trans H.turned.output, hsz, fun j hj _ => ?_⟩
      refine (hg.1.block j (by simp; omega) ?_).trans ((Below.heap_alloc _ _ _ (by simp; omega)).trans ((Below.heap_alloc _ _ _ (by omega)).trans (H.turned.block j hj (by simp))))
      intro e
      have := (H.own.lt _ e.symm).1
      omega
    exact ht.set (.inr (Nat.le_refl _)) _ _
  · rw [leasePtrs_next]
    refine ho.kept (row := some W.heap.size) ⟨rfl, rfl, rfl, by simp [World.setCell], fun j _ hn => Below.heap_setCell _ _ _ _ (fun e => hn (by rw [e]))⟩ ?_
    cases hv : v'.ownBlock with
    | none => exact .inl rfl
    | some g => exact .inr fun e => hvW g hv (by simpa using e)
  · by_cases e : j = k
    · subst e; rw [upd_same]; exact (blk_other (by omega) _ _).trans g3
    · rw [upd_other _ _ e]; exact (blk_other (by have := H.low j (by omega); omega) _ _).trans (g2 j (by omega))
  · by_cases e : j = k
    · subst e; rw [upd_same]; exact hWlt
    · rw [upd_other _ _ e]; exact H.low j (by omega)
  · rw [upd_other _ _ (by omega : i ≠ k)]
    by_cases e : j = k
    · subst e; rw [upd_same]; exact lt_of_heap (H.lease i (by omega))
    · rw [upd_other _ _ e]; exact H.mono i j hij (by omega)
theorem ClkNew.done {W w : World} {n : Nat} {E : Nat → Nat} {v : Value} (H : ClkNew W w n E v) (hn : 1 ≤ n) : ∃ lb cap, ClockAt w W.heap.size lb n cap E 1 (fun _ => 0) ∧ Turned [] W w ∧ W.heap.size ≤ lb ∧ ∀ k, k < n → W.heap.size ≤ E k := by
  have hobj := H.obj
  have hown := H.own
  rcases H.own.2 with ⟨_, h0⟩ | ⟨g, c, cur, rfl, hB, hh, hnc, hcm, hcs, htk⟩
  · omega
  refine ⟨g, c, ⟨hobj, ⟨cur, hh, fun k hk => ?_⟩, H.lease, fun i j hi hj e => ?_⟩, H.turned, hB, fun k hk => by have := H.low k hk; omega⟩
  · have h1 := hown.cellAt k (by omega)
    rw [cell_at hh] at h1
    rw [h1]
    simp [leasePtrs, hk]
  · rcases Nat.lt_trichotomy i j with h | h | h
    · have := H.mono i j h hj; omega
    · exact h
    · have := H.mono j i h hi; omega
theorem cNewBad {w : World} (n : Int) (h : n < 1 ∨ 64 < n) :
    Calls Try.prog 5 #[.int .i64 n] w fun e w' => e = .returned (.tuple #[.pointer none, .int .i64 131]) ∧ w' = w := by
  rcases (by omega : n < 1 ∨ (1 ≤ n ∧ 64 < n)) with h | ⟨h1, h⟩
  · go_enter Try.func5, Try.ntmps5
    go_wp2
    go_ret2
    exact ⟨rfl, rfl⟩
  · have d1 : decide (n < 1) = false := decide_eq_false (by omega)
    go_enter Try.func5, Try.ntmps5
    go_wp2
    go_ret2
    exact ⟨rfl, rfl⟩
theorem infoLease : (Try.prog.info? 46).map (fun i => (i.zero, i.size, i.bytes)) = some (some (.pointer none), 1, 8) := by kernel_rfl
theorem undLeases : Try.prog.underlying 42 = some (.slice 46) := by kernel_rfl
theorem own_form {w : World} {B : Nat} {e : TypeId} {z : Nat} {v : Value} {n : Nat} {xs : List Value} (h : w.ownsRow B e z v n xs) : ∃ a c, v = .slice a n c := by
  rcases h.2 with ⟨rfl, h0⟩ | ⟨g, c, cs, rfl, _⟩
  · exact ⟨none, 0, by rw [h0]⟩
  · exact ⟨_, _, rfl⟩
set_option maxRecDepth 100000 in
set_option maxHeartbeats 1600000 in
theorem cNewClk (w : World) (n : Nat) (h1 : 1 ≤ n) (h2 : n ≤ 64) :
    Calls Try.prog 5 #[.int .i64 n] w fun e w' => e = .returned (.tuple #[.pointer (some ⟨w.heap.size, 0, none⟩), .int .i64 0]) ∧ ∃ lb cap E, ClockAt w' w.heap.size lb n cap E 1 (fun _ => 0) ∧ Turned [] w w' ∧ w.heap.size ≤ lb ∧ ∀ k, k < n → w.heap.size ≤ E k := by
  have d1 : decide ((n : Int) < 1) = false := decide_eq_false (by omega)
  have d2 : decide (64 < (n : Int)) = false := decide_eq_false (by omega)
  have H0 : Hid (ClkNew w (w.alloc (clockObj 1 (.slice none 0 0))) 0 (fun _ => 0) (.slice none 0 0)) :=
    ⟨(Turned.refl _ _).alloc _, blk_new w _, World.ownsRow_nil _ _ _ _, by omega, by omega, by omega⟩
  go_enter Try.func5, Try.ntmps5
  go_wp2_with (go_at_call 12; refine (cAStoreE ⟨0, by go_simp⟩ (by go_simp)).mono ?_; rintro e w' ⟨rfl, hw⟩; obtain rfl := hw.symm)
  go_loopw [18] (fun i wx => ∃ k : Nat, k ≤ n ∧ i = .int .i64 k ∧ ∃ E v, Hid (ClkNew w wx k E v)) (fun i _ => n - (intOf i).toNat)
  case atStart => exact ⟨0, Nat.zero_le _, rfl, _, _, H0⟩
  case round =>
    obtain ⟨k, hk, rfl, E, v, HT⟩ := hrel
    clear H0
    obtain ⟨va, vc, rfl⟩ := own_form HT.out.own
    have ch := cell_at HT.out.obj 1
    simp at ch
    have hWlt := lt_of_heap HT.out.obj
    by_cases hkn : k < n
    · go_wp2_with (at_builtin; refine wpList_push rfl (.tmp 24) (.tmp 26) 42 rfl w.heap.size 46 (.pointer none) 8 undLeases infoLease rfl _ k (leasePtrs E k) rfl ((HT.out.own.alloc _).alloc _) _ 1 (.pointer (some ⟨wr.heap.size, 0, none⟩)) rfl (by go_simp) rfl (by unfold maxLen; omega) (by omega) (by have := HT.out.turned.size; simp; omega) ?_; intro v' w' ho hg; obtain ⟨va2, vc2, rfl⟩ := own_form ho; obtain ⟨g1, g2⟩ := HT.out.step hg ho; have cc := cell_at g1 1; simp at cc; have zz := froz_at g1 1; have HG : Hid _ := g2; clear g2 hg ho g1)
      exact ⟨⟨k + 1, by omega, by go_num, _, _, HG⟩, by simp [intOf]; omega⟩
    · have e : k = n := by omega
      subst e
      go_wp2
      go_ret2
      exact ⟨rfl, _, _, _, (HT.out.done h1).choose_spec.choose_spec⟩
end Go.Proofs.Ytibpgoiiohmeiaa
