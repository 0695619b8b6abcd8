/- Package pool's New, by contract. -/
import Derived.Test.YtfebndolnnaiiabPoolCalls
import Derived.Test.YtfebndolnnaiiabPileNew
namespace Go.Proofs.Ytfebndolnnaiiab
open Go.RowKit
theorem infoPtr : (Try.prog.info? 70).map (fun i => (i.zero, i.size, i.bytes)) = some (some (.agg #[.pointer none]), 1, 8) := by kernel_rfl
theorem undPtrs : Try.prog.underlying 56 = some (.slice 70) := by kernel_rfl
theorem run_makePtrs (n : Nat) (h : n ≤ 1000000) (w : World) :
    (Instr.makeSlice 56 (.int .i64 (n + 1)) (.int .i64 (n + 1))).run Try.prog w = .ok (.slice (some ⟨w.heap.size, 0, none⟩) (n + 1) (n + 1)) (w.alloc (.cells (madeCells #[.pointer none] (n + 1)) 70)) := by
  obtain ⟨i, hi, hzz⟩ := Option.map_eq_some_iff.1 infoPtr
  simp only [Prod.mk.injEq] at hzz
  obtain ⟨hz, hs, hb⟩ := hzz
  have hr := run_make (P := Try.prog) w 56 70 i _ undPtrs hi hz .i64 .i64 ((n + 1 : Nat) : Int) ((n + 1 : Nat) : Int) (by omega) (Int.le_refl _) (by rw [hb]; omega) (by omega)
  simp only [Int.toNat_natCast, hs, Nat.mul_one] at hr
  exact hr
/-- The first k lead to b. -/
def ptrTab (b k j : Nat) : Value := if j < k then .pointer (some ⟨b, 0, none⟩) else .pointer none
abbrev tabObj (b k n : Nat) : Obj := .cells ((List.range (n + 1)).map (ptrTab b k)).toArray 70 (0, 0)
theorem made_tab (b n : Nat) : (.cells (madeCells #[.pointer none] (n + 1)) 70 : Obj) = tabObj b 0 n := by
  unfold tabObj
  congr 1
  apply Array.ext
  · simp [madeCells]
  · intro i h1 h2
    simp [madeCells, ptrTab, Nat.mod_one]
theorem tab_cell {w : World} {sb b k n : Nat} (h : w.heap[sb]? = some (tabObj b k n)) {j : Nat} (hj : j ≤ n) : w.cell? ⟨sb, j, none⟩ = some (ptrTab b k j) := by
  rw [cell_at h, List.getElem?_toArray, List.getElem?_map, List.getElem?_range (by omega)]; rfl
theorem tab_put {w : World} {sb b k n : Nat} (h : w.heap[sb]? = some (tabObj b k n)) : (w.setCell ⟨sb, k, none⟩ (.pointer (some ⟨b, 0, none⟩))).heap[sb]? = some (tabObj b (k + 1) n) := by
  rw [blk_set h]
  congr 2
  apply Array.ext
  · simp
  · intro i h1 h2
    simp only [List.size_toArray, List.length_map, List.length_range] at h2
    by_cases e : i = k
    · subst e; simp [ptrTab]
    · have e' : ¬ k = i := fun x => e x.symm
      have : (i < k + 1) = (i < k) := propext ⟨fun h => by omega, fun h => by omega⟩
      simp [ptrTab, e', this]
structure PNewing (W w : World) (n k : Nat) : Prop where
  turned : Turned [] W w
  head : w.heap[W.heap.size + 1]? = some (pileObj 1099511627776 W.heap.size n)
  next : w.heap[W.heap.size]? = some (nextObj (fNew n) n)
  slots : w.heap[W.heap.size + 2]? = some (tabObj (W.heap.size + 4) k n)
  pool : w.heap[W.heap.size + 3]? = some (poolObj (W.heap.size + 2) (W.heap.size + 1) n 0)
  life : w.heap[W.heap.size + 4]? = some (lifeObj ⟨0, 0, 0, 0, 0, 0, 0⟩)
theorem PNewing.put {W w : World} {n k : Nat} (H : PNewing W w n k) : PNewing W (w.setCell ⟨W.heap.size + 2, k, none⟩ (.pointer (some ⟨W.heap.size + 4, 0, none⟩))) n (k + 1) :=
  ⟨H.turned.set (.inr (by omega)) _ _, (blk_other (by omega) _ _).trans H.head, (blk_other (by omega) _ _).trans H.next, tab_put H.slots, (blk_other (by omega) _ _).trans H.pool, (blk_other (by omega) _ _).trans H.life⟩
theorem PNewing.start {W w2 : World} {n : Nat} (hN : Newing W w2 n n (1099511627776 + 0)) : PNewing W (((w2.alloc (.cells (madeCells #[.pointer none] (n + 1)) 70)).alloc (poolObj (W.heap.size + 2) (W.heap.size + 1) n 0)).alloc (lifeObj ⟨0, 0, 0, 0, 0, 0, 0⟩)) n 0 := by
  have hsz := hN.size
  have e3 : (w2.alloc (.cells (madeCells #[.pointer none] (n + 1)) 70)).heap.size = W.heap.size + 3 := by simp [hsz]
  have e4 : ((w2.alloc (.cells (madeCells #[.pointer none] (n + 1)) 70)).alloc (poolObj (W.heap.size + 2) (W.heap.size + 1) n 0)).heap.size = W.heap.size + 4 := by simp [hsz]
  refine ⟨((hN.turned.alloc _).alloc _).alloc _, blk_old (blk_old (blk_old hN.head _) _) _, blk_old (blk_old (blk_old hN.next _) _) _, ?_, ?_, ?_⟩
  · have := blk_new w2 (.cells (madeCells #[.pointer none] (n + 1)) 70)
    rw [hsz] at this
    exact (blk_old (blk_old this _) _).trans (congrArg some (made_tab _ n))
  · have := blk_new (w2.alloc (.cells (madeCells #[.pointer none] (n + 1)) 70)) (poolObj (W.heap.size + 2) (W.heap.size + 1) n 0)
    rw [e3] at this
    exact blk_old this _
  · have := blk_new ((w2.alloc (.cells (madeCells #[.pointer none] (n + 1)) 70)).alloc (poolObj (W.heap.size + 2) (W.heap.size + 1) n 0)) (lifeObj ⟨0, 0, 0, 0, 0, 0, 0⟩)
    rwa [e4] at this
theorem PNewing.end_ {W w : World} {n : Nat} (H : PNewing W w n (n + 1)) : PA w (W.heap.size + 3) (W.heap.size + 2) (W.heap.size + 1) W.heap.size (fun _ => W.heap.size + 4) (PSt.new n) := by
  refine ⟨H.pool, H.slots.trans ?_, fun i _ => H.life, ⟨H.head, H.next.trans ?_, by omega⟩, fun _ _ _ _ _ _ => rfl⟩
  · show some (tabObj (W.heap.size + 4) (n + 1) n) = some (ptrObj (fun _ => W.heap.size + 4) n)
    unfold tabObj ptrObj
    congr 3
    refine List.map_congr_left fun t ht => ?_
    unfold ptrTab
    rw [if_pos (List.mem_range.1 ht)]
  · congr 2
    congr 1
    congr 1
    funext k
    show fNew n k = (((if 1 ≤ k ∧ k < n then k + 1 else 0 : Nat)) : Int)
    unfold fNew
    by_cases e : 1 ≤ k ∧ k < n
    · rw [if_pos e, if_pos e]; omega
    · rw [if_neg e, if_neg e]; rfl
set_option maxRecDepth 100000 in
set_option maxHeartbeats 1600000 in
theorem cPNew (w : World) (n : Nat) (h1 : 1 ≤ n) (h2 : n ≤ 4096) : Calls Try.prog 5 #[.int .i64 n] w fun e w' => e = .returned (.tuple #[.pointer (some ⟨w.heap.size + 3, 0, none⟩), .int .i64 0]) ∧ Turned [] w w' ∧ PA w' (w.heap.size + 3) (w.heap.size + 2) (w.heap.size + 1) w.heap.size (fun _ => w.heap.size + 4) (PSt.new n) := by
  have HN := cNewPile w n 0 h1 h2 (by omega) (by omega)
  have hmk := run_makePtrs n (by omega)
  go_enter Try.func5, Try.ntmps5
  go_wp2_with (go_at_call 18; refine HN.mono ?_; rintro e w2 ⟨rfl, hN⟩; have hsz := hN.size; have H0 : Hid _ := PNewing.start hN)
  go_loopw [29] (fun i wx => ∃ k : Nat, k ≤ n + 1 ∧ i = .int .i64 k ∧ Hid (PNewing w wx n k)) (fun i _ => n + 1 - (intOf i).toNat)
  case atStart => exact ⟨0, Nat.zero_le _, rfl, H0⟩
  case round =>
    obtain ⟨k, hk, rfl, HT⟩ := hrel
    clear H0 hN hmk
    have cp : wr.cell? ⟨w.heap.size + 2 + 1, 0, none⟩ = some (.slice (some ⟨w.heap.size + 2, 0, none⟩) (n + 1) (n + 1)) := (cell_at HT.out.pool 0).trans (by simp)
    by_cases hkn : k < n + 1
    · have hlt : (k : Int) < (n : Int) + 1 := by omega
      have HSt := cPStore (a := ⟨w.heap.size + 2, k, none⟩) (b := w.heap.size + 2 + 1 + 1) (tab_cell HT.out.slots (by omega)) (froz_at HT.out.slots k) HT.out.life rfl
      go_wp2_with (go_at_call 19; refine HSt.mono ?_; rintro e w' ⟨rfl, rfl⟩)
      exact ⟨⟨k + 1, by omega, by go_num, HT.out.put⟩, by simp [intOf]; omega⟩
    · have : k = n + 1 := by omega
      subst this
      go_wp2
      go_ret2
      exact ⟨rfl, HT.out.turned, HT.out.end_⟩
end Go.Proofs.Ytfebndolnnaiiab
