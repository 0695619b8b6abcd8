/- Package pool's Slots, by contract. -/
import Derived.Test.YtfebndolnnaiiabPoolTold
import Derived.Test.YtfebndolnnaiiabRecs
namespace Go.Proofs.Ytfebndolnnaiiab
open Go.RowKit
theorem infoASlot : (Try.prog.info? 52).map (fun i => (i.zero, i.size, i.bytes)) = some (some (.agg #[.int .i64 0, .int .i64 0, .int .i64 0, .int .i64 0, .int .i64 0, .int .i64 0, .int .i64 0]), 7, 56) := by kernel_rfl
theorem undASlots : Try.prog.underlying 49 = some (.slice 52) := by kernel_rfl
abbrev zeros7 : Array Value := #[.int .i64 0, .int .i64 0, .int .i64 0, .int .i64 0, .int .i64 0, .int .i64 0, .int .i64 0]
theorem run_makeASlots (n : Nat) (h : n ≤ 1000000) (w : World) :
    (Instr.makeSlice 49 (.int .i64 n) (.int .i64 n)).run Try.prog w = .ok (.slice (some ⟨w.heap.size, 0, none⟩) n n) (w.alloc (.cells (madeCells zeros7 (n * 7)) 52)) := by
  obtain ⟨i, hi, hzz⟩ := Option.map_eq_some_iff.1 infoASlot
  simp only [Prod.mk.injEq] at hzz
  obtain ⟨hz, hs, hb⟩ := hzz
  have hr := run_make (P := Try.prog) w 49 52 i _ undASlots hi hz .i64 .i64 ((n : Nat) : Int) ((n : Nat) : Int) (by omega) (Int.le_refl _) (by rw [hb]; omega) (by omega)
  simp only [Int.toNat_natCast, hs] at hr
  exact hr
/-- The first t are told. -/
def sTab (f : Nat → Slot) (t : Nat) (j k : Nat) : Value := if j < t then sfld (f (j + 1)) k else .int .i64 0
theorem sTab_zero (f : Nat → Slot) (j k : Nat) : sTab f 0 j k = .int .i64 0 := by simp [sTab]
theorem sTab_next (f : Nat → Slot) (t : Nat) : upd2 (upd2 (upd2 (upd2 (upd2 (upd2 (upd2 (sTab f t) t 0 (sfld (f (t + 1)) 0)) t 1 (sfld (f (t + 1)) 1)) t 2 (sfld (f (t + 1)) 2)) t 3 (sfld (f (t + 1)) 3)) t 4 (sfld (f (t + 1)) 4)) t 5 (sfld (f (t + 1)) 5)) t 6 (sfld (f (t + 1)) 6) = fun j k => if k < 7 then sTab f (t + 1) j k else sTab f t j k := by
  funext j k
  unfold upd2 sTab
  by_cases e : j = t
  · subst e
    match k with
    | 0 => simp
    | 1 => simp
    | 2 => simp
    | 3 => simp
    | 4 => simp
    | 5 => simp
    | 6 => simp
    | k + 7 =>
      have : ¬ k + 7 < 7 := by omega
      simp [this]
  · have : (j < t + 1) = (j < t) := propext ⟨fun h => by omega, fun h => by omega⟩
    simp [e, this]
theorem rec_congr {T : TypeId} {sz n : Nat} {f g : Nat → Nat → Value} (h0 : 0 < sz) (h : ∀ j k, k < sz → f j k = g j k) : recObj T sz f n = recObj T sz g n := by
  unfold recObj
  congr 2
  refine List.map_congr_left fun t _ => ?_
  exact h _ _ (Nat.mod_lt _ h0)
section
variable {w : World} {p sb pb nb : Nat} {L : Nat → Nat} {s : PSt}
/-- A row of the list is laid. -/
theorem slots_put {wx : World} {g n t : Nat} {f : Nat → Slot} (h : wx.heap[g]? = some (recObj 52 7 (sTab f t) n)) :
    (((((((wx.setCell ⟨g, t * 7, none⟩ (sfld (f (t + 1)) 0)).setCell ⟨g, t * 7 + 1, none⟩ (sfld (f (t + 1)) 1)).setCell ⟨g, t * 7 + 2, none⟩ (sfld (f (t + 1)) 2)).setCell ⟨g, t * 7 + 3, none⟩ (sfld (f (t + 1)) 3)).setCell ⟨g, t * 7 + 4, none⟩ (sfld (f (t + 1)) 4)).setCell ⟨g, t * 7 + 5, none⟩ (sfld (f (t + 1)) 5)).setCell ⟨g, t * 7 + 6, none⟩ (sfld (f (t + 1)) 6)).heap[g]? = some (recObj 52 7 (sTab f (t + 1)) n) := by
  have h0 := rec_put h (i := t) (j := 0) (by decide) (sfld (f (t + 1)) 0)
  have h1 := rec_put h0 (i := t) (j := 1) (by decide) (sfld (f (t + 1)) 1)
  have h2 := rec_put h1 (i := t) (j := 2) (by decide) (sfld (f (t + 1)) 2)
  have h3 := rec_put h2 (i := t) (j := 3) (by decide) (sfld (f (t + 1)) 3)
  have h4 := rec_put h3 (i := t) (j := 4) (by decide) (sfld (f (t + 1)) 4)
  have h5 := rec_put h4 (i := t) (j := 5) (by decide) (sfld (f (t + 1)) 5)
  have h6 := rec_put h5 (i := t) (j := 6) (by decide) (sfld (f (t + 1)) 6)
  rw [sTab_next] at h6
  refine h6.trans (congrArg some (rec_congr (by decide) fun j k hk => ?_))
  rw [if_pos hk]
set_option maxRecDepth 100000 in
set_option maxHeartbeats 1600000 in
theorem cPSlots (h : PA w p sb pb nb L s) (hn : s.n ≤ 4096) : Calls Try.prog 17 #[.pointer (some ⟨p, 0, none⟩)] w fun e w' => e = .returned (.slice (some ⟨w.heap.size, 0, none⟩) s.n s.n) ∧ Turned [] w w' ∧ w'.heap[w.heap.size]? = some (recObj 52 7 (sTab s.slot s.n) s.n) := by
  have hmk := run_makeASlots s.n (by omega) w
  have c0 := cell_at h.pool 0
  simp at c0
  have hm : (.cells (madeCells zeros7 (s.n * 7)) 52 : Obj) = recObj 52 7 (sTab s.slot 0) s.n := by
    rw [show s.n * 7 = s.n * zeros7.size from rfl, rec_made]
    exact rec_congr (by decide) fun j k hk => by
      rw [sTab_zero]
      match k, hk with
      | 0, _ => rfl
      | 1, _ => rfl
      | 2, _ => rfl
      | 3, _ => rfl
      | 4, _ => rfl
      | 5, _ => rfl
      | 6, _ => rfl
  have H0 : Hid (Turned [] w (w.alloc (.cells (madeCells zeros7 (s.n * 7)) 52)) ∧ (w.alloc (.cells (madeCells zeros7 (s.n * 7)) 52)).heap[w.heap.size]? = some (recObj 52 7 (sTab s.slot 0) s.n)) := ⟨(Turned.refl _ _).alloc _, (blk_new w _).trans (congrArg some hm)⟩
  clear hm
  have HPA : Hid _ := h
  go_enter Try.func17, Try.ntmps17
  go_wp2
  go_loopw [14] (fun i wx => ∃ t : Nat, t ≤ s.n ∧ i = .int .i64 t ∧ Hid (Turned [] w wx ∧ wx.heap[w.heap.size]? = some (recObj 52 7 (sTab s.slot t) s.n))) (fun i _ => s.n - (intOf i).toNat)
  case atStart => exact ⟨0, Nat.zero_le _, rfl, H0⟩
  case round =>
    obtain ⟨t, ht, rfl, HT⟩ := hrel
    clear H0 h c0 hmk
    have hP : PA wr p sb pb nb L s := HPA.out.keep HT.out.1 (by simp)
    have c0 := cell_at hP.pool 0
    simp at c0
    by_cases hlt : t < s.n
    · have hlt2 : (t : Int) + 1 < (s.n : Int) + 1 := by omega
      have hlt3 : (t : Int) < (s.n : Int) := by omega
      have hlt4 : ((t + 1 : Nat) : Int) < (s.n : Int) + 1 := by omega
      have HLd := cPLoad (ptr_cell hP.slots (k := t + 1) (by omega)) (hP.life (t + 1) (by omega)) rfl
      have HTd := cTold (hP.life (t + 1) (by omega))
      have hgl := lt_of_heap HT.out.2
      have hgne : ¬ w.heap.size = wr.heap.size := by omega
      have z := froz_at HT.out.2
      have q0 : wr.cell? ⟨w.heap.size, t * 7, none⟩ = some (.int .i64 0) := (rec_cell HT.out.2 hlt (j := 0) (by decide)).trans (by simp [sTab])
      have q1 : wr.cell? ⟨w.heap.size, t * 7 + 1, none⟩ = some (.int .i64 0) := (rec_cell HT.out.2 hlt (j := 1) (by decide)).trans (by simp [sTab])
      have q2 : wr.cell? ⟨w.heap.size, t * 7 + 2, none⟩ = some (.int .i64 0) := (rec_cell HT.out.2 hlt (j := 2) (by decide)).trans (by simp [sTab])
      have q3 : wr.cell? ⟨w.heap.size, t * 7 + 3, none⟩ = some (.int .i64 0) := (rec_cell HT.out.2 hlt (j := 3) (by decide)).trans (by simp [sTab])
      have q4 : wr.cell? ⟨w.heap.size, t * 7 + 4, none⟩ = some (.int .i64 0) := (rec_cell HT.out.2 hlt (j := 4) (by decide)).trans (by simp [sTab])
      have q5 : wr.cell? ⟨w.heap.size, t * 7 + 5, none⟩ = some (.int .i64 0) := (rec_cell HT.out.2 hlt (j := 5) (by decide)).trans (by simp [sTab])
      have q6 : wr.cell? ⟨w.heap.size, t * 7 + 6, none⟩ = some (.int .i64 0) := (rec_cell HT.out.2 hlt (j := 6) (by decide)).trans (by simp [sTab])
      go_wp2_with (first
        | (go_at_call 21; refine HLd.mono ?_; rintro e w' ⟨rfl, hw⟩; obtain rfl := hw.symm)
        | (go_at_call 35; refine HTd.mono ?_; rintro e w' ⟨rfl, rfl⟩))
      have m : w.heap.size ∈ ([] : List Nat) ∨ w.heap.size ≤ w.heap.size := .inr (Nat.le_refl _)
      exact ⟨⟨t + 1, by omega, by go_num, ⟨((((((((HT.out.1.set m _ _).set m _ _).set m _ _).set m _ _).set m _ _).set m _ _).set m _ _).alloc _).drew, blk_old (slots_put HT.out.2) _⟩⟩, by simp [intOf]; omega⟩
    · have : t = s.n := by omega
      subst this
      go_wp2
      go_ret
      exact ⟨rfl, HT.out.1, HT.out.2⟩
end
end Go.Proofs.Ytfebndolnnaiiab
